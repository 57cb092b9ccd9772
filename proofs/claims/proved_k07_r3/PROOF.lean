import PyProof.Rows.All
import Wide.All
import OpenK.AllK
import Lean
import PyProof.EqAt
import PyProof.EqKinds
import PyProof.TupleCall
import PyProof.CompFree
import PyProof.CompUse
import PyProof.Cells
import PyProof.P3Eq
import PyProof.NeData
import PyProof.ZipIter
import PyProof.WalksMore
import KE.LcSums
import PyProof.Rows.CallKwBuiltin
import PyProof.SetRoads
import PyProof.Rows.SetFrom
import PyProof.StrWalks
import PyProof.Draws
import PyProof.EnumMake
import KE.KDictLaws
import PySem.Challenge.RW_whisperwall_k07_whole_levels_or_a_trail
set_option Elab.async false
set_option linter.all false
set_option maxRecDepth 100000
set_option maxHeartbeats 4000000
set_option genSizeOfSpec false
open Array renaming ext'→xp,getD_eq_getD_getElem?→qg,length_toList→di,getElem?_toList→gz,getElem?_eq_getElem→h8,forIn_toList→Ri
open Bool renaming false_ne_true→eJ,and_eq_true→gS,true→cf,false→en,false_eq_true→ft,not_true→qm,not_false→A9
open Classical renaming byContradiction→OX
open Decidable renaming decide→eH
open Int renaming le_refl→oq,eq_ofNat_of_zero_le→An,toNat_natCast→qp
open List renaming mem_cons_of_mem→bx,mem_cons_self→bw,mem_append_left→iw,mem_append_right→iy,mem_map_of_mem→gh,map_congr_left→qe,mergeSort_perm→jb,nodup_nil→lu,getElem_of_mem→kR,mem_of_getElem?→gL,getElem?_eq_getElem→eg,length_map→a6,map_map→b6,map_cons→cj,length_append→fA,length_cons→hJ,size_toArray→dw,getElem?_map→fc,getElem?_append_left→km,getElem?_append_right→qk,length_singleton→nI,any_eq_true→tT,foldl_cons→As,map_append→gi,append_assoc→vk,filterMap_eq_map'→r8,take_of_length_le→r9,append_nil→vm,perm_ext_iff_of_nodup→xA,getElem?_eq_some_iff→fx,mem_cons→h7,range→iS,replicate→i5,getD_eq_getElem?_getD→js,not_mem_nil→jI,getElem?_eq_none→kv,getElem?_set_ne→k6,getElem?_set_self→lh,mem_append→lz,mem_range→my,lookup_cons→pK,nodup_append→qu,length_range→qw,forIn_cons→rp,eq_nil_of_length_eq_zero→sa,filterMap_cons→tE,take_append_of_le_length→ym,ext_getElem?→yv,mem_filter→zj,length_take→zl,pairwise_map→L5,prefix_rfl→OW,all_eq_true→P2
open List.Perm renaming eq_of_pairwise→yz
open List.cons renaming injEq→OV
open Nat renaming le_refl→a8,le_trans→fN,lt_of_le_of_lt→qc,lt_of_lt_of_le→iq,lt_succ_self→qd,lt_succ_of_lt→jn,le_succ→oo,zero_le→eC,ne_of_lt→cc,ne_of_gt→iz,le_of_ble_eq_true→fR,le_of_lt→mf,lt_irrefl→iA,not_lt_zero→ki,le_of_not_lt→xq,le_add_right→qi,pow_le_pow_right→pg,lt_trans→L4
open Option renaming bind_some→bS,map_some→j2,some→aV,none→a0,isSome_iff_exists→oD
open Option.some renaming inj→b5
open PyProof.Rows renaming IsTup→vp,callWith_type1→l5,slot_tuple_getitem→uf,callWith_builtin1→XH
open PyProof.Rows.F renaming plain_set_update_loop→oC,entry_set_update_loop→yf
open PySem renaming wpAny_bind→ab,wpAny_pure→ag,wpAny_mono→e9,wpAny_holding→fg,wpAny_call_entry→kg,codeAny_builtin→jc,codeAny_mono→tN,sizeLine_eq→fS,typeLookup_type→rX,builtinLookup_eq_fast→r6,codeAny_of_tree→Au,wpAny_newList→t5,wpAny_newObj_type→kn,wpAny_rule→mE,wpAny_runValue→yu,wpAny→fj,Shared→fu,starEach→gm,model→gx,Spec→g6,mainGlobals→ly,SetTable→nt,wpAny_setState_of→n9,rawInt→qf,plainId_quiet→rz,compareOp→sh,sysModules→t4,wpAny_specialOf→va,attributeBase→vb,wpAny_typeOf→vz,World→wy,wpAny_isInstance→zk,wpAny_callSpecial?_slot→zm,wpAny_askSetting→z8,wpAny_seqItems→D4,foldedSetIterable→I0,NameKind→OZ
open PySem.Around renaming under_plainId→j3
open PySem.Builtin.List renaming listLengthHint→t8,listExtendWith→ub
open PySem.Builtin.Tuple renaming tupleHashOf→xl,tupleExact→yx
open PySem.Calls renaming spliced_cons→ny,spliced_nil→qh,call_function_entry→vo,callWith_builtin→L3
open PySem.Challenge renaming pw_whisperwall_k07_whole_levels_or_a_trail→lp
open PySem.F renaming plain_extend_loop→sx,plainAttrs_list→zB
open PySem.Heap renaming get?_push_of_some→cx,get?_push_size→dm,lt_size→bg,get?_update_self→nv,size_push→kS,SameBut→vw,get?_update_other→wh
open PySem.Heap.SameBut renaming update→tJ
open PySem.NameKind renaming free→rr,cell→sZ
open PySem.Obj renaming mapSeq→sX
open PySem.SetTable renaming grown→OU
open PySem.Str renaming ofString→fi
open PySem.Value renaming ref→gg,none→ye
open PySem.W renaming mg_none_of→mr,nsIn→rd
open Sum renaming inr→kf
open Sum.inr renaming inj→j1
abbrev p5:=PySem.W.Frag
abbrev p6:List PySem.Str:=["_law_script","_law_program_here","_law_names_here","_law_pairs","_law_house_here","_law_some","_law_mine","_law_levels_here","_law_found","_law_told","_law_name_here"]
abbrev p9:List PySem.Str:=["program","house","told","onward","levels","level","starts","came_from","trail","9"]
abbrev pf:List PySem.Str:=["_law_script","_law_k"]
theorem az{α β:Type _}{x:Option α}{f:α->Option β}{b:β}(h:x.bind f=aV b):∃a,x=aV a/\f a=aV b:=Option.bind_eq_some_iff.mp h
theorem bX{α β:Type _}{x:Option α}{f:α->β}{b:β}(h:x.map f=aV b):∃a,x=aV a/\f a=b:=Option.map_eq_some_iff.mp h
theorem cq{α:Type _}{a b:α}{l:List α}(h:a∈b::l):a=b\/a∈l:=h7.mp h
theorem dg{α:Type _}{a:α}{l r:List α}(h:a∈l++r):a∈l\/a∈r:=lz.mp h
theorem ck{α β:Type _}{b:β}{l:List α}{f:α->β}(h:b∈l.map f):∃a,a∈l/\f a=b:=List.mem_map.mp h
theorem fw{α:Type _}{a b:α}(h:a∈[b]):a=b:=List.mem_singleton.mp h
theorem me{α:Type _}{p:α->Bool}{l:List α}{a:α}(h:a∈l.filter p):a∈l/\p a=cf:=zj.mp h
theorem nj{α:Type _}{a:α}{l:List α}(h:(a::l).Nodup):a∉l/\l.Nodup:=List.nodup_cons.mp h
theorem nq{α:Type _}{l:List α}{p:α->Bool}(h:l.all p=cf):∀x∈l,p x=cf:=P2.mp h
abbrev cz:=@decide_eq_true
abbrev df:=@decide_eq_false
abbrev eW:=@of_decide_eq_true
abbrev ah:=@if_pos
abbrev ak:=@if_neg
section
variable{A:PySem.Around}{E Q:PySem.Value->PySem.Shared->Prop}{I a f i1 i2 it z:PySem.Addr}{K:p5}{M N loose own ps ss:List PySem.Str}{P prog:PySem.Program}{R:PySem.Result->PySem.Shared->Prop}{RR:PySem.Value->PySem.Addr->PySem.Result->PySem.Shared->Prop}{T:String}{W i j mask n t':Nat}{XP:(PySem.Str->Option PySem.Value)->PySem.Heap->Prop}{YP:PySem.World->PySem.Heap->Prop}{apos bP p p1 p2 pos pos' q1 q2:PySem.Pos}{b c e elt iter o tg:PySem.Expr}{base h h':PySem.Heap}{body:List PySem.Stmt}{ch fp ρ ρ':List PySem.Addr}{elts es ifs:List PySem.Expr}{fd:PySem.FuncData}{hs ns:List Int}{items:Array PySem.Value}{its l us vs:List PySem.Value}{mg:PySem.Str->Option PySem.Value}{mu:Bool}{name qual x:PySem.Str}{ob:PySem.Obj}{op:PySem.CmpOp}{qS:Array (Option PySem.Value)}{owner:Array (Option Nat)}{pi:List (PySem.Addr×PySem.Obj)}{s:PySem.Shared}{scope:PySem.Scope}{st:PySem.Stmt}{u:PySem.Value}{w:PySem.World}
namespace L2
open PySem PySem.Spec PyProof.Rows
abbrev Key:=Sum Int Str
noncomputable def JQ:Key->Value->Bool
 | .inl k,v=>Value.isInt k v
 | .inr x,v=>Value.isStrOf x v
noncomputable def aP(w:wy):Key->Int
 | .inl k=>hashInt k
 | .inr x=>hashStr w x
theorem FT:∀{k:Key} {v:Value},JQ k v=cf->(∃i t,k=Sum.inl i/\v=Value.int i t)\/(∃x t,k=kf x/\v=Value.str x t)
 | .inl i,v,h=>by
  obtain⟨t,e⟩:=Value.isInt_shape (k:=i) (v:=v) h;exact .inl ⟨i,t,rfl,e⟩
 | .inr x,v,h=>by
  obtain⟨t,e⟩:=Value.isStrOf_shape (x:=x) (v:=v) h;exact .inr ⟨x,t,rfl,e⟩
theorem xY(i:Int)(t:Tok):JQ (.inl i) (.int i t)=cf:=by simp[JQ,Value.isInt]
theorem xX(x:Str)(t:Tok):JQ (.inr x) (.str x t)=cf:=by simp[JQ,Value.isStrOf]
theorem Qx(a b:Int):eH ((Sum.inl a:Key)=Sum.inl b)=(a==b):=by
 by_cases e:a=b
 .subst e;simp
 .have h:¬(Sum.inl a:Key)=Sum.inl b:=λq=>e (Sum.inl.inj q)
  rw[df h];exact(beq_eq_false_iff_ne.mpr e).symm
theorem Qu(a b:Str):eH ((kf a:Key)=kf b)=eH (a=b):=by
 by_cases e:a=b
 .subst e;simp
 .have h:¬(kf a:Key)=kf b:=λq=>e (j1 q)
  rw[df h,df e]
theorem Qw(a:Int)(b:Str):eH ((Sum.inl a:Key)=kf b)=en:=df (λq=>nomatch q)
theorem Qv(a:Str)(b:Int):eH ((kf a:Key)=Sum.inl b)=en:=df (λq=>nomatch q)
noncomputable def CK(prog:Program)(w:wy):PySem.KeyKind prog w Key where
 is:=JQ
 hash:=aP w
 inj:=λv a b ha hb=>by
  rcases FT ha with ⟨i,t,rfl,rfl⟩ | ⟨x,t,rfl,rfl⟩
  .rcases FT hb with ⟨j,u,rfl,e⟩ | ⟨y,u,rfl,e⟩
   .injection e with e1 _;rw[e1]
   .exact nomatch e
  .rcases FT hb with ⟨j,u,rfl,e⟩ | ⟨y,u,rfl,e⟩
   .exact nomatch e
   .injection e with e1 _;rw[e1]
 byValue:=λk v h=>by
  rcases FT h with ⟨i,t,rfl,rfl⟩ | ⟨x,t,rfl,rfl⟩<;>rfl
 pyHash:=λhv h=>by
  rcases FT hv with ⟨i,t,rfl,rfl⟩ | ⟨x,t,rfl,rfl⟩
  .exact wpAny_pyHash_int h
  .exact wpAny_pyHash_str h
 eqBool:=λhu hv h=>by
  rcases FT hu with ⟨i,t,rfl,rfl⟩ | ⟨x,t,rfl,rfl⟩
  .rcases FT hv with ⟨j,u,rfl,rfl⟩ | ⟨y,u,rfl,rfl⟩
   .rw[Qx]at h;exact wpAny_eqBool_int h
   .rw[Qw]at h;exact SeqAt.EqAt.int_str i t y u _ _ _ _ h
  .rcases FT hv with ⟨j,u,rfl,rfl⟩ | ⟨y,u,rfl,rfl⟩
   .rw[Qv]at h;exact SeqAt.EqAt.str_int x t j u _ _ _ _ h
   .rw[Qu]at h;exact wpAny_eqBool_str h
 «strs»:=λk x t v h=>by
  rcases FT h with ⟨i,u,rfl,e⟩ | ⟨y,u,rfl,e⟩
  .exact nomatch e
  .injection e with e1 _
   subst e1;cases v<;>rfl
theorem oA(prog:Program)(w:wy)(i:Int)(t:Tok):(CK prog w).is (.inl i) (.int i t)=cf:=xY i t
theorem o9(prog:Program)(w:wy)(x:Str)(t:Tok):(CK prog w).is (.inr x) (.str x t)=cf:=xX x t
end L2
variable{ks:List L2.Key}{xs:List (List L2.Key×PySem.Addr×PySem.Value)}
namespace L2
open PySem PySem.Spec PyProof.Rows
inductive V where
 | aE | bl (b:Bool) | int (i:Int) | str (x:Str) | kh (b:Array UInt8) | CU (b:UInt64) | ref (a:Addr) | ty (n:String)
 deriving DecidableEq
def RelV:V->Value->Prop
 | .aE,u=>u=ye
 | .bl b,u=>u=Value.bool b
 | .int i,u=>∃t,u=Value.int i t
 | .str x,u=>∃t,u=Value.str x t
 | .kh b,u=>∃t,u=Value.bytes b t
 | .CU b,u=>∃t,u=Value.float b t
 | .ref a,u=>u=gg a
 | .ty n,u=>u=Value.type n
abbrev Vals:List V->List Value->Prop:=Paired RelV
theorem Vals.length{xs:List V}{us:List Value}(r:Vals xs us):xs.length=us.length:=Paired.length r
theorem Vals.get:∀{xs:List V} {us:List Value} {i:Nat} {x:V},Vals xs us->xs[i]?=aV x->∃u,us[i]?=aV u/\RelV x u
 | _,_,_,_,.nil,e=>by simp at e
 | _,_,0,_,.cons r _,e=>by simp at e;subst e;exact⟨_,rfl,r⟩
 | _,_,i+1,x,.cons _ t,e=>by
  obtain⟨u,C,B⟩:=Vals.get (i:=i) (x:=x) t (by simpa using e);exact⟨u,by simpa using C,B⟩
theorem Vals.set{x:V}{u:Value}(r:RelV x u):∀{xs:List V} {us:List Value} (i:Nat),Vals xs us->Vals (xs.set i x) (us.set i u)
 | _,_,_,.nil=>.nil
 | _,_,0,.cons _ t=>.cons r t
 | _,_,i+1,.cons q t=>.cons q (Vals.set r i t)
theorem Vals.append{xs ys:List V}{ws:List Value}(h:Vals xs us)(g:Vals ys ws):Vals (xs++ys) (us++ws):=by
 induction h with
 | nil=>exact g
 | cons r t B=>exact .cons r B
theorem Vals.take:∀{xs:List V} {us:List Value} (n:Nat),Vals xs us->Vals (xs.take n) (us.take n)
 | _,_,0,_=>.nil
 | _,_,_+1,.nil=>.nil
 | _,_,n+1,.cons r t=>.cons r (Vals.take n t)
theorem Vals.drop:∀{xs:List V} {us:List Value} (n:Nat),Vals xs us->Vals (xs.drop n) (us.drop n)
 | _,_,0,r=>r
 | _,_,_+1,.nil=>.nil
 | _,_,n+1,.cons _ t=>Vals.drop n t
def oi:Option V->Option Value->Prop
 | some v,aV u=>RelV v u
 | none,a0=>True
 | _,_=>False
def KV{κ:Type}:List (κ×V)->List (κ×Value)->Prop:=Paired λ(p:κ×V) (q:κ×Value)=>p.1=q.1/\RelV p.2 q.2
noncomputable def kV:Key->V
 | .inl i=>.int i
 | .inr x=>.str x
end L2
variable{kvs:List (L2.Key×L2.V)}{y:L2.V}{ys:List L2.V}
namespace PySem
open Sem (wp)
open L2
abbrev FK:=Str×Str×(Int ⊕ Str)
noncomputable def gn(k:FK):List (Int ⊕ Str):=[.inr k.2.1,k.2.2]
def g7(prog:Program)(w:wy)(h:Heap)(k:FK)(a:Addr):Prop:=∃o items n t b,h.get? a=aV o/\o.cls=.type "tuple"/\o.data=.seq items n/\items.toList=[.str k.1 t,.ref b]/\IsTupleKey (CK prog w) h (gn k) b
theorem g7.typeIs{k:FK}(x:g7 prog w s.heap k a):s.TypeIs (.ref a) "tuple":=by
 obtain⟨o,_,_,_,_,B,C,_⟩:=x;exact⟨o,B,C⟩
theorem Fw{x y:FK}(C:x.1=y.1)(B:gn x=gn y):x=y:=by
 obtain⟨a,b,c⟩:=x;obtain⟨O,G,U⟩:=y;simp only[gn,OV,Sum.inr.injEq,and_true]at C B;rw[C,B.1,B.2]
theorem g7.inj{h:Heap}{a:Addr}{x y:FK}(Y:g7 prog w h x a)(U:g7 prog w h y a):x=y:=by
 obtain⟨o,items,n,t,b,Z,_,hd,hi,hb⟩:=Y;obtain⟨bt,Jm,cn,t',jm,G,_,C,B,O⟩:=U;obtain rfl:o=bt:=b5 (Z.symm.trans G);rw[hd]at C;injection C with h1 _;subst h1;rw[hi]at B;simp only[OV,Value.str.injEq,Value.ref.injEq,and_true]at B;obtain⟨⟨e1,_⟩,rfl⟩:=B;exact Fw e1 (hb.inj O)
theorem g7.keeps{h h':Heap}{k:FK}{a d:Addr}{o:Obj}{es ep}(x:g7 prog w h k a)(G:h.get? d=aV o)(hd:o.data=.dict es ep)(hs:vw d h h'):g7 prog w h' k a:=by
 obtain⟨bt,items,n,t,b,C,O,B,hi,U⟩:=x;have Y:a≠d:=by
  rintro rfl;obtain rfl:bt=o:=b5 (C.symm.trans G);rw[hd]at B;exact nomatch B
 exact⟨bt,items,n,t,b,(hs.2 a Y).trans C,O,B,hi,U.keeps G hd hs⟩
noncomputable def cM(prog:Program)(w:wy)(k:FK):Int:=reduceHash (xl [(CK prog w).hash (.inr k.1),tupleKeyHash (CK prog w) (gn k)])
theorem R4{t:Tok}:(CK prog w).is (.inr x) (.str x t)=cf:=by
 show JQ (.inr x) (.str x t)=cf;simp[JQ,Value.isStrOf]
theorem W0{k:FK}{Q:Int->fu->Prop}(U:A.units+10<cLine)(hk:g7 prog w s.heap k a)(h:Q (cM prog w k) { s with toks:=s.toks+5 }):
  fj (gx prog w) A (pyHash (.ref a)) Q E s:=by
 have C:=hk.typeIs;obtain⟨o,items,n,t,b,G,_,hd,hi,O⟩:=hk;unfold pyHash
 first | unfold pyHashByItsType | skip
 first | refine ab (wpAny_cRoomFor_or (.inr (by lia)) ?_) | skip
 refine ab (va C F.slot_tuple_hash.lookup ?_);show fj _ _ (if (aV (Value.builtin "tuple.__hash__")==aV ye)=cf then _ else _) Q E s;rw[ak (by rw[beq_builtin_none];exact eJ)];refine ab (va C F.slot_tuple_hash.lookup ?_);show fj _ _ (callSpecialIfBoundUnlessNone? (.ref a) "__hash__" _ >>= _) Q E s;refine ab (wpAny_callSpecialIfBoundUnlessNone?_slot C F.slot_tuple_hash (kg F.slot_tuple_hash C F.entry_tuple_hash ?_ (F.args_tuple_hash_1 _)));show fj _ _ (Builtin.Tuple.tupleItemsOf (.ref a) >>= _) _ _ s;refine ab (wpAny_tupleItemsOf G hd ?_);refine ab ?_;rw[<-Ri,hi];rw[rp];refine ab ?_;refine ab ((CK prog w).pyHash (k:=.inr k.1) R4 ?_);refine ag ?_;show fj _ _ (forIn [gg b] _ _) _ _ _;rw[rp];refine ab ?_;refine ab (wpAny_pyHash_tuple (ks:=gn k) (show A.units+1<cLine by lia) O ?_);refine ag ?_;show fj _ _ (forIn ([]:List Value) _ _) _ _ _;rw[List.forIn_nil];refine ag ?_;show fj _ _ (retInt (xl [(CK prog w).hash (.inr k.1),tupleKeyHash (CK prog w) (gn k)])) _ _ _;refine wpAny_ret_mkInt ?_;show fj _ _ (if (eH (-(2:Int) ^ 63<=xl [(CK prog w).hash (.inr k.1),tupleKeyHash (CK prog w) (gn k)])&&eH (xl [(CK prog w).hash (.inr k.1),tupleKeyHash (CK prog w) (gn k)]<2 ^ 63))=cf then _ else _) Q E _;unfold cM reduceHash at h
 by_cases B:(eH (-(2:Int) ^ 63<=xl [(CK prog w).hash (.inr k.1),tupleKeyHash (CK prog w) (gn k)])&&eH (xl [(CK prog w).hash (.inr k.1),tupleKeyHash (CK prog w) (gn k)]<2 ^ 63))=cf
 .rw[ah B]
  rw[ah B]at h;exact ag (by simpa[Nat.add_assoc,gn] using h)
 .rw[ak B]
  rw[ak B]at h;exact ab (mE (ag (by simpa[Nat.add_assoc,gn] using h)))
theorem jV{x y:FK}{b:Addr}{P:Fin->fu->Prop}(hu:A.units+5<cLine)(hx:g7 prog w s.heap x a)(O:g7 prog w s.heap y b)(h:P (.done (.ret (.bool (eH (x=y))))) s):
  fj (gx prog w) A (Builtin.«tuple.__eq__» ⟨[.ref a,.ref b],[]⟩) P E s:=by
 have Dh:=O.typeIs;obtain⟨oa,xs,na,ta,Y,DZ,_,Dp,Im,AF⟩:=hx;obtain⟨ob,ys,nb,Z,U,k7,_,jq,Io,AG⟩:=O;show fj _ _ (isInstance (.ref b) (.type "tuple") >>= _) _ _ s;refine ab (zk Dh isSubtype_tuple_tuple ?_);simp only[qm,ft,if_false];refine ab (wpAny_tupleItemsOf DZ Dp ?_);refine ab (wpAny_tupleItemsOf k7 jq ?_);refine ab ?_;have G:xs.size==ys.size:=by
  have C:xs.size=2:=by rw[<-di,Im];rfl
  have B:ys.size=2:=by rw[<-di,Io];rfl
  simp[C,B]
 rw[Im,Io];show fj _ _ (forIn [(Value.str x.1 ta,Value.str y.1 Z),(gg Y,gg U)] _ _) _ _ _;rw[rp];refine ab ?_;refine ab ((CK prog w).eqBool (a:=.inr x.1) (b:=.inr y.1) R4 R4 ?_)
 by_cases C:x.1=y.1
 .rw[cz (show (kf x.1:Key)=.inr y.1 by rw[C])]
  simp only[qm,ft,if_false];refine ag ?_;show fj _ _ (forIn [(gg Y,gg U)] _ _) _ _ _;rw[rp];refine ab ?_;refine ab (wpAny_eqBool_tuple (x:=gn x) (y:=gn y) (by lia) AF AG ?_)
  by_cases B:gn x=gn y
  .rw[cz B]
   simp only[qm,ft,if_false];refine ag ?_;show fj _ _ (forIn ([]:List (Value×Value)) _ _) _ _ _;rw[List.forIn_nil];refine ag (ag ?_);rw[cz (Fw C B)]at h;show P (.done (.ret (.bool (xs.size==ys.size)))) s;rw[G];exact h
  .rw[df B]
   simp only[A9,if_true];rw[df λe=>B (by rw[e])]at h;exact ab (ag (ag (ag (ag h))))
 .rw[df (show ¬(kf x.1:Key)=.inr y.1 from λe=>C (j1 e))]
  simp only[A9,if_true];rw[df λe=>C (by rw[e])]at h;exact ab (ag (ag (ag (ag h))))
theorem O8{x y:FK}{b:Addr}{Q:Bool->fu->Prop}(O:A.units+10<cLine)(B:g7 prog w s.heap x a)(C:g7 prog w s.heap y b)(h:Q (eH (x=y)) s):
  fj (gx prog w) A (eqBool (.ref a) (.ref b)) Q E s:=by
 unfold eqBool
 try with_reducible refine fg ?_
 show fj _ _ (if (gg a==gg b)=cf then _ else _) Q E s
 by_cases G:(gg a==gg b)=cf
 .rw[ah G]
  have e:a=b:=by have:=eq_of_beq G;injection this
  subst e;obtain rfl:=B.inj C;exact ab (mE (ag (by simpa using h)))
 .rw[ak G]
  exact ab (wpAny_richCompare_same_room (op:=.Eq) B.typeIs C.typeIs F.slot_tuple_eq
   (kg F.slot_tuple_eq B.typeIs F.entry_tuple_eq (jV (by show A.units+1+5<cLine;lia) B C ⟨_,rfl,(λe=>nomatch e),wpAny_truthy_bool h⟩) (F.args_tuple_eq_2 _ _)) (by lia))
theorem nF{Q:Bool->fu->Prop}(hk:IsTupleKey (CK prog w) s.heap ks a)(h:Q cf s):fj (gx prog w) A (eqIsQuiet (n+1) (.ref a)) Q E s:=by
 have O:=hk.typeIs;obtain⟨o,items,n,Y,_,hd,hi⟩:=hk;unfold eqIsQuiet;refine ab (va O F.slot_tuple_eq.lookup ?_);show fj _ _ (isInstance (.ref a) (.type "tuple") >>= _) _ _ s;refine ab (zk O isSubtype_tuple_tuple ?_);simp only[qm,ft,if_false];refine ab (D4 Y hd ?_);refine ab ?_;show fj _ _ (forIn items _ _) _ _ s;rw[<-Ri];refine wpAny_forIn_list _ (λrest r B=>r.1=a0/\B=s/\∀v∈rest,carriedByValue v=cf) _ ?_ ?_ _ _ ⟨rfl,rfl,hi.byValue⟩
 .rintro v rest r B ⟨C,rfl,G⟩
  rw[eqIsQuiet_byValue _ (G v bw)];refine ab (ag ?_);simp only[qm,ft,if_false];exact ag ⟨rfl,rfl,λu U=>G u (bx _ U)⟩
 .rintro ⟨r1,Z⟩ B ⟨C,rfl,_⟩
  simp only at C;subst C;exact ag h
theorem RQ{k:FK}{Q:Bool->fu->Prop}(hk:g7 prog w s.heap k a)(h:Q cf s):fj (gx prog w) A (eqIsQuiet 8 (.ref a)) Q E s:=by
 have B:=hk.typeIs;obtain⟨o,items,n,t,b,C,_,hd,hi,G⟩:=hk;unfold eqIsQuiet;refine ab (va B F.slot_tuple_eq.lookup ?_);show fj _ _ (isInstance (.ref a) (.type "tuple") >>= _) _ _ s;refine ab (zk B isSubtype_tuple_tuple ?_);simp only[qm,ft,if_false];refine ab (D4 C hd ?_);refine ab ?_;show fj _ _ (forIn items _ _) _ _ s;rw[<-Ri,hi,rp];refine ab ?_;rw[eqIsQuiet_byValue _ rfl];refine ab (ag ?_);simp only[qm,ft,if_false];refine ag ?_;show fj _ _ (forIn [gg b] _ _) _ _ _;rw[rp];refine ab ?_;refine ab (nF (n:=6) G ?_);simp only[qm,ft,if_false];refine ag ?_;show fj _ _ (forIn ([]:List Value) _ _) _ _ _;rw[List.forIn_nil];exact ag (ag h)
noncomputable def X4(prog:Program)(w:wy):HeapKind prog w FK where
 is:=g7 prog w
 hash:=cM prog w
 draws:=λ_=>5
 room:=λA=>A.units+10<cLine
 inj:=λhx hy=>hx.inj hy
 keeps:=λx ho hd hs=>x.keeps ho hd hs
 pyHash:=λhu hk h=>W0 hu hk (by simpa using h)
 eqBool:=λhu hx hy h=>O8 hu hx hy h
 quiet:=λhk h=>RQ hk h
end PySem
namespace L2
open PySem PySem.Spec PyProof.Rows
inductive HO where
  | dF (xs:List (FK×Addr))
  | lst (xs:List V)
  | tup (xs:List V)
  | dK (kvs:List (Key×V)) | dT (kvs:List (List Key×V))
  | set (S:Int->Bool) (n:Nat)
  | own (x:Addr)
  | jx (lo hi:Int)
  | bp (o:Obj) (u:HO)
  | tf (ps:Array Value)
  | ext (u3:Heap->Prop)
abbrev Hp:=Addr->Option HO
noncomputable def upd(H:Hp)(a:Addr)(o:HO):Hp:=λb=>if b=a then aV o else H b
theorem CT{H:Hp}{o:HO}:upd H a o a=aV o:=by unfold upd;rw[ah rfl]
theorem CJ{H:Hp}{b:Addr}{o:HO}(h:b≠a):upd H a o b=H b:=by unfold upd;rw[ak h]
theorem tR{H:Hp}{o u:HO}:upd (upd H a o) a u=upd H a u:=by
 funext b;unfold upd;split<;>rfl
theorem Sf{H:Hp}{b:Addr}{o u:HO}(h:H a=aV o)(h':H b=aV u)(d:o≠u):a≠b:=by
 intro e;subst e;rw[h]at h';exact d (b5 h')
theorem FZ{H:Hp}{b:Addr}{o:HO}(h:H a=aV o)(h':H b=a0):a≠b:=by
 intro e;subst e;rw[h]at h';cases h'
section
variable(P:Program)(w:wy)
def dS(H:Hp)(h:Heap)(a:Addr):HO->Prop
 | .lst xs=>xs.length<=sizeLine/\∃(its:List Value) (n:Nat),Vals xs its/\h.get? a=aV { cls:=.type "list",data:=.seq its.toArray n }
 | .tup xs=>xs.length<=sizeLine/\∃its:List Value,Vals xs its/\IsTup h a its.toArray
 | .dK kvs=>kvs.length<=sizeLine/\(a==t4)=en/\∃vs,KV kvs vs/\h.DictOf (CK P w) a vs
 | .dT kvs=>kvs.length<=sizeLine/\(a==t4)=en/\∃xs:List (List Key×Addr×Value),
   Paired (λ(p:List Key×V) (q:List Key×Addr×Value)=>p.1=q.1/\H q.2.1=aV (.tup (p.1.map kV))/\RelV p.2 q.2.2) kvs xs/\
   ∃o es ep,h.get? a=aV o/\o.ExactDict/\o.data=.dict es ep/\es.toList=xs.map (entryOfKey (tupleKind (CK P w)))/\(xs.map (·.1)).Nodup
 | .dF xs=>xs.length<=sizeLine/\(a==t4)=en/\∃o es ep,h.get? a=aV o/\o.ExactDict/\o.data=.dict es ep/\es.toList=xs.map (λx=>entryOfKey (X4 P w) (x.1,x.2,.bool cf))/\(xs.map (·.1)).Nodup
 | .set S n=>h.SetOf (intKind P w) a S n
 | .own _=>∃o,h.get? a=aV o
 | .jx lo hi=>∃t u v,h.get? a=aV { cls:=.type "range",data:=.fields #[.int lo t,.int hi u,.int 1 v] }
 | .bp o u=>h.get? a=aV o/\dS H h a u
 | .tf ps=>h.get? a=aV { cls:=.none,data:=.fields ps }
 | .ext u3=>u3 h/\(∃o,h.get? a=aV o)/\∀C B:Heap,u3 C->(∀o,C.get? a=aV o->B.get? a=aV o)->u3 B
def eL(H:Hp)(h:Heap):Prop:=∀a o,H a=aV o->dS P w H h a o
end
section
variable{H aa:Hp}{o:HO}
theorem dS.lt(x:dS P w H h a o):a<h.objs.size:=by
 cases o with
 | lst xs=>obtain⟨_,_,_,_,e⟩:=x;exact bg e
 | tup xs=>obtain⟨_,_,_,p⟩:=x;exact p.lt
 | dK kvs=>obtain⟨_,_,_,_,o,_,_,e,_⟩:=x;exact bg e
 | dT kvs=>obtain⟨_,_,_,_,o,_,_,e,_⟩:=x;exact bg e
 | dF kvs=>obtain⟨_,_,o,_,_,e,_⟩:=x;exact bg e
 | set S n=>obtain⟨o,_,_,_,e,_⟩:=x;exact bg e
 | own y=>obtain⟨_,e⟩:=x;exact bg e
 | jx lo hi=>obtain⟨_,_,_,e⟩:=x;exact bg e
 | bp ob u=>obtain⟨e,_⟩:=x;exact bg e
 | tf ps=>exact bg (show h.get? a=aV _ from x)
 | ext u3=>obtain⟨_,⟨_,e⟩,_⟩:=x;exact bg e
theorem Paired.JA{α β:Type}{F G:α->β->Prop}{l₁:List α}{l₂:List β}(h:Paired F l₁ l₂)(f:∀a b,F a b->G a b):Paired G l₁ l₂:=by
 induction h with
 | nil=>exact .nil
 | cons r t B=>exact .cons (f _ _ r) B
theorem dS.ig(x:dS P w H h a o)(k:∀b u,(b=a\/H b=aV (.own a))->h.get? b=aV u->h'.get? b=aV u)(G:∀b,H b=aV (.own a)->aa b=aV (.own a))(C:∀b xs,H b=aV (.tup xs)->aa b=aV (.tup xs)):dS P w aa h' a o:=by
 induction o with
 | lst xs=>obtain⟨z,its,n,r,e⟩:=x;exact⟨z,its,n,r,k _ _ (.inl rfl) e⟩
 | tup xs=>obtain⟨z,its,r,ob,e,c⟩:=x;exact⟨z,its,r,ob,k _ _ (.inl rfl) e,c⟩
 | dK kvs=>obtain⟨z,y,vs,r,ob,es,ep,e,c⟩:=x;exact⟨z,y,vs,r,ob,es,ep,k _ _ (.inl rfl) e,c⟩
 | dT kvs=>
  obtain⟨z,y,xs,r,ob,es,ep,e,c⟩:=x;exact⟨z,y,xs,Paired.JA r λp q z=>⟨z.1,C _ _ z.2.1,z.2.2⟩,ob,es,ep,k _ _ (.inl rfl) e,c⟩
 | dF kvs=>obtain⟨z,y,ob,es,ep,e,c⟩:=x;exact⟨z,y,ob,es,ep,k _ _ (.inl rfl) e,c⟩
 | set S n=>obtain⟨ob,es,ep,t,e,c⟩:=x;exact⟨ob,es,ep,t,k _ _ (.inl rfl) e,c⟩
 | own y=>obtain⟨ob,e⟩:=x;exact⟨ob,k _ _ (.inl rfl) e⟩
 | jx lo hi=>obtain⟨t,u,v,e⟩:=x;exact⟨t,u,v,k _ _ (.inl rfl) e⟩
 | bp ob u B=>obtain⟨e,q⟩:=x;exact⟨k _ _ (.inl rfl) e,B q⟩
 | tf ps=>
  have e:h.get? a=aV { cls:=.none,data:=.fields ps }:=x;show h'.get? a=aV { cls:=.none,data:=.fields ps };exact k a _ (.inl rfl) e
 | ext u3=>obtain⟨p,⟨o,e⟩,st⟩:=x;exact⟨st _ _ p λo q=>k _ _ (.inl rfl) q,⟨o,k _ _ (.inl rfl) e⟩,st⟩
theorem eL.lt(x:eL P w H h)(e:H a=aV o):a<h.objs.size:=(x a o e).lt
theorem eL.fresh(x:eL P w H h)(e:h.objs.size<=a):H a=a0:=by
 cases q:H a with
 | none=>rfl
 | some u=>exact absurd (iq (x.lt q) e) (iA _)
theorem eL.kept(x:eL P w H h)(k:∀b u,h.get? b=aV u->h'.get? b=aV u):eL P w H h':=λa o e=>
 (x a o e).ig (λb u _ q=>k b u q) (λ_ q=>q) λ_ _ q=>q
theorem eL.laid(x:eL P w H h)(k:∀b u,h.get? b=aV u->h'.get? b=aV u)(hp:h.objs.size<=a)(new:dS P w (upd H a o) h' a o):eL P w (upd H a o) h':=λb u e=>by
 have B:=x.fresh hp
 by_cases C:b=a
 .subst C;rw[CT]at e;cases e;exact new
 .rw[CJ C]at e
  exact(x b u e).ig (λc v _ q=>k c v q) (λc q=>by rw[CJ (FZ q B)];exact q) λc xs q=>by rw[CJ (FZ q B)];exact q
end
def Rd(H:Hp)(a:Addr)(u:HO):Prop:=H a=aV u\/∃o,H a=aV (.bp o u)
theorem Rd.ok{H:Hp}{u:HO}(r:Rd H a u)(x:eL P w H h):dS P w H h a u:=by
 rcases r with r | ⟨o,r⟩
 .exact x a u r
 .obtain⟨_,q⟩:=x a _ r
  exact q
def xj:Option HO->Prop
 | some (.lst _)=>True
 | some (.dK _)=>True
 | some (.dT _)=>True
 | some (.dF _)=>True
 | some (.set _ _)=>True
 | some (.ext _)=>True
 | _=>False
section
variable{H:Hp}{x e:Addr}{bt:HO}
theorem eL.write(ok:eL P w H h)(mu:xj (H x))(O:e=x\/H e=aV (.own x))(k:∀b u,b≠e->h.get? b=aV u->h'.get? b=aV u)(Y:∃u,h'.get? e=aV u)(new:dS P w (upd H x bt) h' x bt):eL P w (upd H x bt) h':=λb u q=>by
 have JY:∀c y,H c=aV (.own y)->c≠x:=λc y r z=>by subst z;rw[r]at mu;exact mu
 have Xu:∀c xs,H c=aV (.tup xs)->c≠x:=λc xs r z=>by subst z;rw[r]at mu;exact mu
 by_cases G:b=x
 .subst G;rw[CT]at q;cases q;exact new
 .rw[CJ G]at q
  by_cases B:b=e
  .have U:H b=aV (.own x):=by
    rcases O with z | z
    .exact absurd (B.trans z) G
    .rw[B];exact z
   rw[q]at U;cases U;obtain⟨v,Z⟩:=Y;exact⟨v,by rw[B];exact Z⟩
  .refine(ok b u q).ig (λc v C r=>k c v ?_ r) (λc r=>by rw[CJ (JY c b r)];exact r) λc xs r=>by rw[CJ (Xu c xs r)];exact r
   rcases C with rfl | C
   .exact B
   .rintro rfl
    rcases O with z | z
    .exact JY c b C z
    .rw[C]at z;cases z;exact G rfl
end
structure Un(fs ex:List Addr)(H aa:Hp)(h h':Heap):Prop where
 keep:∀b o,h.get? b=aV o->H b=a0->b∉fs->b∉ex->h'.get? b=aV o
 slot:∀b o,h.get? b=aV o->H b=a0->b∈fs->b∉ex->∃sl,h'.get? b=aV { o with slots:=sl }
 free:∀b o,h.get? b=aV o->H b=a0->b∉ex->aa b=a0
 there:∀b o,h.get? b=aV o->b∉ex->∃bt,h'.get? b=aV bt
 mT:∀b xs,H b=aV (.tup xs)->aa b=aV (.tup xs)
 nB:∀b o u,H b=aV (.bp o u)->aa b=aV (.bp o u)
 o6:∀b ps,H b=aV (.tf ps)->∃more,aa b=aV (.tf (ps++more))
section
variable{fs Uk ex ZU:List Addr}{H H1 H2:Hp}{h1 h2:Heap}{x e:Addr}{o:HO}
theorem Un.any(u:Un fs ex H H1 h h1){b:Addr}(q:h.get? b=aV ob)(n:H b=a0)(B:b∉ex):∃sl,h1.get? b=aV { ob with slots:=sl }:=by
 by_cases C:b∈fs
 .exact u.slot b ob q n C B
 .exact⟨ob.slots,u.keep b ob q n C B⟩
theorem Un.kept(k:∀b u,h.get? b=aV u->h'.get? b=aV u):Un fs ex H H h h':=
 ⟨λb ob q _ _ _=>k b ob q,λb ob q _ _ _=>⟨ob.slots,k b ob q⟩,λ_ _ _ n _=>n,λb ob q _=>⟨ob,k b ob q⟩,λ_ _ q=>q,λ_ _ _ q=>q,λ_ ps q=>⟨#[],by rw[q];simp⟩⟩
theorem Un.refl:Un fs ex H H h h:=Un.kept λ_ _ q=>q
theorem Un.laid(k:∀b u,h.get? b=aV u->h'.get? b=aV u)(hp:h.objs.size<=a)(B:H a=a0):Un fs ex H (upd H a o) h h' where
 keep:=λb u q _ _ _=>k b u q
 slot:=λb u q _ _ _=>⟨u.slots,k b u q⟩
 free:=λb u q n _=>by rw[CJ (cc (iq (bg q) hp))];exact n
 there:=λb u q _=>⟨u,k b u q⟩
 mT:=λb xs q=>by rw[CJ (FZ q B)];exact q
 nB:=λb u xs q=>by rw[CJ (FZ q B)];exact q
 o6:=λb ps q=>⟨#[],by rw[CJ (FZ q B),q];simp⟩
theorem Un.write(mu:xj (H x))(Y:e=x\/H e=aV (.own x))(k:∀b u,b≠e->h.get? b=aV u->h'.get? b=aV u)(U:∃u,h'.get? e=aV u):Un fs ex H (upd H x o) h h':=by
 have G:∀b,H b=a0->b≠x:=λb n z=>by subst z;rw[n]at mu;exact mu
 have O:∀b,H b=a0->b≠e:=λb n z=>by
  subst z;rcases Y with r | r
  .exact G b n r
  .rw[n]at r;cases r
 have B:∀b u,H b=aV u->¬xj (aV u)->b≠x:=λb u q nm z=>by subst z;rw[q]at mu;exact nm mu
 refine⟨λb u q n _ _=>k b u (O b n) q,λb u q n _ _=>⟨u.slots,k b u (O b n) q⟩,λb u q n _=>by rw[CJ (G b n)];exact n,λb u q _=>?_,
  λb xs q=>by rw[CJ (B b _ q λz=>z)];exact q,λb u xs q=>by rw[CJ (B b _ q λz=>z)];exact q,λb ps q=>⟨#[],by rw[CJ (B b _ q λz=>z),q];simp⟩⟩
 by_cases C:b=e
 .subst C;exact U
 .exact⟨u,k b u C q⟩
end
noncomputable def Bp(h:Heap)(H:Hp):List Addr:=(iS h.objs.size).filter λa=>(H a).isSome
noncomputable def jQ(h:Heap)(H:Hp):Heap:=PySem.W.hideAll h (Bp h H)
theorem yC(h:Heap)(H:Hp):(jQ h H).objs.size=h.objs.size:=PySem.W.hideAll_size _ _
theorem LG{H:Hp}{b:Addr}{o:Obj}(e:h.get? b=aV o)(n:H b=a0):(jQ h H).get? b=aV o:=
 PySem.W.hideAll_get _ e λB=>by
  have q:(H b).isSome=cf:=(me B).2;rw[n]at q;simp at q
theorem NI{H:Hp}{b:Addr}{o:Obj}(e:(jQ h H).get? b=aV o):h.get? b=aV o/\H b=a0:=by
 have B:h.get? b=aV o:=PySem.W.of_hideAll (Bp h H) e;refine⟨B,?_⟩;cases q:H b with
 | none=>rfl
 | some x=>
  have C:b∈Bp h H:=zj.mpr ⟨my.mpr (bg B),by simp[q]⟩;have z:(jQ h H).get? b=a0:=PySem.W.hideAll_none (Bp h H) C;rw[z]at e;cases e
noncomputable def V0(g h:Heap)(L:Addr):List (Addr×Obj):=(iS h.objs.size).filterMap λa=>if a=L\/(g.get? a).isSome=cf then a0 else (h.get? a).map λo=>(a,o)
theorem aA{g:Heap}{L:Addr}{o:Obj}(G:a≠L)(C:g.get? a=a0)(B:h.get? a=aV o):(a,o)∈V0 g h L:=
 List.mem_filterMap.mpr ⟨a,my.mpr (bg B),by simp[G,C,B]⟩
theorem cC{g:Heap}{L:Addr}{p:Addr×Obj}(hp:p∈V0 g h L):p.1≠L/\g.get? p.1=a0/\h.get? p.1=aV p.2:=by
 obtain⟨b,_,e⟩:=List.mem_filterMap.mp hp;split at e
 .cases e
 .rename_i B
  cases q:h.get? b with
  | none=>rw[q]at e;simp at e
  | some u=>
   rw[q]at e;simp only[j2,Option.some.injEq]at e;subst e;refine⟨λz=>B (.inl z),?_,q⟩;show g.get? b=a0;cases r:g.get? b with
   | none=>rfl
   | some v=>exact(B (.inr (by simp[r]))).elim
noncomputable def rest(g h:Heap)(L d:Addr):List (Addr×Obj):=(V0 g h L).filter λp=>eH (p.1≠d)
theorem Lp{g:Heap}{L:Addr}:News g L h (V0 g h L):=λp hp=>let ⟨a,b,c⟩:=cC hp;⟨c,a,b⟩
end L2
variable{H aa:L2.Hp}
namespace L2
open PySem PySem.Spec PyProof.Rows
structure Mod(K:p5)(mg:Str->Option Value)(base:Heap):Prop where
 Eg:K.In base
 glob:base.Ns ly mg
 blt:∃mb,base.Ns builtinsNs mb/\∀x:Str,x≠"__name__"->mb x=bootBuiltins x
 nolimit:base.NoLimit
structure Cx where
 prog:Program
 w:wy
 K:p5
 mg:Str->Option Value
 base:Heap
 A:Around
 N:List Str
 bu:fu
 cE:Hp
 env:Env
 outer:List Env
 stack:List Env
 ex:List Addr
 fn:Str->Bool
 calm:Bool
 pn:List (Addr×Obj)
 xe:Value->fu->Prop
noncomputable def nz(l:List Env):List Addr:=l.filterMap (·.frame)
noncomputable abbrev Cx.fs (X:Cx):List Addr:=nz X.outer
def Ak(sc:Scope)(x:Str):Prop:=sc.names.lookup x=aV .local\/sc.names.lookup x=aV .cell\/sc.names.lookup x=aV .free
def Loc(sc:Scope)(x:Str):Prop:=sc.names.lookup x=aV .local\/sc.names.lookup x=aV .cell
def Look(env:Env)(h:Heap)(m:Str->Option Value)(x:Str)(u:Value):Prop:=
 (env.kindOf x=aV .local/\m x=aV u)\/((env.kindOf x=aV .cell\/env.kindOf x=aV .free)/\∃c,env.cells.lookup x=aV c/\h.IsCell c (aV u))
structure Cx.Ok(X:Cx):Prop where
 mod:Mod X.K X.mg X.base
 kind:X.env.scope.kind=.function
 glob:X.env.globals=ly
 blt:X.env.builtins=builtinsNs
 above:X.bu.heap.objs.size<=X.env.locals
 inj:∀x y c,X.env.cells.lookup x=aV c->X.env.cells.lookup y=aV c->x=y
 has:∀x,(X.env.kindOf x=aV .cell\/X.env.kindOf x=aV .free)->∃c,X.env.cells.lookup x=aV c
 xo:∀x c,X.fn x=cf->X.env.cells.lookup x=aV c->X.bu.heap.objs.size<=c
 hd:X.calm=cf->X.A.handled=a0
 frames:X.A.frames=aV X.stack
 Bj:X.stack=X.outer\/(X.stack=X.env::X.outer/\X.env.frame=aV X.env.locals)
 Hv:∀b∈X.ex,b≠X.env.locals/\∀x c,X.env.cells.lookup x=aV c->c≠b
 bs:∀b o,X.base.get? b=aV o->X.bu.heap.get? b=aV o/\X.cE b=a0
 rk:X.base.objs.size<=X.bu.heap.objs.size
 yB:∀b o,X.base.get? b=aV o->b∉X.ex
 Ao:∀b∈X.ex,b∉X.fs
 nE:X.bu.heap.FunFrames X.base X.outer
 vj:∀b∈X.fs,X.cE b=a0
structure Inv(X:Cx)(pi:List (Addr×Obj))(σ:List (Option V))(H:Hp)(s:fu):Prop where
 ok:X.Ok
 os:s.os=X.bu.os
 bare:AllBare s.gens
 base:Un X.fs X.ex X.cE H X.bu.heap s.heap
 loc:∃m,s.heap.Ns X.env.locals m/\∀(i:Nat) (x:Str) (v:V),X.N[i]?=aV x->σ[i]?=aV (aV v)->Ak X.env.scope x->∃u,RelV v u/\Look X.env s.heap m x u
 cell:∀x c,X.env.cells.lookup x=aV c->∃v,s.heap.IsCell c v
 free:H X.env.locals=a0
 mq:∀x c,X.env.cells.lookup x=aV c->H c=a0
 pin:∀p∈X.pn++pi,s.heap.get? p.1=aV p.2/\H p.1=a0/\p.1≠X.env.locals/\p.1∉X.fs/\∀v,p.2.data≠.cell v
 aS:eL X.prog X.w H s.heap
 len:σ.length=X.N.length
section
variable{X:Cx}{σ:List (Option V)}
theorem Cx.Ok.Xo(ok:X.Ok){b:Addr}{o:Obj}(e:X.base.get? b=aV o):b∉X.fs:=λB=>by
 have:=(ok.nE.mem B).1;rw[e]at this;cases this
theorem Inv.bs(I:Inv X pi σ H s):∀b o,X.base.get? b=aV o->s.heap.get? b=aV o/\H b=a0:=λb o e=>
 ⟨I.base.keep b o (I.ok.bs b o e).1 (I.ok.bs b o e).2 (I.ok.Xo e) (I.ok.yB b o e),I.base.free b o (I.ok.bs b o e).1 (I.ok.bs b o e).2 (I.ok.yB b o e)⟩
theorem Inv.bk(I:Inv X pi σ H s):∀b o,X.base.get? b=aV o->s.heap.get? b=aV o:=λb o e=>(I.bs b o e).1
theorem Inv.mod(I:Inv X pi σ H s):Mod X.K X.mg X.base:=I.ok.mod
theorem Inv.k9(I:Inv X pi σ H s):X.K.In s.heap:=I.ok.mod.Eg.keeps I.bk
theorem Inv.lt(I:Inv X pi σ H s):X.env.locals<s.heap.objs.size:=by
 obtain⟨_,B,_⟩:=I.loc;exact B.lt
theorem Inv.sz(I:Inv X pi σ H s):X.bu.heap.objs.size<=s.heap.objs.size:=fN I.ok.above (mf I.lt)
theorem Inv.Xq(I:Inv X pi σ H s)(h:s.heap.objs.size<=a):a∉X.fs:=λC=>by
 obtain⟨_,o,B,_⟩:=I.ok.nE.mem C;exact absurd (iq (bg B) (fN I.sz h)) (iA _)
theorem Inv.tI(I:Inv X pi σ H s):∀x c,X.env.cells.lookup x=aV c->c≠X.env.locals:=λx c e z=>by
 obtain⟨v,o,B,hd⟩:=I.cell x c e;obtain⟨m,⟨bt,es,ep,C,G,_⟩,_⟩:=I.loc;rw[z,C]at B;cases B;rw[G]at hd;cases hd
theorem Inv.nE(I:Inv X pi σ H s):s.heap.FunFrames X.base X.outer:=by
 have all:∀(l:List Env),(∀b∈nz l,b∈X.fs)->X.bu.heap.FunFrames X.base l->s.heap.FunFrames X.base l:=by
  intro l
  induction l with
  | nil=>intro _ _;trivial
  | cons env r O=>
   intro hs hl;obtain⟨hk,⟨L,o,B,Z,Y,hd⟩,U⟩:=hl;have G:L∈X.fs:=hs L (by unfold nz;rw[tE,B];exact bw);obtain⟨sl,e⟩:=I.base.slot L o Y (I.ok.vj L G) G λz=>I.ok.Ao L z G
   exact⟨hk,⟨L,_,B,Z,e,hd⟩,O (λb C=>hs b (by unfold nz;rw[tE,B];exact bx _ C)) U⟩
 exact all X.outer (λ_ C=>C) I.ok.nE
theorem Inv.stack(I:Inv X pi σ H s):s.heap.FunFrames X.base X.stack:=by
 rcases I.ok.Bj with e | ⟨e,C⟩
 .rw[e];exact I.nE
 .rw[e]
  obtain⟨m,B,_⟩:=I.loc;refine .cons (by rw[I.ok.kind];decide) C B ?_ I.nE;exact Heap.get?_none_of_le (fN I.ok.rk I.ok.above)
theorem Inv.Bk(I:Inv X pi σ H s):∀b∈nz X.stack,b∈X.env.locals::X.fs:=λb B=>by
 rcases I.ok.Bj with e | ⟨e,C⟩
 .rw[e]at B;exact bx _ B
 .rw[e]at B
  unfold nz at B;rw[tE,C]at B;exact B
theorem Inv.Ko(I:Inv X pi σ H s):∀b∈nz X.stack,H b=a0:=λb B=>by
 rcases cq (I.Bk b B) with e | B
 .rw[e];exact I.free
 .obtain⟨_,o,C,_⟩:=I.ok.nE.mem B
  exact I.base.free b o C (I.ok.vj b B) λz=>I.ok.Ao b z B
theorem Inv.step{g':Array GenState}{d':Drawn}(I:Inv X pi σ H s)(Z:∀b∈ch,(b∈X.ex\/X.bu.heap.objs.size<=b)/\b≠X.env.locals/\(∀x c,X.env.cells.lookup x=aV c->c≠b)/\∀p∈X.pn++pi,p.1≠b)(keep:∀b o,b≠X.env.locals->b∉X.fs->b∉ch->s.heap.get? b=aV o->H b=a0->h'.get? b=aV o)(slot:∀b o,b≠X.env.locals->b∈X.fs->b∉ch->s.heap.get? b=aV o->H b=a0->∃sl,h'.get? b=aV { o with slots:=sl })(free:∀b o,b∉ch->s.heap.get? b=aV o->H b=a0->aa b=a0)(there:∀b o,b∉ch->s.heap.get? b=aV o->∃bt,h'.get? b=aV bt)(mT:∀b xs,H b=aV (.tup xs)->aa b=aV (.tup xs))(nB:∀b o u,H b=aV (.bp o u)->aa b=aV (.bp o u))(o6:∀b ps,H b=aV (.tf ps)->∃more,aa b=aV (.tf (ps++more)))(ns:∀m,s.heap.Ns X.env.locals m->h'.Ns X.env.locals m)(aS:eL X.prog X.w aa h')(hg:AllBare g') :
  Inv X pi σ aa { s with heap:=h',gens:=g',drawn:=d',toks:=t' }:=by
 have JP:∀b o,X.bu.heap.get? b=aV o->b≠X.env.locals:=λb o e=>cc (iq (bg e) I.ok.above)
 have A4:∀b o,X.bu.heap.get? b=aV o->b∉X.ex->b∉ch:=λb o e B O=>by
  rcases(Z b O).1 with z | z
  .exact B z
  .exact absurd (iq (bg e) z) (iA _)
 have C:∀x c,X.env.cells.lookup x=aV c->∀v,s.heap.IsCell c v->h'.IsCell c v:=λx c e v ai=>by
  obtain⟨o,U,hd⟩:=ai;have Y:c∉ch:=λz=>(Z c z).2.2.1 x c e rfl
  by_cases hc:c∈X.fs
  .obtain⟨sl,q⟩:=slot c o (I.tI x c e) hc Y U (I.mq x c e)
   exact⟨_,q,hd⟩
  .exact⟨o,keep c o (I.tI x c e) hc Y U (I.mq x c e),hd⟩
 refine⟨I.ok,I.os,hg,⟨λb o e n O B=>?_,λb o e n O B=>?_,λb o e n B=>?_,λb o e B=>?_,λb xs e=>mT b xs (I.base.mT b xs e),λb o xs e=>nB b o xs (I.base.nB b o xs e),λb ps e=>?_⟩,?_,λx c e=>?_,?_,λx c e=>?_,λp hp=>?_,aS,I.len⟩
 .exact keep b o (JP b o e) O (A4 b o e B) (I.base.keep b o e n O B) (I.base.free b o e n B)
 .obtain⟨sl,G⟩:=I.base.slot b o e n O B
  obtain⟨Yj,e2⟩:=slot b _ (JP b o e) O (A4 b o e B) G (I.base.free b o e n B);exact⟨Yj,e2⟩
 .obtain⟨bt,G⟩:=I.base.there b o e B
  exact free b bt (A4 b o e B) G (I.base.free b o e n B)
 .obtain⟨bt,G⟩:=I.base.there b o e B
  exact there b bt (A4 b o e B) G
 .obtain⟨m1,G⟩:=I.base.o6 b ps e
  obtain⟨m2,e2⟩:=o6 b _ G;exact⟨m1++m2,by rw[e2,Array.append_assoc]⟩
 .obtain⟨m,hn,hl⟩:=I.loc
  refine⟨m,ns m hn,λi x v G e2 e3=>?_⟩;obtain⟨u,r,l⟩:=hl i x v G e2 e3;refine⟨u,r,?_⟩;rcases l with l | ⟨k,c,e,z⟩
  .exact .inl l
  .exact .inr ⟨k,c,e,C x c e _ z⟩
 .obtain⟨v,z⟩:=I.cell x c e
  exact⟨v,C x c e v z⟩
 .obtain⟨m,⟨o,_,_,U,_⟩,_⟩:=I.loc
  exact free _ o (λz=>(Z _ z).2.1 rfl) U I.free
 .obtain⟨v,o,U,hd⟩:=I.cell x c e
  exact free c o (λz=>(Z c z).2.2.1 x c e rfl) U (I.mq x c e)
 .obtain⟨e,n,ne,nf,d⟩:=I.pin p hp
  have Y:p.1∉ch:=λz=>(Z p.1 z).2.2.2 p hp rfl
  exact⟨keep p.1 p.2 ne nf Y e n,free p.1 p.2 Y e n,ne,nf,d⟩
theorem Inv.un(I:Inv X pi σ H s)(u:Un X.fs [] H aa s.heap h')(aS:eL X.prog X.w aa h'):Inv X pi σ aa { s with heap:=h',toks:=t' }:=by
 obtain⟨m,⟨o,es,ep,G,r⟩,_⟩:=id I.loc;obtain⟨sl,Y⟩:=u.any G I.free (by simp);exact I.step (g':=s.gens) (d':=s.drawn) (ch:=[]) (λ_ z=>nomatch z) (λb o _ B _ e n=>u.keep b o e n B (by simp)) (λb o _ B _ e n=>u.slot b o e n B (by simp)) (λb o _ e n=>u.free b o e n (by simp)) (λb o _ e=>u.there b o e (by simp)) u.mT u.nB u.o6 (λaf U=>by
  obtain⟨bt,O,Z,C,de⟩:=U;rw[G]at C;cases C;exact⟨_,O,Z,Y,de⟩) aS I.bare
theorem Inv.call{g':Array GenState}{d':Drawn}(I:Inv X pi σ H s)(u:Un (nz X.stack) ch H aa s.heap h')(aS:eL X.prog X.w aa h')(hg:AllBare g')(G:∀b∈ch,(b∈X.ex\/X.bu.heap.objs.size<=b)/\b≠X.env.locals/\(∀x c,X.env.cells.lookup x=aV c->c≠b)/\∀p∈X.pn++pi,p.1≠b) :
  Inv X pi σ aa { s with heap:=h',gens:=g',drawn:=d',toks:=t' }:=by
 obtain⟨m,⟨o,es,ep,U,r⟩,_⟩:=id I.loc;obtain⟨sl,C⟩:=u.any U I.free λz=>(G _ z).2.1 rfl
 exact I.step (ch:=ch) G (λb o C hb B e n=>u.keep b o e n (λz=>(cq (I.Bk b z)).elim C hb) B) (λb o _ _ B e n=>u.any e n B) (λb o B e n=>u.free b o e n B) (λb o B e=>u.there b o e B) u.mT u.nB u.o6 (λaf Z=>by
  obtain⟨bt,Y,fh,O,de⟩:=Z;rw[U]at O;cases O;exact⟨_,Y,fh,C,de⟩) aS hg
theorem Inv.turned(I:Inv X pi σ H s)(k:∀b o,b≠it->s.heap.get? b=aV o->h'.get? b=aV o)(O:H it=a0)(C:it≠X.env.locals)(h1:it∈X.ex\/X.bu.heap.objs.size<=it)(h2:∀x c,X.env.cells.lookup x=aV c->c≠it)(Z:∀p∈X.pn++pi,p.1≠it):Inv X pi σ H { s with heap:=h',toks:=t' }:=by
 have JS:∀b u,H b=aV u->b≠it:=λb u e z=>by rw[z,O]at e;cases e
 refine I.step (g':=s.gens) (d':=s.drawn) (ch:=[it]) (λb Y=>?_) (λb o _ _ B e _=>k b o (λz=>B (by simp[z])) e) (λb o _ _ B e _=>⟨o.slots,k b o (λz=>B (by simp[z])) e⟩) (λ_ _ _ _ n=>n)
  (λb o B e=>⟨o,k b o (λz=>B (by simp[z])) e⟩) (λ_ _ e=>e) (λ_ _ _ e=>e) (λb ps e=>⟨#[],by rw[e];simp⟩) (λm U=>?_) (λb u e=>?_) I.bare
 .have e:b=it:=by simpa using Y
  subst e;exact⟨h1,C,h2,Z⟩
 .obtain⟨o,es,ep,G,r⟩:=U
  exact⟨o,es,ep,k _ o (Ne.symm C) G,r⟩
 .refine(I.aS b u e).ig (λc v B q=>k c v ?_ q) (λ_ q=>q) λ_ _ q=>q
  rcases B with z | z
  .rw[z];exact JS b u e
  .exact JS c _ z
theorem Inv.tok(I:Inv X pi σ H s)(t:Nat):Inv X pi σ H { s with toks:=t }:=I.un (h':=s.heap) (t':=t) Un.refl I.aS
theorem Inv.kept{t':Nat}(I:Inv X pi σ H s)(k:∀b u,s.heap.get? b=aV u->h'.get? b=aV u):Inv X pi σ H { s with heap:=h',toks:=t' }:=I.un (Un.kept k) (I.aS.kept k)
theorem Inv.laid{a:Addr}{o:HO}{t':Nat}(I:Inv X pi σ H s)(k:∀b u,s.heap.get? b=aV u->h'.get? b=aV u)(hp:s.heap.objs.size<=a)(new:dS X.prog X.w (upd H a o) h' a o):
  Inv X pi σ (upd H a o) { s with heap:=h',toks:=t' }:=I.un (Un.laid k hp (I.aS.fresh hp)) (I.aS.laid k hp new)
theorem Inv.write{x e:Addr}{o:HO}{t':Nat}(I:Inv X pi σ H s)(mu:xj (H x))(C:e=x\/H e=aV (.own x))(k:∀b u,b≠e->s.heap.get? b=aV u->h'.get? b=aV u)(B:∃u,h'.get? e=aV u)
  (new:dS X.prog X.w (upd H x o) h' x o):Inv X pi σ (upd H x o) { s with heap:=h',toks:=t' }:=I.un (Un.write mu C k B) (I.aS.write mu C k B new)
theorem Inv.Kf{Ke:List (Addr×Obj)}(I:Inv X pi σ H s)(h:∀p∈Ke,s.heap.get? p.1=aV p.2/\H p.1=a0/\p.1≠X.env.locals/\p.1∉X.fs/\∀v,p.2.data≠.cell v):Inv X Ke σ H s:=
 ⟨I.ok,I.os,I.bare,I.base,I.loc,I.cell,I.free,I.mq,λp hp=>(dg hp).elim (λz=>I.pin p (iw _ z)) (h p),I.aS,I.len⟩
theorem nY(B:N.Nodup)(a:N[i]?=aV x)(b:N[j]?=aV x):i=j:=by
 obtain⟨U,G⟩:=fx.mp a;obtain⟨O,C⟩:=fx.mp b;exact(List.getElem_inj B).mp (G.trans C.symm)
theorem fJ{M:Model}{v:V}{Q:Unit->fu->Prop}(I:Inv X pi σ H s)(hN:X.N.Nodup)(hi:X.N[i]?=aV x)(G:Loc X.env.scope x)(r:RelV v u)(h:∀s',Inv X pi (σ.set i (aV v)) H s'->(∃a,vw a s.heap s'.heap/\(a=X.env.locals\/X.env.cells.lookup x=aV a))->Q () s')(hf:X.fn x=cf\/X.env.scope.names.lookup x=aV .local:=by first | exact .inl rfl | exact .inr rfl | assumption):fj M A (storeName X.env x u) Q E s:=by
 obtain⟨m,hn,hl⟩:=id I.loc;have UX:(X.env.scope.kind==.class||(X.env.scope.kind==.module&&X.env.locals != X.env.globals))=en:=by rw[I.ok.kind];rfl
 have Ir:i<σ.length:=by rw[I.len];exact(fx.mp hi).1
 have tI:=I.tI;have tracked:∀{a:Addr} {h':Heap},(∃o,s.heap.get? a=aV o/\H a=a0)->vw a s.heap h'->eL X.prog X.w H h':=λ {a h'} ha hs b ob e=>by
  obtain⟨_,_,sr⟩:=ha;refine(I.aS b ob e).ig (λc Z C q=>(hs.2 c ?_).trans q) (λ_ q=>q) λ_ _ q=>q
  rintro rfl;rcases C with rfl | C
  .rw[sr]at e;cases e
  .rw[sr]at C;cases C
 rcases G with hk | hk
 .refine wpAny_storeName_local hk hn (λh' kz hs=>?_) UX
  obtain⟨oL,_,_,yh,_⟩:=id hn;refine h _ ⟨I.ok,I.os,I.bare,⟨λb o e n Y G=>?_,λb o e n Y G=>?_,I.base.free,λb o e G=>?_,I.base.mT,I.base.nB,I.base.o6⟩,⟨_,kz,λj y wx B O e3=>?_⟩,λy c e=>?_,I.free,I.mq,λp hp=>?_,tracked ⟨oL,yh,I.free⟩ hs,by simpa using I.len⟩ ⟨_,hs,.inl rfl⟩
  .exact(hs.2 b (cc (iq (bg e) I.ok.above))).trans (I.base.keep b o e n Y G)
  .obtain⟨sl,B⟩:=I.base.slot b o e n Y G
   exact⟨sl,(hs.2 b (cc (iq (bg e) I.ok.above))).trans B⟩
  .obtain⟨bt,B⟩:=I.base.there b o e G
   exact⟨bt,(hs.2 b (cc (iq (bg e) I.ok.above))).trans B⟩
  .by_cases U:j=i
   .subst U
    rw[hi]at B;cases B;rw[lh Ir]at O;cases O;exact⟨u,r,.inl ⟨hk,by simp⟩⟩
   .rw[k6 (Ne.symm U)]at O
    obtain⟨iu,de,q⟩:=hl j y wx B O e3;refine⟨iu,de,?_⟩;rcases q with ⟨k,e⟩ | ⟨k,c,e,z⟩
    .refine .inl ⟨k,?_⟩
     have:y≠x:=λe=>U (nY hN B (e▸hi))
     simp[this,e]
    .exact .inr ⟨k,c,e,z.sameBut hs (tI y c e)⟩
  .obtain⟨Z,z⟩:=I.cell y c e
   exact⟨Z,z.sameBut hs (tI y c e)⟩
  .obtain⟨e,n,ne,nf,d⟩:=I.pin p hp
   exact⟨(hs.2 p.1 ne).trans e,n,ne,nf,d⟩
 .have Dt:X.fn x=cf:=by
   rcases hf with z | z
   .exact z
   .rw[z]at hk;cases hk
  obtain⟨c,C⟩:=I.ok.has x (.inl hk);obtain⟨Z,z⟩:=I.cell x c C;refine wpAny_storeName_cell I.ok.kind hk C z (λh' t9 hs=>?_);obtain⟨oc,AJ,VV⟩:=id z;refine h { s with heap:=h' } ⟨I.ok,I.os,I.bare,⟨λb o e n Y G=>?_,λb o e n Y G=>?_,I.base.free,λb o e G=>?_,I.base.mT,I.base.nB,I.base.o6⟩,⟨m,hn.sameBut hs (Ne.symm (tI x c C)),λj y wx B O e3=>?_⟩,λy dh e=>?_,I.free,I.mq,λp hp=>?_,tracked ⟨oc,AJ,I.mq x c C⟩ hs,by simpa using I.len⟩ ⟨c,hs,.inr C⟩
  .exact(hs.2 b (cc (iq (bg e) (I.ok.xo x c Dt C)))).trans (I.base.keep b o e n Y G)
  .obtain⟨sl,B⟩:=I.base.slot b o e n Y G
   exact⟨sl,(hs.2 b (cc (iq (bg e) (I.ok.xo x c Dt C)))).trans B⟩
  .obtain⟨bt,B⟩:=I.base.there b o e G
   exact⟨bt,(hs.2 b (cc (iq (bg e) (I.ok.xo x c Dt C)))).trans B⟩
  .by_cases U:j=i
   .subst U
    rw[hi]at B;cases B;rw[lh Ir]at O;cases O;exact⟨u,r,.inr ⟨.inl hk,c,C,t9⟩⟩
   .rw[k6 (Ne.symm U)]at O
    obtain⟨iu,de,q⟩:=hl j y wx B O e3;refine⟨iu,de,?_⟩;rcases q with q | ⟨k,dh,e,bE⟩
    .exact .inl q
    .refine .inr ⟨k,dh,e,bE.sameBut hs ?_⟩
     rintro rfl;exact U (nY hN B (I.ok.inj _ _ _ e C▸hi))
  .by_cases kq:dh=c
   .subst kq;exact⟨_,t9⟩
   .obtain⟨w2,z2⟩:=I.cell y dh e
    exact⟨w2,z2.sameBut hs kq⟩
  .obtain⟨e,n,ne,nf,d⟩:=I.pin p hp
   refine⟨(hs.2 p.1 ?_).trans e,n,ne,nf,d⟩;intro q;rw[q,AJ]at e;have c9:oc=p.2:=b5 e;exact d Z (by rw[<-c9];exact VV)
theorem mC{M:Model}{v:V}{Q:Unit->fu->Prop}(I:Inv X pi σ H s)(O:X.N.Nodup)(hi:X.N[i]?=aV x)(C:Loc X.env.scope x)(r:RelV v u)(h:∀s',Inv X pi (σ.set i (aV v)) H s'->Q () s')(G:X.fn x=cf\/X.env.scope.names.lookup x=aV .local:=by first | exact .inl rfl | exact .inr rfl | assumption):fj M A (storeName X.env x u) Q E s:=
 fJ I O hi C r (λs' B _=>h s' B) G
theorem Inv.TH{s':fu}(I:Inv X pi σ H s)(C:s'.os=s.os)(u:Un (nz X.stack) ch H aa s.heap s'.heap)(aS:eL X.prog X.w aa s'.heap)(G:AllBare s'.gens)(B:∀b∈ch,(b∈X.ex\/X.bu.heap.objs.size<=b)/\b≠X.env.locals/\(∀x c,X.env.cells.lookup x=aV c->c≠b)/\∀p∈X.pn++pi,p.1≠b):Inv X pi σ aa s':=by
 obtain⟨h',O,U,t',bt⟩:=s';have e:bt=s.os:=C;subst e;exact I.call (g':=O) (t':=t') (d':=U) u aS G B
end
abbrev XK:=Value->Option Addr->Hp->Prop
abbrev St:=List (Option V)
abbrev VK:=V->Hp->Prop
abbrev TE:=St->Hp->VK->Prop
abbrev TT:=St->Hp->(Bool->Hp->Prop)->Prop
abbrev TA:=St->Hp->(List V->Hp->Prop)->Prop
structure Ends where
 nx:St->Hp->Prop
 rt:VK
 bk:St->Hp->Prop:=λ_ _=>False
 ct:St->Hp->Prop:=λ_ _=>False
abbrev TS:=Ends->St->Hp->Prop
def EP(X:Cx)(pi:List (Addr×Obj))(σ:St)(Q:VK)(u:Value)(s':fu):Prop:=∃v aa,Inv X pi σ aa s'/\RelV v u/\Q v aa
def TP(X:Cx)(pi:List (Addr×Obj))(σ:St)(Q:Bool->Hp->Prop)(b:Bool)(s':fu):Prop:=∃aa,Inv X pi σ aa s'/\Q b aa
def AP(X:Cx)(pi:List (Addr×Obj))(σ:St)(Q:List V->Hp->Prop)(us:List Value)(s':fu):Prop:=∃vs aa,Inv X pi σ aa s'/\Vals vs us/\Q vs aa
def SP(X:Cx)(pi:List (Addr×Obj))(D:Ends)(f:Flow)(s':fu):Prop:=
 match f with
 | .next=>∃B aa,Inv X pi B aa s'/\D.nx B aa
 | .brk=>∃B aa,Inv X pi B aa s'/\D.bk B aa
 | .cont=>∃B aa,Inv X pi B aa s'/\D.ct B aa
 | .ret u=>∃v B aa,Inv X pi B aa s'/\RelV v u/\D.rt v aa
def PE(X:Cx)(e:Expr)(t:TE):Prop:=
 ∀(pi:List (Addr×Obj)) (s:fu) (σ:St) (H:Hp) (Q:VK),Inv X pi σ H s->t σ H Q->fj (gx X.prog X.w) X.A (eval e X.env) (EP X pi σ Q) X.xe s
def PT(X:Cx)(e:Expr)(t:TT):Prop:=
 ∀(pi:List (Addr×Obj)) (s:fu) (σ:St) (H:Hp) (Q:Bool->Hp->Prop),Inv X pi σ H s->t σ H Q->fj (gx X.prog X.w) X.A (isTrue e X.env (eval e X.env)) (TP X pi σ Q) X.xe s
def PW(X:Cx)(e:Expr)(t:TT):Prop:=
 ∀(B:Sem Value) (pi:List (Addr×Obj)) (s:fu) (σ:St) (H:Hp) (Q:Bool->Hp->Prop),Inv X pi σ H s->t σ H Q->fj (gx X.prog X.w) X.A (isTrue e X.env B) (TP X pi σ Q) X.xe s
theorem PW.pt{X:Cx}{t:TT}(h:PW X e t):PT X e t:=h _
def PA(X:Cx)(es:List Expr)(t:TA):Prop:=
 ∀(pos:Pos) (pi:List (Addr×Obj)) (s:fu) (σ:St) (H:Hp) (Q:List V->Hp->Prop),Inv X pi σ H s->t σ H Q->fj (gx X.prog X.w) X.A (spliced (backTo pos (gm es X.env))) (AP X pi σ Q) X.xe s
def PS(X:Cx)(st:Stmt)(t:TS):Prop:=
 ∀(pi:List (Addr×Obj)) (s:fu) (σ:St) (H:Hp) (D:Ends),Inv X pi σ H s->t D σ H->fj (gx X.prog X.w) X.A (exec st X.env) (SP X pi D) X.xe s
def eM(X:Cx)(st:List Stmt)(t:TS):Prop:=
 ∀(pi:List (Addr×Obj)) (s:fu) (σ:St) (H:Hp) (D:Ends),Inv X pi σ H s->t D σ H->fj (gx X.prog X.w) X.A (execs st X.env) (SP X pi D) X.xe s
theorem a9{α:Type}{t:Sem α}{Q B:α->fu->Prop}{M:Model}(h:fj M A t Q E s)(C:∀a s,Q a s->B a s):fj M A t B E s:=e9 h C λ_ _ x=>x
end L2
variable{X:L2.Cx}{r:List L2.V->L2.Hp->L2.VK->Prop}{ta tb td te ty:L2.TE}{σ:L2.St}
namespace L2
open PySem PySem.Spec PyProof.Rows
section
theorem bin{a:Expr}(ha:PE X a ta)(Z:PE X b tb){R:V->V->Hp->Prop}(I:Inv X pi σ H s)(h:ta σ H λx G=>tb σ G λy B=>R x y B){α:Type}{Q:α->fu->Prop}{f:Value->Value->Sem α}(Y:∀v u s2 x y B,Inv X pi σ B s2->RelV x v->RelV y u->R x y B->fj (gx X.prog X.w) X.A (f v u) Q X.xe s2) :
  fj (gx X.prog X.w) X.A (eval a X.env) (λv bc=>fj (gx X.prog X.w) X.A (eval b X.env) (λu c8=>fj (gx X.prog X.w) X.A (f v u) Q X.xe c8) X.xe bc) X.xe s:=by
 refine a9 (ha pi s σ H _ I h) λv s1 C=>?_
 obtain⟨x,G,I1,U,q1⟩:=C;refine a9 (Z pi s1 σ G _ I1 q1) λu s2 C=>?_
 obtain⟨y,B,I2,O,q2⟩:=C;exact Y v u s2 x y B I2 U O q2
def RN(i:Nat):TE:=λ σ H Q=>∃v,σ[i]?=aV (aV v)/\Q v H
def tC(v:V):TE:=λ_ H Q=>Q v H
theorem O2(Z:X.N[i]?=aV x)(O:Ak X.env.scope x)(hd:(x==("__debug__" : Str))=en:=by decide)(G:(x==("__classdict__" : Str))=en:=by decide):PE X (.Name x pos) (RN i):=by
 intro pi s σ H Q I h;obtain⟨v,e,h⟩:=h;obtain⟨m,U,hl⟩:=I.loc;obtain⟨u,r,l⟩:=hl i x v Z e O;have B:EP X pi σ Q u s:=⟨v,H,I,r,h⟩
 rcases l with ⟨hk,Y⟩ | ⟨hk,c,C,Ig⟩
 .exact wpAny_Name (wpAny_loadName_local I.ok.kind hk U Y B) hd
 .rcases hk with hk | hk
  .exact wpAny_Name (wpAny_loadName_cell I.ok.kind hk C Ig B) hd
  .exact wpAny_Name (wpAny_loadName_free I.ok.kind hk C Ig B G) hd
theorem qW{i j pos}:PE X (.Constant (.int i) j pos) (tC (.int i)):=λ_ _ _ H _ I h=>wpAny_Constant_int ⟨.int i,H,I.tok _,⟨_,rfl⟩,h⟩
theorem F8{b j pos}:PE X (.Constant (.bool b) j pos) (tC (.bl b)):=λ_ _ _ H _ I h=>Constant_bool ⟨.bl b,H,I,rfl,h⟩
theorem Qe{j pos}:PE X (.Constant .none j pos) (tC .aE):=λ_ _ _ H _ I h=>Constant_none ⟨.aE,H,I,rfl,h⟩
theorem Qc{x j pos}:PE X (.Constant (.str x) j pos) (tC (.str x)):=λ_ _ _ H _ I h=>Calls.Constant_str ⟨.str x,H,I.tok _,⟨_,rfl⟩,h⟩
abbrev Gl (X:Cx) (x:Str):Prop:=X.env.kindOf x=aV .globalImplicit
theorem vA(I:Inv X pi σ H s)(C:Gl X x)(B:X.mg x=aV u)(h:Q u s)(hd:(x==("__debug__" : Str))=en:=by decide):fj (gx X.prog X.w) X.A (eval (.Name x pos) X.env) Q E s:=
 Calls.Name_function_global I.ok.kind C (Calls.loadGlobal_global (by rw[I.ok.glob];exact I.mod.glob.keeps I.bk) B h) hd
theorem K4(I:Inv X pi σ H s)(O:Gl X x)(G:X.mg x=a0)(B:bootBuiltins x=aV u)(h:Q u s)(C:x≠"__name__":=by decide)(hd:(x==("__debug__" : Str))=en:=by decide):fj (gx X.prog X.w) X.A (eval (.Name x pos) X.env) Q E s:=by
 obtain⟨mb,Y,U⟩:=I.mod.blt;exact Calls.Name_function_global I.ok.kind O (Calls.loadGlobal_builtin (by rw[I.ok.glob];exact I.mod.glob.keeps I.bk) G (by rw[I.ok.blt];exact Y.keeps I.bk) ((U x C).trans B) h) hd
theorem Nq{v:V}(C:Gl X x)(B:X.mg x=aV u)(r:RelV v u)(hd:(x==("__debug__" : Str))=en:=by decide):PE X (.Name x pos) (tC v):=
 λ_ _ _ H _ I h=>vA I C B ⟨v,H,I,r,h⟩ hd
theorem Nw{v:V}(O:Gl X x)(G:X.mg x=a0)(B:bootBuiltins x=aV u)(r:RelV v u)(C:x≠"__name__":=by decide)(hd:(x==("__debug__" : Str))=en:=by decide):PE X (.Name x pos) (tC v):=
 λ_ _ _ H _ I h=>K4 I O G B ⟨v,H,I,r,h⟩ C hd
variable{a:Expr}
def PC(X:Cx)(op:CmpOp)(a b:Expr)(t:TE):Prop:=
 ∀(pi:List (Addr×Obj)) (s:fu) (σ:St) (H:Hp) (Q:VK),Inv X pi σ H s->t σ H Q->
  fj (gx X.prog X.w) X.A (eval a X.env) (λv C=>fj (gx X.prog X.w) X.A (eval b X.env) (λu B=>fj (gx X.prog X.w) X.A (sh op v u) (EP X pi σ Q) X.xe B) X.xe C) X.xe s
theorem Ln(b:Expr)(h:op≠.In)(B:op≠.NotIn):behindInMarks op b=en:=by
 have G:(op==CmpOp.In)=en:=by cases op<;>first | rfl | exact absurd rfl h
 have C:(op==CmpOp.NotIn)=en:=by cases op<;>first | rfl | exact absurd rfl B
 cases b<;>simp[behindInMarks,G,C]
def tB(t:TE):TT:=λ σ H Q=>t σ H λx B=>∃c,x=.bl c/\Q c B
theorem E9{t:TE}(h:PC X op a b t)(B:behindInMarks op b=en:=by first | exact Ln _ (by decide) (by decide) | rfl):PT X (.Compare a [op] [b] pos) (tB t):=by
 intro pi s σ H Q I G;refine wpAny_isTrue_Compare1 (a9 (h pi s σ H _ I G) λv s1 B=>a9 B λu s2 O=>a9 O λc s3 U=>?_) B;obtain⟨x,Z,Y,C,q1⟩:=U;obtain⟨d,rfl,q⟩:=q1;cases C;exact wpAny_truthy_bool ⟨Z,Y,q⟩
variable{tA Bn:TT}{rest:List Expr}
def SR(t u:TT):TT:=λ σ H Q=>t σ H λc B=>if c=cf then u σ B Q else Q en B
def Yr(t u:TT):TT:=λ σ H Q=>t σ H λc B=>if c=cf then Q cf B else u σ B Q
def SI(t:TT):TT:=λ σ H Q=>t σ H λc B=>Q (!c) B
theorem MY(B:PT X a tA):PW X (.BoolOp .And [a] pos) tA:=by
 intro C pi s σ H Q I h;refine isTrue_and (a9 (B pi s σ H Q I h) λc s1 e=>?_);cases c with
 | true=>exact isTrue_and_nil e
 | false=>exact e
theorem P1(B:PT X a tA):PW X (.BoolOp .Or [a] pos) tA:=by
 intro C pi s σ H Q I h;refine isTrue_or (a9 (B pi s σ H Q I h) λc s1 e=>?_);cases c with
 | false=>exact isTrue_or_nil e
 | true=>exact e
theorem P4(U:PT X a tA)(O:PW X (.BoolOp .And (b::rest) pos) Bn):PW X (.BoolOp .And (a::b::rest) pos) (SR tA Bn):=by
 intro G pi s σ H Q I h;refine isTrue_and (a9 (U pi s σ H _ I h) λc s1 Y=>?_);obtain⟨C,B,q1⟩:=Y;cases c with
 | true=>exact O G pi s1 σ C Q B q1
 | false=>exact⟨C,B,q1⟩
theorem RF(U:PT X a tA)(O:PW X (.BoolOp .Or (b::rest) pos) Bn):PW X (.BoolOp .Or (a::b::rest) pos) (Yr tA Bn):=by
 intro G pi s σ H Q I h;refine isTrue_or (a9 (U pi s σ H _ I h) λc s1 Y=>?_);obtain⟨C,B,q1⟩:=Y;cases c with
 | true=>exact⟨C,B,q1⟩
 | false=>exact O G pi s1 σ C Q B q1
theorem P6(B:PT X a tA):PT X (.UnaryOp .Not a pos) (SI tA):=by
 intro pi s σ H Q I h;exact isTrue_not (B pi s σ H (λc C=>Q (!c) C) I h)
def Ru(ta tb:TE):TE:=λ σ H Q=>ta σ H λx B=>∃c,x=.bl c/\if c=cf then tb σ B Q else Q (.bl en) B
theorem Qd{op}{t:TE}(h:PE X a t):PE X (.BoolOp op [a] pos) t:=λpi s σ H Q I B=>BoolOp_one (h pi s σ H Q I B)
theorem Qh(U:PE X a ta)(O:PE X (.BoolOp .And (b::rest) pos) tb):PE X (.BoolOp .And (a::b::rest) pos) (Ru ta tb):=by
 intro pi s σ H Q I h;refine BoolOp_and (a9 (U pi s σ H _ I h) λv s1 Y=>?_);obtain⟨x,C,B,G,q1⟩:=Y;obtain⟨c,rfl,q1⟩:=q1;cases G;refine wpAny_truthy_bool ?_;cases c with
 | true=>exact O pi s1 σ C Q B q1
 | false=>exact⟨.bl en,C,B,rfl,q1⟩
end
end L2
namespace L2
open PySem PySem.Spec PyProof.Rows
def cg(K:p5)(H:Hp)(a:Addr)(xs:List V):Prop:=
 Rd H a (.lst xs)\/
  ∃(o:Obj) (its:Array Value) (n:Nat),K.lookup a=aV o/\o.cls=.type "list"/\o.dict=a0/\o.data=.seq its n/\its.size<=sizeLine/\Vals xs its.toList
def eP(K:p5)(H:Hp)(a:Addr)(xs:List V):Prop:=
 Rd H a (.tup xs)\/
  ∃(o:Obj) (its:Array Value) (n:Nat),K.lookup a=aV o/\o.cls=.type "tuple"/\o.data=.seq its n/\its.size<=sizeLine/\Vals xs its.toList
noncomputable def Tb:Value->Option V
 | .none=>aV .aE
 | .bool b=>aV (.bl b)
 | .int i _=>aV (.int i)
 | .str x _=>aV (.str x)
 | .bytes b _=>aV (.kh b)
 | .float b _=>aV (.CU b)
 | .ref a=>aV (.ref a)
 | .type n=>aV (.ty n)
 | _=>a0
theorem RelV.abs{x:V}(r:RelV x u):Tb u=aV x:=by
 cases x with
 | aE=>cases r;rfl
 | bl _=>cases r;rfl
 | int _=>obtain⟨t,rfl⟩:=r;rfl
 | str _=>obtain⟨t,rfl⟩:=r;rfl
 | kh _=>obtain⟨t,rfl⟩:=r;rfl
 | CU _=>obtain⟨t,rfl⟩:=r;rfl
 | ref _=>cases r;rfl
 | ty _=>cases r;rfl
theorem RelV.inj{x:V}(r:RelV x u)(q:RelV y u):x=y:=b5 (r.abs.symm.trans q.abs)
theorem Vals.inj{xs ys:List V}{us:List Value}(h:Vals xs us)(g:Vals ys us):xs=ys:=by
 induction h generalizing ys with
 | nil=>cases g;rfl
 | cons r t B=>cases g with
  | cons C t'=>rw[r.inj C,B t']
section
variable{xs:List V}
theorem cg.of(h:H a=aV (.lst xs)):cg K H a xs:=.inl (.inl h)
theorem Inv.list(I:Inv X pi σ H s)(h:cg X.K H a xs):∃its:List Value,Vals xs its/\PlainL s.heap a its.toArray/\xs.length<=sizeLine:=by
 rcases h with h | ⟨o,its,n,hk,B,hd,hs,C,r⟩
 .obtain⟨z,its,n,r,e⟩:=h.ok I.aS
  exact⟨its,r,⟨_,n,e,rfl,rfl,rfl⟩,z⟩
 .refine⟨its.toList,r,⟨o,n,I.k9 a o hk,B,hd,by simpa using hs⟩,?_⟩
  have e:=r.length;simp only[di]at e;lia
theorem Inv.tuple(I:Inv X pi σ H s)(h:eP X.K H a xs):∃its:List Value,Vals xs its/\IsTup s.heap a its.toArray/\xs.length<=sizeLine:=by
 rcases h with h | ⟨o,its,n,hk,B,hs,C,r⟩
 .obtain⟨z,its,r,p⟩:=h.ok I.aS
  exact⟨its,r,p,z⟩
 .refine⟨its.toList,r,⟨o,I.k9 a o hk,B,n,by simpa using hs⟩,?_⟩
  have e:=r.length;simp only[di]at e;lia
theorem Inv.Jv(I:Inv X pi σ H s)(h:cg X.K H a xs)(h':cg X.K H a ys):xs=ys:=by
 obtain⟨its,r,⟨o,n,e,_,_,d⟩,_⟩:=I.list h;obtain⟨its',G,⟨bt,U,C,_,_,B⟩,_⟩:=I.list h';rw[e]at C;cases C;rw[d]at B;injection B with O _;have:its=its':=by simpa using congrArg Array.toList O
 subst this;exact r.inj G
theorem Inv.Yv(I:Inv X pi σ H s)(h:eP X.K H a xs)(h':eP X.K H a ys):xs=ys:=by
 obtain⟨its,r,⟨o,e,_,n,d⟩,_⟩:=I.tuple h;obtain⟨its',G,⟨bt,C,_,U,B⟩,_⟩:=I.tuple h';rw[e]at C;cases C;rw[d]at B;injection B with O _;have:its=its':=by simpa using congrArg Array.toList O
 subst this;exact r.inj G
end
noncomputable abbrev Cx.pq (X:Cx) (E:Value->fu->Prop):Cx:={ X with xe:=E }
noncomputable abbrev Cx.wa (X:Cx):Cx:=X.pq λ_ _=>False
theorem Cx.Ok.pq{X:Cx}(ok:X.Ok)(E:Value->fu->Prop):(X.pq E).Ok:=
 ⟨ok.mod,ok.kind,ok.glob,ok.blt,ok.above,ok.inj,ok.has,ok.xo,ok.hd,ok.frames,ok.Bj,ok.Hv,ok.bs,ok.rk,ok.yB,ok.Ao,ok.nE,ok.vj⟩
theorem Cx.Ok.tq(ok:(X.pq E).Ok):X.Ok:=
 ⟨ok.mod,ok.kind,ok.glob,ok.blt,ok.above,ok.inj,ok.has,ok.xo,ok.hd,ok.frames,ok.Bj,ok.Hv,ok.bs,ok.rk,ok.yB,ok.Ao,ok.nE,ok.vj⟩
theorem Inv.pq(I:Inv X pi σ H s)(E:Value->fu->Prop):Inv (X.pq E) pi σ H s:=⟨I.ok.pq E,I.os,I.bare,I.base,I.loc,I.cell,I.free,I.mq,I.pin,I.aS,I.len⟩
theorem Inv.tq(I:Inv (X.pq E) pi σ H s):Inv X pi σ H s:=⟨I.ok.tq,I.os,I.bare,I.base,I.loc,I.cell,I.free,I.mq,I.pin,I.aS,I.len⟩
theorem SP.tq{D:Ends}{f:Flow}{s':fu}(h:SP (X.pq E) pi D f s'):SP X pi D f s':=by
 cases f with
 | next=>obtain⟨B,aa,I,q⟩:=h;exact⟨B,aa,I.tq,q⟩
 | brk=>obtain⟨B,aa,I,q⟩:=h;exact⟨B,aa,I.tq,q⟩
 | cont=>obtain⟨B,aa,I,q⟩:=h;exact⟨B,aa,I.tq,q⟩
 | ret u=>obtain⟨v,B,aa,I,r,q⟩:=h;exact⟨v,B,aa,I.tq,r,q⟩
theorem eM.wa{st:List Stmt}{t:TS}(h:eM X.wa st t):eM X st t:=λpi s σ H D I B=>
 e9 (h pi s σ H D (I.pq _) B) (λ_ _ q=>q.tq) λ_ _ z=>False.elim z
section
variable{rest:List Stmt}{t u:TS}
def tX:TS:=λD σ H=>D.nx σ H
def wz(t u:TS):TS:=λD σ H=>t { D with nx:=u D } σ H
theorem uQ:eM X [] tX:=λ_ _ σ H _ I h=>wpAny_execs_nil ⟨σ,H,I,h⟩
theorem WK(O:PS X st t)(G:eM X rest u):eM X (st::rest) (wz t u):=by
 intro pi s σ H D I h;refine wpAny_execs_cons (a9 (O pi s σ H { D with nx:=u D } I h) λf s1 q=>?_);cases f with
 | next=>
  obtain⟨B,aa,C,q⟩:=q;exact G pi s1 B aa D C q
 | ret v=>exact q
 | brk=>exact q
 | cont=>exact q
theorem jK(B:PS X st t):eM X [st] t:=by
 intro pi s σ H D I h;refine wpAny_execs_cons (a9 (B pi s σ H D I h) λf s1 q=>?_);cases f with
 | next=>exact wpAny_execs_nil q
 | ret v=>exact q
 | brk=>exact q
 | cont=>exact q
theorem Inv.quiet(I:Inv X pi σ H s):interactive X.env=en:=by simp[interactive,I.ok.kind]
def By(te:TE):TS:=λD σ H=>te σ H λ_ B=>D.nx σ B
theorem uR(B:PE X e te)(hs:swapsWith e a0 pos.line X.env=pure en:=by rfl):PS X (.Expr e pos) (By te):=by
 intro pi s σ H D I h;exact wpAny_Expr_any (a9 (B pi s σ H _ I h) λv s1 ⟨x,G,C,O,q1⟩=>⟨σ,G,C,q1⟩) I.quiet hs
def Gp(te:TE):TS:=λD σ H=>te σ H D.rt
theorem Fc(C:PE X e te):PS X (.Return (aV e) pos) (Gp te):=by
 intro pi s σ H D I h;exact wpAny_Return_some (a9 (C pi s σ H _ I h) λv s1 ⟨x,O,G,B,q1⟩=>⟨x,σ,O,G,B,q1⟩)
def Cf(c:TT)(t u:TS):TS:=λD σ H=>c σ H λb B=>if b=cf then t D σ B else u D σ B
theorem F7{a b:List Stmt}{B:TT}(O:PT X c B)(Y:eM X a t)(U:eM X b u):PS X (.If c a b pos) (Cf B t u):=by
 intro pi s σ H D I h;refine wpAny_If (a9 (O pi s σ H _ I h) λd s1 Z=>?_);obtain⟨G,C,q1⟩:=Z;cases d with
 | true=>exact Y pi s1 σ G D C q1
 | false=>exact U pi s1 σ G D C q1
end
abbrev TG:=V->St->Hp->(St->Hp->Prop)->Prop
abbrev qa:=List V->St->Hp->(St->Hp->Prop)->Prop
def PG(X:Cx)(B:Expr)(t:TG):Prop:=
 ∀(pi:List (Addr×Obj)) (s:fu) (σ:St) (H:Hp) (v:V) (u:Value) (Q:St->Hp->Prop),Inv X pi σ H s->RelV v u->t v σ H Q->
  fj (gx X.prog X.w) X.A (assign B X.env u) (λ_ G=>∃C aa,Inv X pi C aa G/\Q C aa) X.xe s
def ng(X:Cx)(ts:List Expr)(t:qa):Prop:=
 ∀(pi:List (Addr×Obj)) (s:fu) (σ:St) (H:Hp) (vs:List V) (us:List Value) (Q:St->Hp->Prop),Inv X pi σ H s->Vals vs us->t vs σ H Q->
  fj (gx X.prog X.w) X.A (assignInOrder ((assignEach ts X.env).map (·.2)) us) (λ_ C=>∃B aa,Inv X pi B aa C/\Q B aa) X.xe s
def cL(i:Nat):TG:=λv σ H Q=>Q (σ.set i (aV v)) H
theorem jL(O:X.N.Nodup)(hi:X.N[i]?=aV x)(C:Loc X.env.scope x)(G:X.fn x=cf\/X.env.scope.names.lookup x=aV .local:=by first | exact .inl rfl | exact .inr rfl | assumption):PG X (.Name x pos) (cL i):=by
 intro pi s σ H v u Q I r h;exact wpAny_assign_Name (mC I O hi C r (λU B=>⟨_,H,B,h⟩) G)
noncomputable def GG:qa:=λvs σ H Q=>vs=[]/\Q σ H
noncomputable def BQ(t:TG)(u:qa):qa:=λvs σ H Q=>∃v r,vs=v::r/\t v σ H λ B aa=>u r B aa Q
theorem uW:ng X [] GG:=by
 intro pi s σ H vs us Q I r h;obtain⟨e,h⟩:=h;subst e;cases r;exact assignInOrder_nil ⟨σ,H,I,h⟩
theorem cA{t:TG}{u:qa}(O:PG X e t)(G:ng X es u)(hs:(assignEach (e::es) X.env).map (·.2)=assign e X.env::(assignEach es X.env).map (·.2):=by rfl):ng X (e::es) (BQ t u):=by
 intro pi s σ H vs us Q I r h;obtain⟨v,vr,U,h⟩:=h;subst U;cases r with
 | cons r C=>
  rw[hs];refine assignInOrder_cons (a9 (O pi s σ H _ _ _ I r h) λ_ s1 Y=>?_);obtain⟨B,H1,Z,q1⟩:=Y;exact G pi s1 B H1 _ _ Q Z C q1
def GB(K:p5)(n:Nat)(t:qa):TG:=λv σ H Q=>∃a xs,v=.ref a/\eP K H a xs/\xs.length=n/\t xs σ H Q
theorem Fg{k:Nat}{t:qa}(hc:X.calm=cf)(h:ng X es t)(Z:(assignEach es X.env).length=n:=by rfl)(G:(assignEach es X.env).findIdx? (·.1)=a0:=by rfl):PG X (.Tuple es k pos) (GB X.K n t):=by
 intro pi s σ H v u Q I r B;obtain⟨a,xs,e1,Y,hl,B⟩:=B;subst e1;cases r;obtain⟨its,C,U,hz⟩:=I.tuple Y;refine assign_Tuple_tuple (I.ok.hd hc) U (by simp[Z,<-hl,C.length]) G λh' O=>?_
 have I1:Inv X pi σ H { s with heap:=h' }:=I.kept (t':=s.toks) λb o e=>O b o (cc (bg e)) e
 exact h pi _ σ H xs _ Q I1 (by simpa using C) B
def zq(te:TE)(g:TG):TS:=λD σ H=>te σ H λx B=>g x σ B D.nx
theorem P8{g:TG}(O:PE X e te)(G:PG X tg g)(hs:swapsWithSole [tg] e pos.line X.env=pure en:=by rfl)(C:swappedStores [tg] e X.env=pure a0:=by rfl)(U:(assignEach [tg] X.env).map (·.2)=[assign tg X.env]:=by rfl):PS X (.Assign [tg] e pos) (zq te g):=by
 intro pi s σ H D I h;refine wpAny_Assign_stores (a9 (O pi s σ H _ I h) λv s1 Y=>?_) hs C;obtain⟨x,H1,Z,B,q1⟩:=Y;rw[U];exact a9 (G pi s1 σ H1 x v _ Z B q1) λ_ s2 q=>q
theorem Fb(U:X.N.Nodup)(hi:X.N[i]?=aV x)(C:Loc X.env.scope x)(O:PE X e te)(hs:swapsWith e (aV (.Name x pos')) pos.line X.env=pure en:=by rfl)(G:X.fn x=cf\/X.env.scope.names.lookup x=aV .local:=by first | exact .inl rfl | exact .inr rfl | assumption):
  PS X (.Assign [.Name x pos'] e pos) (zq te (cL i)):=by
 intro pi s σ H D I h;refine wpAny_Assign_Name (a9 (O pi s σ H _ I h) λv s1 Y=>?_) hs;obtain⟨y,H1,I1,B,q1⟩:=Y;exact mC I1 U hi C B (λs2 Z=>⟨_,H1,Z,q1⟩) G
def Pk(c:TT)(tb:TS):TS:=λD σ H=>∃W:Nat->St->Hp->Prop,(∃m,W m σ H)/\∀m σ H,W m σ H->
 c σ H λb G=>if b=cf then ∃N:St->Hp->Prop,(∀B aa,N B aa->∃C,C<m/\W C B aa)/\tb { D with nx:=N,ct:=N,bk:=D.nx } σ G else D.nx σ G
theorem Lf{tc:TT}{tb:TS}(hp:PassesOwn (gx X.prog X.w) X.A X.env X.xe)(hc:PT X c tc)(hb:eM X body tb):PS X (.While c body [] pos) (Pk tc tb):=by
 intro pi s σ H D I h;obtain⟨W,⟨m0,w0⟩,turn⟩:=h;refine wpAny_While (codeAny_whileLoop (λn s'=>∃C aa,Inv X pi C aa s'/\W n C aa) ?_ m0 ⟨σ,H,I,w0⟩);rintro n s1 ⟨B,H1,I1,w1⟩;refine wpAny_passesOwn hp (a9 (hc pi s1 B H1 _ I1 (turn n B H1 w1)) λb s2 ai=>?_);obtain⟨H2,I2,q2⟩:=ai;cases b with
 | true=>
  obtain⟨N,hN,q2⟩:=q2;rw[ah rfl];refine wpAny_passesOwn hp (a9 (hb pi s2 B H2 _ I2 q2) λf s3 U=>?_);cases f with
  | next=>
   obtain⟨G,O,I3,Z⟩:=U;obtain⟨af,hm,Y⟩:=hN G O Z;exact⟨af,hm,G,O,I3,Y⟩
  | cont=>
   obtain⟨G,O,I3,Z⟩:=U;obtain⟨af,hm,Y⟩:=hN G O Z;exact⟨af,hm,G,O,I3,Y⟩
  | brk=>exact U
  | ret v=>exact U
 | false=>
  rw[ak eJ];exact wpAny_execs_nil ⟨B,H2,I2,q2⟩
structure It where
 go:Nat->Hp->Prop
 zo:Nat->Hp->V->Hp->Prop
 stop:Nat->Hp->Prop
def O7(X:Cx)(pi:List (Addr×Obj))(H:Hp)(b:Addr):Prop:=
 H b=a0/\b≠X.env.locals/\b∉X.fs/\(b∈X.ex\/X.bu.heap.objs.size<=b)/\(∀x c,X.env.cells.lookup x=aV c->c≠b)/\∀p∈X.pn++pi,p.1≠b
theorem Inv.qj{b:Addr}(I:Inv X pi σ H s)(B:s.heap.objs.size<=b)(C:aa b=a0):O7 X pi aa b:=by
 refine⟨C,iz (iq I.lt B),I.Xq B,.inr (fN I.sz B),λx c e z=>?_,λp hp z=>?_⟩
 .obtain⟨v,q⟩:=I.cell x c e
  exact absurd (iq q.lt (by rw[z];exact B)) (iA _)
 .exact absurd (iq (bg (I.pin p hp).1) (by rw[z];exact B)) (iA _)
structure Turn(P:Program)(w:wy)(K:p5)(tg:Expr)(J:It)(fp:List Addr)(it:Addr)(tn:Nat->Heap->Prop):Prop where
 mem:it∈fp
 obj:∀i h,tn i h->∀b∈fp,∃o,h.get? b=aV o/\∀v,o.data≠.cell v
 keep:∀i h h',tn i h->(∀b∈fp,∀o,h.get? b=aV o->h'.get? b=aV o)->tn i h'
 item:∀(X:Cx),X.prog=P->X.w=w->X.K=K->X.calm=cf->∀(i:Nat) (pi:List (Addr×Obj)) (s:fu) (σ:St) (H:Hp) (E:Value->fu->Prop),Inv X pi σ H s->(∀b∈fp,O7 X pi H b)->tn i s.heap->J.go i H->
  fj (gx P w) X.A (pyNext (.ref it)) (λr s1=>∃u,r=aV u/\
   fj (gx P w) X.A (letOwnedTupleGo tg (.ref it) u) (λ_ s2=>∃x aa,Inv X pi σ aa s2/\RelV x u/\J.zo i H x aa/\tn (i+1) s2.heap/\∀b∈fp,aa b=a0) E s1) E s
 done:∀(X:Cx),X.prog=P->X.w=w->X.K=K->X.calm=cf->∀(i:Nat) (pi:List (Addr×Obj)) (s:fu) (σ:St) (H:Hp) (E:Value->fu->Prop),Inv X pi σ H s->(∀b∈fp,O7 X pi H b)->tn i s.heap->J.stop i H->
  fj (gx P w) X.A (pyNext (.ref it)) (λr s1=>r=a0/\Inv X pi σ H s1) E s
 self:∀(A:Around) (i:Nat) (s:fu) (Q:Value->fu->Prop) (E:Value->fu->Prop),tn i s.heap->Q (.ref it) s->fj (gx P w) A (pyIter (.ref it)) Q E s
abbrev TI:=St->Hp->(It->Hp->Prop)->Prop
def Hf(X:Cx)(pi:List (Addr×Obj))(σ:St)(tg:Expr)(R:It->Hp->Prop)(AU:Value)(s2:fu):Prop:=
 ∃(it:Addr) (fp:List Addr) (tn:Nat->Heap->Prop) (J:It) (aa:Hp),AU=.ref it/\Inv X pi σ aa s2/\Turn X.prog X.w X.K tg J fp it tn/\tn 0 s2.heap/\(∀b∈fp,O7 X pi aa b)/\R J aa
def PI(X:Cx)(tg iter:Expr)(B:TI):Prop:=
 ∀(pi:List (Addr×Obj)) (s:fu) (σ:St) (H:Hp) (R:It->Hp->Prop),Inv X pi σ H s->B σ H R->
  fj (gx X.prog X.w) X.A (eval iter X.env) (λv s1=>fj (gx X.prog X.w) X.A (pyIter v) (Hf X pi σ tg R) X.xe s1) X.xe s
theorem BO{M : Model}{E : Value -> fu -> Prop}{o : Obj}{n : String}{vs : Array Value}{Q : Unit -> fu -> Prop}(C : s.heap.get? it = aV o)(O : o.cls = .type n)(hd : o.data = .fields vs)(G : ["enumerate", "zip", "dict_itemiterator", "dict_reverseitemiterator", "odict_iterator", "itertools.zip_longest", "itertools.pairwise"].contains n = en)(B : Q () s) : fj M A (letOwnedTupleGo tg (.ref it) u) Q E s := by
  unfold letOwnedTupleGo;cases tg <;> first
    | exact ag B
    | (cases u <;> first
        | exact ag B
        | (refine ab (wpAny_load C ?_)
           rw [O, hd];show fj M A (if (["enumerate", "zip", "dict_itemiterator", "dict_reverseitemiterator", "odict_iterator", "itertools.zip_longest", "itertools.pairwise"].contains n && vs[0]? == aV (qf _)) = cf then _ else _) Q E s;rw [ak (by intro h; rw [G, Bool.false_and] at h; cases h)];exact ag B))
noncomputable def Cr(K:p5)(a:Addr):It:=
 ⟨λi H=>∃xs x,cg K H a xs/\xs[i]?=aV x,λi H x aa=>aa=H/\∀xs,cg K H a xs->xs[i]?=aV x,λi H=>∃xs,cg K H a xs/\xs.length<=i⟩
noncomputable def Ad(K:p5)(a:Addr):It:=
 ⟨λi H=>∃xs x,eP K H a xs/\xs[i]?=aV x,λi H x aa=>aa=H/\∀xs,eP K H a xs->xs[i]?=aV x,λi H=>∃xs,eP K H a xs/\xs.length<=i⟩
noncomputable def Ac(lo:Int)(n:Nat):It:=⟨λi _=>i<n,λi H x aa=>aa=H/\x=.int (lo+i),λi _=>n<=i⟩
theorem wR(a it:Addr):Turn P w K tg (Cr K a) [it] it (λi h=>h.IsListIter it a i) where
 mem:=by simp
 obj:=λi h st b B=>by
  have e:b=it:=by simpa using B
  subst e;obtain⟨o,e,c,d⟩:=st;exact⟨o,e,λv z=>by rw[d]at z;cases z⟩
 keep:=λi h h' st k=>st.at λo e=>k it (by simp) o e
 item:=by
  intro X hP Y hK hc i pi s σ H E I G st Z;subst hP Y hK;obtain⟨xs,x,C,U⟩:=Z;obtain⟨its,O,p,hz⟩:=I.list C;obtain⟨u,hu,ru⟩:=O.get U;obtain⟨f0,f1,f2,f3,f4,f5⟩:=G it (by simp);refine wpAny_pyNext_list_item st p.isList (x:=u) (by simpa using hu) λh' iO sb=>?_
  have I1:Inv X pi σ H { s with heap:=h' }:=I.turned (t':=s.toks) (λb o B e=>(sb.2 b B).trans e) f0 f1 f3 f4 f5;obtain⟨o,e,c,d⟩:=id iO;exact⟨u,rfl,BO (s:={ s with heap:=h' }) e c d (by decide) ⟨x,H,I1,ru,⟨rfl,λys hy=>by rw[I.Jv hy C];exact U⟩,iO,λb B=>(G b B).1⟩⟩
 done:=by
  intro X hP Y hK hc i pi s σ H E I G st Z;subst hP Y hK;obtain⟨xs,C,U⟩:=Z;obtain⟨its,O,p,hz⟩:=I.list C;obtain⟨f0,f1,f2,f3,f4,f5⟩:=G it (by simp);have hl:=O.length;exact wpAny_pyNext_list_end (I.ok.hd hc) st p.isList (by simp;lia) λh' eb=>⟨rfl,I.turned (t':=s.toks) (λb o B e=>eb b o B e) f0 f1 f3 f4 f5⟩
 self:=λ_ _ _ _ _ st h=>wpAny_pyIter_listiter st h
theorem bH(a it:Addr):Turn P w K tg (Ad K a) [it] it (λi h=>h.IsTupleIter it a i) where
 mem:=by simp
 obj:=λi h st b B=>by
  have e:b=it:=by simpa using B
  subst e;obtain⟨o,e,c,d⟩:=st;exact⟨o,e,λv z=>by rw[d]at z;cases z⟩
 keep:=λi h h' st k=>st.at λo e=>k it (by simp) o e
 item:=by
  intro X hP Y hK hc i pi s σ H E I G st Z;subst hP Y hK;obtain⟨xs,x,C,U⟩:=Z;obtain⟨its,O,p,hz⟩:=I.tuple C;obtain⟨u,hu,ru⟩:=O.get U;obtain⟨f0,f1,f2,f3,f4,f5⟩:=G it (by simp);refine wpAny_pyNext_tuple_item st (show s.heap.IsTuple a its.toArray from p) (x:=u) (by simpa using hu) λh' iO sb=>?_
  have I1:Inv X pi σ H { s with heap:=h' }:=I.turned (t':=s.toks) (λb o B e=>(sb.2 b B).trans e) f0 f1 f3 f4 f5;obtain⟨o,e,c,d⟩:=id iO;exact⟨u,rfl,BO (s:={ s with heap:=h' }) e c d (by decide) ⟨x,H,I1,ru,⟨rfl,λys hy=>by rw[I.Yv hy C];exact U⟩,iO,λb B=>(G b B).1⟩⟩
 done:=by
  intro X hP Y hK hc i pi s σ H E I G st Z;subst hP Y hK;obtain⟨xs,C,U⟩:=Z;obtain⟨its,O,p,hz⟩:=I.tuple C;obtain⟨f0,f1,f2,f3,f4,f5⟩:=G it (by simp);have hl:=O.length;exact wpAny_pyNext_tuple_end (I.ok.hd hc) st (show s.heap.IsTuple a its.toArray from p) (by simp;lia) λh' eb=>⟨rfl,I.turned (t':=s.toks) (λb o B e=>eb b o B e) f0 f1 f3 f4 f5⟩
 self:=λ_ _ _ _ _ st h=>wpAny_pyIter_tupleiter st h
theorem qD(it:Addr)(lo:Int)(n:Nat):Turn P w K tg (Ac lo n) [it] it (λi h=>IsRangeIter h it (lo+(i:Nat)*1) ((n:Int)-(i:Nat)) 1) where
 mem:=by simp
 obj:=λi h st b B=>by
  have e:b=it:=by simpa using B
  subst e;exact⟨_,st,λv z=>by
   have bE:Data.fields _=Data.cell v:=z;cases bE⟩
 keep:=λi h h' st k=>k it (by simp) _ st
 item:=by
  intro X Y G Z U i pi s σ H E I C st O;subst Y G Z;obtain⟨f0,f1,f2,f3,f4,f5⟩:=C it (by simp);have W:=Walks.range (prog:=X.prog) (w:=X.w) (I.ok.hd U) it lo 1 n;refine W.item i s _ _ O st λv h' tk hv iO kk=>?_
  obtain⟨t,rfl⟩:=hv;have I1:Inv X pi σ H { s with heap:=h',toks:=tk }:=I.turned (λb o B e=>kk b o (by simpa using B) e) f0 f1 f3 f4 f5;refine⟨_,rfl,BO (s:={ s with heap:=h',toks:=tk }) (n:="range_iterator") iO rfl rfl (by decide) ⟨.int (lo+i),H,I1,⟨t,?_⟩,⟨rfl,rfl⟩,iO,λb B=>(C b B).1⟩⟩;rw[Int.mul_one]
 done:=by
  intro X Y G Z U i pi s σ H E I C st O;subst Y G Z;obtain⟨f0,f1,f2,f3,f4,f5⟩:=C it (by simp);exact wpAny_pyNext_range_end (I.ok.hd U) st (by have:n<=i:=O;lia) λh' eb=>⟨rfl,I.turned (t':=s.toks) (λb o B e=>eb b o B e) f0 f1 f3 f4 f5⟩
 self:=λ_ _ _ _ _ st h=>wpAny_pyIter_rangeiter st h
end L2
variable{wi:L2.TI}
namespace L2
open PySem PySem.Spec PyProof.Rows
def GA(K:p5)(tl:TE):TI:=λ σ H R=>tl σ H λx B=>∃a,x=.ref a/\(∃xs,eP K B a xs)/\R (Ad K a) B
theorem Qa{l:Expr}{tl:TE}(hl:PE X l tl):PI X tg l (GA X.K tl):=by
 intro pi s σ H R I h;refine a9 (hl pi s σ H _ I h) λv s1 U=>?_
 obtain⟨x,Y,B,C,q1⟩:=U;obtain⟨a,e,⟨xs,G⟩,q⟩:=q1;subst e;cases C;obtain⟨its,Z,p,hz⟩:=B.tuple G;refine wpAny_pyIter_tuple (show s1.heap.IsTuple a its.toArray from p) ?_;refine⟨s1.heap.objs.size,[s1.heap.objs.size],_,_,Y,rfl,B.kept (t':=s1.toks) λb o e=>cx _ e,bH a _,⟨_,dm _ rfl,rfl,rfl⟩,λb O=>?_,q⟩;have e:b=s1.heap.objs.size:=by simpa using O
 subst e;exact B.qj (a8 _) (B.aS.fresh (a8 _))
theorem nA{R:It->Hp->Prop}{lo hi:Int}{t u v:Tok}{B:Nat}(I:Inv X pi σ H s)(Z:-(2 ^ 62)<=lo)(Y:lo<2 ^ 62)(U:-(2 ^ 62)<=hi)(O:hi<2 ^ 62)(q:R (Ac lo (hi-lo).toNat) H):fj (gx X.prog X.w) X.A (pyIter (.ref s.heap.objs.size)) (Hf X pi σ tg R) E { s with heap:=s.heap.push { cls:=.type "range",data:=.fields #[.int lo t,.int hi u,.int 1 v] },toks:=B }:=by
 refine wpAny_pyIter_range (IsRange.new ..) (small_one Z Y U O) ?_;have C:Inv X pi σ H { s with heap:=s.heap.push { cls:=.type "range",data:=.fields #[.int lo t,.int hi u,.int 1 v] },toks:=B }:=I.kept λb o e=>cx _ e
 refine⟨(s.heap.push { cls:=.type "range",data:=.fields #[.int lo t,.int hi u,.int 1 v] }).objs.size,[(s.heap.push { cls:=.type "range",data:=.fields #[.int lo t,.int hi u,.int 1 v] }).objs.size],_,_,H,rfl,
  C.kept (t':=B) λb o e=>cx _ e,qD _ lo (hi-lo).toNat,?_,λb G=>?_,q⟩
 .have e1:lo+((0:Nat):Int)*1=lo:=by simp
  have e2:(((hi-lo).toNat:Nat):Int)-((0:Nat):Int)=Builtin.Range.rangeSize lo hi 1:=by rw[rangeSize_one];split<;>lia
  show IsRangeIter _ _ (lo+((0:Nat):Int)*1) ((((hi-lo).toNat:Nat):Int)-((0:Nat):Int)) 1;rw[e1,e2];exact dm _ rfl
 .have e:b=(s.heap.push { cls:=.type "range",data:=.fields #[.int lo t,.int hi u,.int 1 v] }).objs.size:=by simpa using G
  subst e;exact C.qj (a8 _) (C.aS.fresh (a8 _))
def Sl(ta:TA):TI:=λ σ H R=>ta σ H λvs B=>∃j:Int,vs=[.int j]/\-(2 ^ 62)<=j/\j<2 ^ 62/\R (Ac 0 j.toNat) B
def Sk(ta:TA):TI:=λ σ H R=>ta σ H λvs B=>∃i j:Int,vs=[.int i,.int j]/\(-(2 ^ 62)<=i/\i<2 ^ 62/\-(2 ^ 62)<=j/\j<2 ^ 62)/\R (Ac i (j-i).toNat) B
theorem xO{a:Expr}{ta:TA}(O:Gl X "range")(G:X.mg "range" = a0)(U:PA X [a] ta)(hs:gm [a] X.env=[(en,eval a X.env)]:=by rfl):PI X tg (.Call (.Name "range" p) [a] [] pos) (Sl ta):=by
 intro pi s σ H R I h;refine Call_ (K4 I O G boot_range (l5 (a9 (U pos pi s σ H _ I h) λus s1 Y=>?_) hs rfl));obtain⟨vs,H1,Z,C,q1⟩:=Y;obtain⟨j,e,q1,q2,q⟩:=q1;subst e;cases C with
 | cons r B=>
  cases B;obtain⟨t,rfl⟩:=r;exact call_range_1 (nA Z (by lia) (by lia) q1 q2 (by simpa using q))
theorem xM{a:Expr}{ta:TA}(Z:Gl X "range")(Y:X.mg "range" = a0)(ha:PA X [a,b] ta)(hs:gm [a,b] X.env=[(en,eval a X.env),(en,eval b X.env)]:=by rfl)(C:gm [b] X.env=[(en,eval b X.env)]:=by rfl):
  PI X tg (.Call (.Name "range" p) [a,b] [] pos) (Sk ta):=by
 intro pi s σ H R I h;refine Call_ (K4 I Z Y boot_range (l5 (a9 (ha pos pi s σ H _ I h) λus s1 ai=>?_) (by rw[hs,C]) (by rw[C];rfl)));obtain⟨vs,H1,I1,G,q1⟩:=ai;obtain⟨i,j,e,⟨q1,q2,U,O⟩,q⟩:=q1;subst e;cases G with
 | cons r B=>
  cases B with
  | cons de B=>
   cases B;obtain⟨t,rfl⟩:=r;obtain⟨t',rfl⟩:=de;exact call_range_2 (nA I1 q1 q2 U O q)
def Gq(wi:TI)(g:TG)(tb:TS):TS:=λD σ H=>wi σ H λJ U=>∃W:Nat->Nat->St->Hp->Prop,(∃m,W 0 m σ U)/\∀i m σ H,W i m σ H->
 (J.stop i H/\D.nx σ H)\/(J.go i H/\∃N:St->Hp->Prop,(∀B aa,N B aa->∃C,C<m/\W (i+1) C B aa)/\∀x aa,J.zo i H x aa->g x σ aa λG O=>tb { D with nx:=N,ct:=N,bk:=D.nx } G O)
noncomputable def c7(fp:List Addr)(h:Heap):List (Addr×Obj):=fp.filterMap λb=>(h.get? b).map λo=>(b,o)
theorem R5{b:Addr}{o:Obj}(B:b∈fp)(e:h.get? b=aV o):(b,o)∈c7 fp h:=List.mem_filterMap.mpr ⟨b,B,by rw[e];rfl⟩
theorem xV{p:Addr×Obj}(hp:p∈c7 fp h):p.1∈fp/\h.get? p.1=aV p.2:=by
 obtain⟨b,B,e⟩:=List.mem_filterMap.mp hp;cases q:h.get? b with
 | none=>rw[q]at e;cases e
 | some o=>
  rw[q]at e;have C:(b,o)=p:=b5 e;subst C;exact⟨B,q⟩
theorem Inv.pinned(I:Inv X pi σ H s)(O:∀b∈fp,O7 X pi H b)(G:∀b∈fp,∃o,s.heap.get? b=aV o/\∀v,o.data≠.cell v):Inv X (pi++c7 fp s.heap) σ H s:=
 I.Kf λp hp=>(dg hp).elim (λz=>I.pin p (iy _ z)) λz=>by
  obtain⟨B,e⟩:=xV z;obtain⟨Z,Y,U,_⟩:=O p.1 B;obtain⟨o,C,d⟩:=G p.1 B;rw[e]at C;cases C;exact⟨e,Z,Y,U,d⟩
theorem Inv.Bv{pl:List (Addr×Obj)}(I:Inv X (pi++pl) σ H s):Inv X pi σ H s:=I.Kf λp hp=>I.pin p (iy _ (iw _ hp))
theorem Fd{g:TG}{tb:TS}(hp:PassesOwn (gx X.prog X.w) X.A X.env X.xe)(hc:X.calm=cf)(hi:PI X tg iter wi)(hg:PG X tg g)(G:eM X body tb)(hs:∀x,I0 iter X.env x=pure x:=by intro _;rfl):PS X (.For tg iter body [] pos) (Gq wi g tb):=by
 intro pi s σ H D I h;refine wpAny_For (a9 (hi pi s σ H _ I h) λv s1 h1=>a9 h1 λAU s2 h2=>?_) hs;obtain⟨it,fp,tn,J,H2,e,I2,T,Yq,f2,W,⟨m0,w0⟩,turn⟩:=h2;subst e;have uy:∀{aa:Hp},(∀b∈fp,aa b=a0)->∀b∈fp,O7 X pi aa b:=λhn b G=>⟨hn b G,(f2 b G).2⟩
 refine codeAny_forLoop_any (λn s'=>∃i B aa,Inv X pi B aa s'/\tn i s'.heap/\(∀b∈fp,aa b=a0)/\W i n B aa) ?_ m0 ⟨0,σ,H2,I2,Yq,λb G=>(f2 b G).1,w0⟩;rintro n s3 ⟨i,ma,H3,I3,Bh,HA,w3⟩;rcases turn i n ma H3 w3 with ⟨stop,qn⟩ | ⟨go,N,hN,step⟩
 .refine wpAny_passesOwn hp (a9 (T.done X rfl rfl rfl hc i pi s3 ma H3 X.xe I3 (uy HA) Bh stop) λr s4 Z=>?_)
  obtain⟨hr,I4⟩:=Z;subst hr;exact wpAny_execs_nil ⟨ma,H3,I4,qn⟩
 .refine wpAny_passesOwn hp (a9 (T.item X rfl rfl rfl hc i pi s3 ma H3 X.xe I3 (uy HA) Bh go) λr s4 Z=>?_)
  obtain⟨u,hr,h4⟩:=Z;subst hr;refine wpAny_passesOwn hp (a9 h4 λ_ s5 Z=>?_);obtain⟨x,H5,I5,r5,y5,wo,Aq⟩:=Z;have Tn:=I5.pinned (uy Aq) (T.obj _ _ wo);refine wpAny_passesOwn hp (a9 (hg _ s5 ma H5 x u _ Tn r5 (step x H5 y5)) λ_ s6 Z=>?_);obtain⟨Y1,H6,I6,q6⟩:=Z;refine wpAny_passesOwn hp (a9 (G _ s6 Y1 H6 _ I6 q6) λf s7 Y=>?_);have again:∀{C:St} {U:Hp},Inv X (pi++c7 fp s5.heap) C U s7->N C U->∃m,m<n/\∃i B aa,Inv X pi B aa s7/\tn i s7.heap/\(∀b∈fp,aa b=a0)/\W i m B aa:=λ {C U} O n7=>by
   obtain⟨af,hm,w7⟩:=hN C U n7;refine⟨af,hm,i+1,C,U,O.Bv,T.keep _ _ _ wo λb G o e=>(O.pin (b,o) (iy _ (iy _ (R5 G e)))).1,λb G=>?_,w7⟩;obtain⟨o,e,d⟩:=T.obj _ _ wo b G;exact(O.pin (b,o) (iy _ (iy _ (R5 G e)))).2.1
  cases f with
  | next=>obtain⟨C,U,O,n7⟩:=Y;exact again O n7
  | cont=>obtain⟨C,U,O,n7⟩:=Y;exact again O n7
  | brk=>obtain⟨C,U,O,Y⟩:=Y;exact⟨C,U,O.Bv,Y⟩
  | ret v=>obtain⟨x7,C,U,O,r7,Y⟩:=Y;exact⟨x7,C,U,O.Bv,r7,Y⟩
end L2
namespace L2
open PySem PySem.Spec PyProof.Rows
abbrev R2:=V->V->Hp->VK->Prop
def eB(X:Cx)(f:Value->Value->Sem Value)(r:R2):Prop:=
 ∀(pi:List (Addr×Obj)) (s:fu) (σ:St) (H:Hp) (x y:V) (v u:Value) (Q:VK),Inv X pi σ H s->RelV x v->RelV y u->r x y H Q->
  fj (gx X.prog X.w) X.A (f v u) (EP X pi σ Q) X.xe s
def Cv(X:Cx)(f:Value->Sem Value)(r:V->Hp->VK->Prop):Prop:=
 ∀(pi:List (Addr×Obj)) (s:fu) (σ:St) (H:Hp) (x:V) (v:Value) (Q:VK),Inv X pi σ H s->RelV x v->r x H Q->
  fj (gx X.prog X.w) X.A (f v) (EP X pi σ Q) X.xe s
def gc(X:Cx)(f:Value)(r:List V->Hp->VK->Prop):Prop:=
 ∀(pi:List (Addr×Obj)) (s:fu) (σ:St) (H:Hp) (xs:List V) (us:List Value) (Q:VK),Inv X pi σ H s->Vals xs us->r xs H Q->
  fj (gx X.prog X.w) X.A (call f us) (EP X pi σ Q) X.xe s
def Tc(X:Cx)(r:V->Hp->(Bool->Hp->Prop)->Prop):Prop:=
 ∀(pi:List (Addr×Obj)) (s:fu) (σ:St) (H:Hp) (x:V) (v:Value) (Q:Bool->Hp->Prop),Inv X pi σ H s->RelV x v->r x H Q->
  fj (gx X.prog X.w) X.A (truthy v) (TP X pi σ Q) X.xe s
def uA(r:R2)(ta tb:TE):TE:=λ σ H Q=>ta σ H λx C=>tb σ C λy B=>r x y B Q
def Yt(r:V->Hp->VK->Prop)(ta:TE):TE:=λ σ H Q=>ta σ H λx B=>r x B Q
def rI(C:Int->Int->Prop)(g:Int->Int->V):R2:=λx y H Q=>∃i j,x=.int i/\y=.int j/\C i j/\Q (g i j) H
def mN(g:Int->Int->V):R2:=λx y H Q=>∃i j,x=.int i/\y=.int j/\Q (g i j) H
def rU(g:Int->V):V->Hp->VK->Prop:=λx H Q=>∃i,x=.int i/\Q (g i) H
section
variable{a:Expr}{tc:TE}
theorem Cm(ha:PE X a ta)(Z:PE X b tb){R:V->V->Hp->Prop}(I:Inv X pi σ H s)(h:ta σ H λx G=>tb σ G λy B=>R x y B){f:Value->Value->Sem Value}(Y:∀v u s2 x y B,Inv X pi σ B s2->RelV x v->RelV y u->R x y B->fj (gx X.prog X.w) X.A (f v u) Q X.xe s2) :
  fj (gx X.prog X.w) X.A (eval a X.env) (λv bc=>fj (gx X.prog X.w) X.A (eval b X.env) (λu c8=>fj (gx X.prog X.w) X.A (f v u) Q X.xe c8) X.xe bc) X.xe s:=by
 refine a9 (ha pi s σ H _ I h) λv s1 C=>?_
 obtain⟨x,G,I1,U,q1⟩:=C;refine a9 (Z pi s1 σ G _ I1 q1) λu s2 C=>?_
 obtain⟨y,B,I2,O,q2⟩:=C;exact Y v u s2 x y B I2 U O q2
theorem nU{op:Operator}{r:R2}(G:eB X (binaryOp op) r)(U:PE X a ta)(O:PE X b tb):PE X (.BinOp a op b pos) (uA r ta tb):=by
 intro pi s σ H Q I h;exact wpAny_BinOp (Cm U O I h λv u s2 x y Z Y C B q=>G pi s2 σ Z x y v u Q Y C B q)
theorem RI{op:UnaryOp}{r:V->Hp->VK->Prop}(C:Cv X (unaryOp op) r)(G:PE X a ta):PE X (.UnaryOp op a pos) (Yt r ta):=by
 intro pi s σ H Q I h;exact UnaryOp_ (a9 (G pi s σ H _ I h) λv s1 ⟨x,U,O,B,q1⟩=>C pi s1 σ U x v Q O B q1)
theorem Kc{f:Value->Value->Sem Value}{C:Int->Int->Prop}{g:Int->Int->Int}(rule:∀(i j:Int) (t u:Tok) (s:fu) (Q:Value->fu->Prop) (E:Value->fu->Prop),C i j->Q (.int (g i j) s.toks) { s with toks:=s.toks+1 }->fj (gx X.prog X.w) X.A (f (.int i t) (.int j u)) Q E s) :
  eB X f (rI C λi j=>.int (g i j)):=by
 intro pi s σ H x y v u Q I G B h;obtain⟨i,j,rfl,rfl,O,q⟩:=h;obtain⟨t,rfl⟩:=G;obtain⟨t',rfl⟩:=B;exact rule i j t t' s _ _ O ⟨.int (g i j),H,I.tok _,⟨_,rfl⟩,q⟩
theorem Gw{f:Value->Value->Sem Value}{g:Int->Int->Int}(rule:∀(i j:Int) (t u:Tok) (s:fu) (Q:Value->fu->Prop) (E:Value->fu->Prop),Q (.int (g i j) s.toks) { s with toks:=s.toks+1 }->fj (gx X.prog X.w) X.A (f (.int i t) (.int j u)) Q E s) :
  eB X f (mN λi j=>.int (g i j)):=by
 intro pi s σ H x y v u Q I C B h;obtain⟨i,j,rfl,rfl,q⟩:=h;obtain⟨t,rfl⟩:=C;obtain⟨t',rfl⟩:=B;exact rule i j t t' s _ _ ⟨.int (g i j),H,I.tok _,⟨_,rfl⟩,q⟩
theorem zt{f:Value->Value->Sem Value}{g:Int->Int->Bool}(rule:∀(i j:Int) (t u:Tok) (s:fu) (Q:Value->fu->Prop) (E:Value->fu->Prop),Q (.bool (g i j)) s->fj (gx X.prog X.w) X.A (f (.int i t) (.int j u)) Q E s) :
  eB X f (mN λi j=>.bl (g i j)):=by
 intro pi s σ H x y v u Q I C B h;obtain⟨i,j,rfl,rfl,q⟩:=h;obtain⟨t,rfl⟩:=C;obtain⟨t',rfl⟩:=B;exact rule i j t t' s _ _ ⟨.bl (g i j),H,I,rfl,q⟩
def Aa(i j:Int):Prop:=(-(2 ^ 64)<i/\i<2 ^ 64)\/(-(2 ^ 64)<j/\j<2 ^ 64)
theorem Aa.ok{i j:Int}(h:Aa i j):IntMulOk i j:=by
 rcases h with ⟨C,B⟩ | ⟨C,B⟩
 .exact .of_left (intBits_le_64 C B)
 .exact .of_right (intBits_le_64 C B)
theorem Xy:eB X (binaryOp .Add) (mN λi j=>.int (i+j)):=Gw λ_ _ _ _ _ _ _ q=>add_int q
theorem Qj:eB X (binaryOp .Sub) (mN λi j=>.int (i-j)):=Gw λ_ _ _ _ _ _ _ q=>sub_int q
theorem Qk:eB X (binaryOp .Mult) (rI Aa λi j=>.int (i*j)):=Kc λ_ _ _ _ _ _ _ B q=>mul_int q B.ok
theorem Ql:eB X (binaryOp .Mod) (rI (λ_ j=>0<j) λi j=>.int (i % j)):=Kc λi j _ _ _ _ _ B q=>by
 have C:(0:Int)<j:=B;exact mod_int' (by lia) (by rw[Int.fmod_eq_emod_of_nonneg i (by lia)];exact q)
theorem Yw{f:Value->Sem Value}{g:Int->Int}(rule:∀(i:Int) (t:Tok) (s:fu) (Q:Value->fu->Prop) (E:Value->fu->Prop),Q (.int (g i) s.toks) { s with toks:=s.toks+1 }->fj (gx X.prog X.w) X.A (f (.int i t)) Q E s) :
  Cv X f (rU λi=>.int (g i)):=by
 intro pi s σ H x v Q I B h;obtain⟨i,rfl,q⟩:=h;obtain⟨t,rfl⟩:=B;exact rule i t s _ _ ⟨.int (g i),H,I.tok _,⟨_,rfl⟩,q⟩
theorem Pg:Cv X (unaryOp .USub) (rU λi=>.int (-i)):=Yw λ_ _ _ _ _ q=>neg_int q
end
noncomputable def Gr:V->V->Bool
 | .aE,.aE=>cf | .aE,.int _=>cf | .int _,.aE=>cf | .aE,.bl _=>cf | .bl _,.aE=>cf | .aE,.str _=>cf | .str _,.aE=>cf
 | .int _,.int _=>cf | .bl _,.bl _=>cf | .str _,.str _=>cf | .kh _,.kh _=>cf
 | .int _,.str _=>cf | .str _,.int _=>cf | .bl _,.str _=>cf | .str _,.bl _=>cf
 | _,_=>en
def XX:R2:=λx y H Q=>Gr x y=cf/\Q (.bl (eH (x=y))) H
def XY:R2:=λx y H Q=>Gr x y=cf/\Q (.bl (!decide (x=y))) H
theorem vU{i j:Int}:eH (V.int i=V.int j)=(i==j):=by
 rw[Bool.eq_iff_iff];simp
theorem FG{i j:Bool}:eH (V.bl i=V.bl j)=(i==j):=by
 rw[Bool.eq_iff_iff];simp
theorem vR{i j:Str}:eH (V.str i=V.str j)=(i==j):=by
 rw[Bool.eq_iff_iff];simp
theorem vV{i j:Array UInt8}:eH (V.kh i=V.kh j)=(i.toList==j.toList):=by
 rw[Bool.eq_iff_iff];cases i;cases j;simp
section
variable{a:Expr}{tc:TE}
theorem G7{Q:VK}{k cb:Bool}(I:Inv X pi σ H s)(q:Q (.bl k) H)(e:k=cb):EP X pi σ Q (.bool cb) s:=by
 subst e;exact⟨.bl k,H,I,rfl,q⟩
theorem XA:eB X (sh .Eq) XX:=by
 intro pi s σ H x y v u Q I C B h;obtain⟨hs,q⟩:=h;cases x with
 | aE=>
  cases C;cases y with
  | aE=>cases B;exact PySem.EqNone.eq_none_none (G7 I q (by simp))
  | bl j=>cases B;exact PySem.EqNone.eq_none_bool (G7 I q (by simp))
  | int j=>obtain⟨t',rfl⟩:=B;exact PySem.EqNone.eq_none_int (G7 I q (by simp))
  | str j=>obtain⟨t',rfl⟩:=B;exact PySem.EqNone.eq_none_str (G7 I q (by simp))
  | _=>exact absurd (show en=cf from hs) eJ
 | bl i=>
  cases C;cases y with
  | aE=>cases B;exact PySem.EqNone.eq_bool_none (G7 I q (by simp))
  | bl j=>cases B;exact eq_bool (G7 I q FG)
  | str j=>obtain⟨t',rfl⟩:=B;exact PySem.EqMixed.eq_bool_str (G7 I q (by simp))
  | _=>exact absurd (show en=cf from hs) eJ
 | int i=>
  obtain⟨t,rfl⟩:=C;cases y with
  | aE=>cases B;exact PySem.EqNone.eq_int_none (G7 I q (by simp))
  | int j=>obtain⟨t',rfl⟩:=B;exact eq_int (G7 I q vU)
  | str j=>obtain⟨t',rfl⟩:=B;exact PySem.EqMixed.eq_int_str (G7 I q (by simp))
  | _=>exact absurd (show en=cf from hs) eJ
 | str i=>
  obtain⟨t,rfl⟩:=C;cases y with
  | aE=>cases B;exact PySem.EqNone.eq_str_none (G7 I q (by simp))
  | bl j=>cases B;exact PySem.EqMixed.eq_str_bool (G7 I q (by simp))
  | int j=>obtain⟨t',rfl⟩:=B;exact PySem.EqMixed.eq_str_int (G7 I q (by simp))
  | str j=>obtain⟨t',rfl⟩:=B;exact eq_str (G7 I q vR)
  | _=>exact absurd (show en=cf from hs) eJ
 | kh i=>
  obtain⟨t,rfl⟩:=C;cases y with
  | kh j=>obtain⟨t',rfl⟩:=B;exact PySem.W.eq_bytes (G7 I q vV)
  | _=>exact absurd (show en=cf from hs) eJ
 | _=>cases y<;>exact absurd (show en=cf from hs) eJ
theorem XB:eB X (sh .NotEq) XY:=by
 intro pi s σ H x y v u Q I C B h;obtain⟨hs,q⟩:=h;cases x with
 | aE=>
  cases C;cases y with
  | aE=>cases B;exact PySem.EqNone.ne_none_none (G7 I q (by simp))
  | bl j=>cases B;exact PySem.EqNone.ne_none_bool (G7 I q (by simp))
  | int j=>obtain⟨t',rfl⟩:=B;exact PySem.EqNone.ne_none_int (G7 I q (by simp))
  | str j=>obtain⟨t',rfl⟩:=B;exact PySem.EqNone.ne_none_str (G7 I q (by simp))
  | _=>exact absurd (show en=cf from hs) eJ
 | bl i=>
  cases C;cases y with
  | aE=>cases B;exact PySem.EqNone.ne_bool_none (G7 I q (by simp))
  | bl j=>cases B;exact ne_bool (G7 I q (congrArg not FG))
  | str j=>obtain⟨t',rfl⟩:=B;exact PySem.EqMixed.ne_bool_str (G7 I q (by simp))
  | _=>exact absurd (show en=cf from hs) eJ
 | int i=>
  obtain⟨t,rfl⟩:=C;cases y with
  | aE=>cases B;exact PySem.EqNone.ne_int_none (G7 I q (by simp))
  | int j=>obtain⟨t',rfl⟩:=B;exact ne_int (G7 I q (congrArg not vU))
  | str j=>obtain⟨t',rfl⟩:=B;exact PySem.EqMixed.ne_int_str (G7 I q (by simp))
  | _=>exact absurd (show en=cf from hs) eJ
 | str i=>
  obtain⟨t,rfl⟩:=C;cases y with
  | aE=>cases B;exact PySem.EqNone.ne_str_none (G7 I q (by simp))
  | bl j=>cases B;exact PySem.EqMixed.ne_str_bool (G7 I q (by simp))
  | int j=>obtain⟨t',rfl⟩:=B;exact PySem.EqMixed.ne_str_int (G7 I q (by simp))
  | str j=>obtain⟨t',rfl⟩:=B;exact ne_str (G7 I q (congrArg not vR))
  | _=>exact absurd (show en=cf from hs) eJ
 | kh i=>
  obtain⟨t,rfl⟩:=C;cases y with
  | kh j=>obtain⟨t',rfl⟩:=B;exact PySem.W.ne_bytes (G7 I q (congrArg not vV))
  | _=>exact absurd (show en=cf from hs) eJ
 | _=>cases y<;>exact absurd (show en=cf from hs) eJ
theorem RY:eB X (sh .Lt) (mN λi j=>.bl (eH (i<j))):=zt λ_ _ _ _ _ _ _ q=>lt_int q
theorem R1:eB X (sh .LtE) (mN λi j=>.bl (eH (i<=j))):=zt λ_ _ _ _ _ _ _ q=>le_int q
theorem Sd:eB X (sh .Gt) (mN λi j=>.bl (eH (j<i))):=zt λ_ _ _ _ _ _ _ q=>gt_int q
theorem Se:eB X (sh .GtE) (mN λi j=>.bl (eH (j<=i))):=zt λ_ _ _ _ _ _ _ q=>ge_int q
theorem Nz:eB X (sh .IsNot) (λx y H Q=>y=.aE/\Q (.bl (!decide (x=.aE))) H):=by
 intro pi s σ H x y v u Q I B C h;obtain⟨rfl,q⟩:=h;cases C;refine isnot_none_gen (G7 I q ?_);cases x<;>first
  | (cases B;rfl)
  | (obtain⟨t,rfl⟩:=B;rfl)
theorem eB.or{f:Value->Value->Sem Value}{r G:R2}(h:eB X f r)(h':eB X f G):eB X f (λx y H Q=>r x y H Q\/G x y H Q):=by
 intro pi s σ H x y v u Q I C B q;rcases q with q | q
 .exact h pi s σ H x y v u Q I C B q
 .exact h' pi s σ H x y v u Q I C B q
theorem Nu{r:R2}(G:eB X (sh op) r)(Y:PE X a ta)(U:PE X b tb)(O:behindInMarks op b=en):PE X (.Compare a [op] [b] pos) (uA r ta tb):=by
 intro pi s σ H Q I h;exact wpAny_Compare1 (Cm Y U I h λv u s2 x y H2 Z C B q=>G pi s2 σ H2 x y v u Q Z C B q) O
def Rn(t:TE):TT:=λ σ H Q=>t σ H λx aa=>∃k,x=.bl k/\Q k aa
theorem uP{r:R2}(U:eB X (sh op) r)(ha:PE X a ta)(Z:PE X b tb)(Y:behindInMarks op b=en):PT X (.Compare a [op] [b] pos) (Rn (uA r ta tb)):=by
 intro pi s σ H Q I h;refine wpAny_isTrue_Compare1 (a9 (ha pi s σ H _ I h) λv s1 ⟨x,H1,I1,G,q1⟩=>a9 (Z pi s1 σ H1 _ I1 q1) λu s2 ⟨y,H2,I2,C,q2⟩=>
  a9 (U pi s2 σ H2 x y v u _ I2 G C q2) λc s3 ⟨z,H3,I3,B,k,e,O⟩=>?_) Y
 subst e;cases B;exact wpAny_truthy_bool ⟨H3,I3,O⟩
def zy(K:p5)(x:V)(H:Hp)(k:Bool):Prop:=
 match x with
 | .aE=>k=en
 | .bl b=>k=b
 | .int i=>k=(i != 0)
 | .str y=>y.length<=sizeLine/\k=((y.length:Int) != 0)
 | .kh y=>y.size<=sizeLine/\k=((y.size:Int) != 0)
 | .ref p=>(∃xs,cg K H p xs/\k=!xs.isEmpty)\/(∃xs,eP K H p xs/\k=!xs.isEmpty)\/∃kvs,H p=aV (.dK kvs)/\k=!kvs.isEmpty
 | _=>False
theorem rE{κ:Type}{kvs:List (κ×V)}{vs:List (κ×Value)}(r:KV kvs vs):(!vs.isEmpty)=!kvs.isEmpty:=by
 cases r<;>rfl
theorem cJ{xs:List V}(r:Vals xs its):(!its.toArray.isEmpty)=!xs.isEmpty:=by
 cases r<;>simp
theorem cF:(sizeLine:Nat)<2 ^ 63:=by rw[fS];decide
theorem zW:Tc X (λx H Q=>∃k,zy X.K x H k/\Q k H):=by
 intro pi s σ H x v Q I G h;obtain⟨k,e,q⟩:=h;have hl:=cF;have hs:sizeLine=16777216:=fS;cases x with
 | aE=>
  cases G;have B:k=en:=e;subst B;exact truthy_none ⟨H,I,q⟩
 | bl b=>
  cases G;have B:k=b:=e;subst B;exact wpAny_truthy_bool ⟨H,I,q⟩
 | int i=>
  obtain⟨t,rfl⟩:=G;have B:k=(i != 0):=e;subst B;exact PySem.P.truthy_int ⟨H,I,q⟩
 | str y=>
  obtain⟨t,rfl⟩:=G;obtain⟨Y,B⟩:y.length<=sizeLine/\k=((y.length:Int) != 0):=e;subst B;exact PySem.P.truthy_str (by lia) ⟨H,I.tok _,q⟩
 | kh y=>
  obtain⟨t,rfl⟩:=G;obtain⟨Y,B⟩:y.size<=sizeLine/\k=((y.size:Int) != 0):=e;subst B;exact PySem.W.truthy_bytes (by lia) ⟨H,I.tok _,q⟩
 | ref p=>
  cases G;have B:(∃xs,cg X.K H p xs/\k=!xs.isEmpty)\/(∃xs,eP X.K H p xs/\k=!xs.isEmpty)\/∃kvs,H p=aV (.dK kvs)/\k=!kvs.isEmpty:=e;rcases B with ⟨xs,O,B⟩ | ⟨xs,O,B⟩ | ⟨kvs,O,B⟩
  .subst B
   obtain⟨its,r,pl,U⟩:=I.list O;have C:=r.length;exact wpAny_truthy_list pl.isList (by simp only[dw];lia) ⟨H,I.tok _,by rw[cJ r];exact q⟩
  .subst B
   obtain⟨its,r,pl,U⟩:=I.tuple O;have C:=r.length;exact truthy_tuple pl (by simp only[dw];lia) ⟨H,I.tok _,by rw[cJ r];exact q⟩
  .subst B
   obtain⟨U,Z,vs,r,m⟩:kvs.length<=sizeLine/\(p==t4)=en/\∃vs,KV kvs vs/\s.heap.DictOf (CK X.prog X.w) p vs:=I.aS p _ O;have C:kvs.length=vs.length:=Paired.length r;exact wpAny_truthy_dict Z m (by lia) ⟨H,I.tok _,by rw[rE r];exact q⟩
 | _=>exact(show False from e).elim
theorem Le(O:PE X a ta)(G:∀B,isTrue a X.env B=(do let v <-B;standAt a.pos;holding [v] (truthy v))):
  PT X a (λ σ H Q=>ta σ H λx aa=>∃k,zy X.K x aa k/\Q k aa):=by
 intro pi s σ H Q I h;exact isTrue_plain (a9 (O pi s σ H _ I h) λv s1 ⟨x,Y,U,C,q1⟩=>zW pi s1 σ Y x v Q U C q1) (G _)
theorem Xz:eB X (binaryOp .Add) (λx y H Q=>∃i j,x=.str i/\y=.str j/\i.length+j.length<=sizeLine/\Q (.str (i++j)) H):=by
 intro pi s σ H x y v u Q I C B h;obtain⟨i,j,rfl,rfl,G,q⟩:=h;obtain⟨t,rfl⟩:=C;obtain⟨t',rfl⟩:=B;exact add_str (λt' O=>⟨.str (i++j),H,I.tok _,⟨_,rfl⟩,q⟩) G
theorem vals1{x:V}(r:Vals [x] us):∃u,us=[u]/\RelV x u:=by
 cases r with
 | cons C B=>cases B;exact⟨_,rfl,C⟩
theorem vals2{x:V}(r:Vals [x,y] us):∃u B,us=[u,B]/\RelV x u/\RelV y B:=by
 cases r with
 | cons U O=>
  cases O with
  | cons G C=>cases C;exact⟨_,_,rfl,U,G⟩
theorem yP(C:X.calm=cf):gc X (.builtin "max") (λxs H Q=>∃i j,xs=[.int i,.int j]/\Q (.int (if j > i then j else i)) H):=by
 intro pi s σ H xs us Q I r h;obtain⟨i,j,rfl,q⟩:=h;obtain⟨u,O,rfl,⟨t,rfl⟩,⟨t',rfl⟩⟩:=vals2 r;refine max_two_ints (I.ok.hd C) λh' G k=>⟨_,H,I.kept k,?_,q⟩
 by_cases B:j > i
 .rw[ah B,ah B];exact⟨_,rfl⟩
 .rw[ak B,ak B];exact⟨_,rfl⟩
theorem yR:gc X (.type "int") (λxs H Q=>(∃i,xs=[.int i]/\Q (.int i) H)\/∃k,xs=[.bl k]/\Q (.int (if k then 1 else 0)) H):=by
 intro pi s σ H xs us Q I r h;rcases h with ⟨i,rfl,q⟩ | ⟨k,rfl,q⟩
 .obtain⟨u,rfl,t,rfl⟩:=vals1 r
  exact call_int_int ⟨.int i,H,I,⟨_,rfl⟩,q⟩
 .obtain⟨u,rfl,B⟩:=vals1 r
  cases B;exact call_int_bool ⟨.int (if k then 1 else 0),H,I.tok _,⟨_,rfl⟩,q⟩
def GO(K:p5)(x:V)(H:Hp)(n:Nat):Prop:=
 match x with
 | .str y=>y.length<=sizeLine/\n=y.length
 | .kh y=>y.size<=sizeLine/\n=y.size
 | .ref p=>(∃xs,cg K H p xs/\n=xs.length)\/∃xs,eP K H p xs/\n=xs.length
 | _=>False
theorem TK:gc X (.builtin "len") (λxs H Q=>∃x n,xs=[x]/\GO X.K x H n/\Q (.int n) H):=by
 intro pi s σ H xs us Q I r h;obtain⟨x,n,rfl,e,q⟩:=h;obtain⟨u,rfl,G⟩:=vals1 r;have hl:=cF;have hs:sizeLine=16777216:=fS;cases x with
 | str y=>
  obtain⟨t,rfl⟩:=G;obtain⟨Z,C⟩:y.length<=sizeLine/\n=y.length:=e;subst C;exact len_str (by lia) ⟨.int _,H,I.tok _,⟨_,rfl⟩,q⟩
 | kh y=>
  obtain⟨t,rfl⟩:=G;obtain⟨Z,C⟩:y.size<=sizeLine/\n=y.size:=e;subst C;exact PySem.W.len_bytes (by lia) ⟨.int _,H,I.tok _,⟨_,rfl⟩,q⟩
 | ref p=>
  cases G;have C:(∃xs,cg X.K H p xs/\n=xs.length)\/∃xs,eP X.K H p xs/\n=xs.length:=e;rcases C with ⟨xs,O,C⟩ | ⟨xs,O,C⟩
  .subst C
   obtain⟨its,U,pl,Y⟩:=I.list O;have B:=U.length;exact Calls.call_len_list pl.isList (by simp only[dw];lia) ⟨.int xs.length,H,I.tok _,⟨_,by simp only[dw];rw[B]⟩,q⟩
  .subst C
   obtain⟨its,U,pl,Y⟩:=I.tuple O;have B:=U.length;exact len_tuple pl (by simp only[dw];lia) ⟨.int xs.length,H,I.tok _,⟨_,by simp only[dw];rw[B]⟩,q⟩
 | _=>exact(show False from e).elim
end
end L2
namespace L2
open PySem PySem.Spec PyProof.Rows
section
variable{x dx C:Addr}{aaE:Str->Option Value}{v:Value}
end
theorem oi.some_of{v:V}{o:Option Value}(r:oi (aV v) o):∃u,o=aV u/\RelV v u:=by
 cases o with
 | none=>exact(show False from r).elim
 | some u=>exact⟨u,rfl,r⟩
section
variable{C dx:Addr}{fs Uk:List (Str×V)}
end
section
variable{C dx:Addr}{fs:List (Str×V)}{f:Str}{v:V}
end
section
variable{value:Expr}{f:Str}{Yu:Pos}{tv:TE}
end
section
variable{c:Value}{b:Bool}
end
end L2
namespace L2
open PySem PySem.Spec PyProof.Rows
structure hE(k:Nat)(A:Around):Prop where
 hd:A.handled=a0
 dp:A.depth+3*k+5<recursionLimit
 un:A.units+16*k+200<cLine
theorem hE.deeper{k:Nat}{A:Around}(r:hE (k+1) A)(env:Env):hE k (A.deeper env):=
 ⟨r.hd,by have:=r.dp;show A.depth+1+3*k+5<_;lia,by have:=r.un;show A.units+3+16*k+200<_;lia⟩
theorem hE.depth{k:Nat}{A:Around}(r:hE k A):A.depth<recursionLimit:=by have:=r.dp;lia
theorem hE.units{k:Nat}{A:Around}(r:hE k A):A.units+64<cLine:=by have:=r.un;lia
def w8:TA:=λ_ H Q=>Q [] H
def BA(ta:TE)(tr:TA):TA:=λ σ H Q=>ta σ H λx C=>tr σ C λxs B=>Q (x::xs) B
section
variable{t:TA}
theorem JC:PA X [] w8:=λ_ _ _ _ H Q I h=>qh ⟨[],H,I,.nil,h⟩
theorem GK(O:PE X e te)(G:PA X es t)(hs:gm (e::es) X.env=(en,eval e X.env)::gm es X.env:=by rfl):PA X (e::es) (BA te t):=by
 intro pos pi s σ H Q I h;rw[hs];show fj _ _ (spliced ((en,eval e X.env)::backTo pos (gm es X.env))) _ _ s;refine ny (a9 (O pi s σ H _ I h) λu s1 U=>?_);obtain⟨x,H1,Z,C,q1⟩:=U;exact a9 (G pos pi s1 σ H1 _ Z q1) λus s2 ⟨xs,H2,Y,B,q2⟩=>⟨x::xs,H2,Y,.cons C B,q2⟩
def Ce(t:TA):TE:=λ σ H Q=>t σ H λxs B=>xs.length<=sizeLine/\∀p,B p=a0->Q (.ref p) (upd B p (.lst xs))
theorem Fh(h:PA X es t):PE X (.List es pos) (Ce t):=by
 intro pi s σ H Q I G;refine wpAny_List_spliced (a9 (h pos pi s σ H _ I G) λus s1 ⟨xs,C,B,r,z,q⟩=>⟨by rw[<-r.length];exact z,?_⟩);have O:C s1.heap.objs.size=a0:=B.aS.fresh (a8 _);refine⟨.ref s1.heap.objs.size,upd C s1.heap.objs.size (.lst xs),B.laid (t':=s1.toks) (λb u e=>cx _ e) (a8 _) ?_,rfl,q _ O⟩;exact⟨z,us,0,r,dm _ rfl⟩
end
abbrev Sp:=List V->Hp->VK->XK->Prop
abbrev md:=List Env->Hp->fu->XK->Value->fu->Prop
structure zI(P:Program)(w:wy)(K:p5)(mg:Str->Option Value)(base:Heap)(A:Around)(outer:List Env)(s:fu)(H:Hp):Prop where
 frames:A.frames=aV outer
 mod:Mod K mg base
 bs:∀b o,base.get? b=aV o->s.heap.get? b=aV o/\H b=a0
 rk:base.objs.size<=s.heap.objs.size
 nE:s.heap.FunFrames base outer
 vj:∀b∈nz outer,H b=a0
 aS:eL P w H s.heap
 bare:AllBare s.gens
def CE(outer:List Env)(P:Program)(w:wy)(H:Hp)(s:fu)(Q:VK)(u:Value)(s':fu):Prop:=
 ∃v aa,s'.os=s.os/\AllBare s'.gens/\Un (nz outer) [] H aa s.heap s'.heap/\eL P w aa s'.heap/\RelV v u/\Q v aa
def CR(CX:md)(outer:List Env)(P:Program)(w:wy)(H:Hp)(s:fu)(Q:VK)(E:XK)(r:Result)(s':fu):Prop:=
 match r with
 | .ok (.ret u)=>CE outer P w H s Q u s'
 | .ok _=>False
 | .error e=>CX outer H s E e s'
structure ji(P:Program)(w:wy)(K:p5)(mg:Str->Option Value)(base:Heap)(CX:md)(k:Nat)(f:Addr)(fd:FuncData)(ps:List Str)(sp:Sp):Prop where
 len:∀vs H Q E,sp vs H Q E->vs.length=ps.length
 run:∀(A:Around) (outer:List Env) (s:fu) (H:Hp) (args:Args) (us:List Value) (vs:List V) (Q:VK) (E:XK),hE k A->zI P w K mg base A outer s H->BindsTo s fd args (ps.zip us)->Vals vs us->sp vs H Q E->
  codeAny (gx P w) A (.call (.ref f) args) (CR CX outer P w H s Q E) s
theorem ji.imp{CX:md}{k:Nat}{sp Kn:Sp}(F:ji P w K mg base CX k f fd ps sp)(h:∀vs H Q E,Kn vs H Q E->sp vs H Q E):ji P w K mg base CX k f fd ps Kn:=
 ⟨λvs H Q E q=>F.len vs H Q E (h _ _ _ _ q),λA outer s H args us vs Q E C G O B hs=>F.run A outer s H args us vs Q E C G O B (h _ _ _ _ hs)⟩
section
variable{s':fu}
theorem Inv.Ue(I:Inv X pi σ H s):zI X.prog X.w X.K X.mg X.base X.A X.stack s H:=
 ⟨I.ok.frames,I.ok.mod,I.bs,fN I.ok.rk I.sz,I.stack,I.Ko,I.aS,I.bare⟩
theorem Inv.after{Q:VK}(I:Inv X pi σ H s)(h:CE X.stack X.prog X.w H s Q u s'):EP X pi σ Q u s':=by
 obtain⟨v,aa,os,bare,un,aS,r,q⟩:=h;obtain⟨B,g,d,t,XG⟩:=s';obtain rfl:XG=s.os:=os;exact⟨v,aa,I.call (h':=B) (g':=g) (d':=d) (t':=t) (ch:=[]) un aS bare (λb z=>absurd z (by simp)),r,q⟩
end
def Rt(sp:Sp)(B:List V)(E:XK)(t:TA):TE:=λ σ H Q=>t σ H λvs C=>sp (vs++B) C Q E
def Binds(K:p5)(fd:FuncData)(ps:List Str)(ds:List Value):Prop:=
 ∀(s:fu) (us:List Value),K.In s.heap->(us++ds).length=ps.length->BindsTo s fd ⟨us,[]⟩ (ps.zip (us++ds))
theorem Binds.all(h:∀us:List Value,us.length=ps.length->bindArgs fd ⟨us,[]⟩=pure (ps.zip us)):Binds K fd ps []:=λs us _ hl=>by
 rw[vm]at hl ⊢;exact .of_eq (h us hl)
def Passes(CX:md)(X:Cx)(E:XK):Prop:=∀(pi:List (Addr×Obj)) (σ:St) (H:Hp) (s:fu) (e:Value) (B:fu),Inv X pi σ H s->CX X.stack H s E e B->X.xe e B
section
variable{CX:md}{k:Nat}{C:Addr}{sp:Sp}{rq:List V}{ds:List Value}{E:XK}{m:Str}{t:TA}
theorem PU{Q:VK}{vs:List V}(F:ji X.prog X.w X.K X.mg X.base CX k f fd ps sp)(U:hE k X.A)(Y:Binds X.K fd ps ds)(hd:Vals rq ds)(O:Passes CX X E)(I:Inv X pi σ H s)(r:Vals vs us)(h:sp (vs++rq) H Q E):fj (gx X.prog X.w) X.A (call (.ref f) us) (EP X pi σ Q) X.xe s:=by
 have C:Vals (vs++rq) (us++ds):=r.append hd;have hl:(us++ds).length=ps.length:=by rw[<-C.length];exact F.len _ _ _ _ h
 refine wpAny_call (tN (F.run X.A X.stack s H ⟨us,[]⟩ (us++ds) (vs++rq) Q E U I.Ue (Y s us I.k9 hl) C h) λr G B=>?_);cases r with
 | error e=>exact O pi σ H s e G I B
 | ok fl=>
  cases fl with
  | ret u=>exact I.after B
  | next=>exact False.elim B
  | brk=>exact False.elim B
  | cont=>exact False.elim B
theorem Nv(F:ji X.prog X.w X.K X.mg X.base CX k f fd ps sp)(U:hE k X.A)(Z:Gl X x)(Y:X.mg x=aV (.ref f))(hk:PySem.W.keepIn X.K (.ref f)=cf)(hb:Binds X.K fd ps ds)(hd:Vals rq ds)(O:Passes CX X E)(ha:PA X (e::es) t)(C:(x==("__debug__" : Str))=en:=by decide)(he:gm (e::es) X.env=(en,eval e X.env)::gm es X.env:=by rfl)(G:(backTo pos (gm es X.env)).any (·.1)=en:=by rfl) :
  PE X (.Call (.Name x p) (e::es) [] pos) (Rt sp rq E t):=by
 intro pi s σ H Q I h;refine wpAny_Call_Name_kw (vA I Z Y ?_ C);refine PySem.W.callWith_K (h₀:=X.base) I.ok.mod.Eg hk (a9 (ha pos pi s σ H _ I h) λus s1 ⟨vs,H1,B,r,q⟩=>⟨B.k9,?_⟩) he G;exact PU F U hb hd O B r q
end
section
variable{CX:md}{k:Nat}{C:Addr}{ks:List Str}{sp:Sp}{E:XK}{m:Str}{aaA:Pos}{aaC:List Keyword}{t tk:TA}{nm:Option Str}
variable{g:List Value->List Value->List Value}{gV:List V->List V->List V}
end
structure Y5(N P:List Str)(sc:Scope):Prop where
 kind:sc.kind=.function
 co:sc.isCoroutine=en
 gen:sc.isGenerator=en
 nd:N.Nodup
 pre:N.take P.length=P
 par:∀x∈P,sc.names.lookup x=aV .local\/sc.names.lookup x=aV .cell
 Xp:∀y∈sc.names,y.2≠.free
theorem iG{kindOf:Str->Option OZ}{x:Str}:∀{binds:List (Str×Value)} {m:Str->Option Value},(∀v,(x,v)∉binds)->bindL kindOf binds m x=m x
 | [],_,_=>rfl
 | (n,v)::r,m,h=>by
  unfold bindL;rw[iG λw B=>h w (bx _ B)];split
  .have:x≠n:=by rintro rfl;exact h v bw
   simp[this]
  .rfl
theorem iI{kindOf:Str->Option OZ}{x:Str}:∀{binds:List (Str×Value)} {m:Str->Option Value},(∀v,(x,v)∉binds)->bindC kindOf binds m x=m x
 | [],_,_=>rfl
 | (n,v)::r,m,h=>by
  unfold bindC;rw[iI λw B=>h w (bx _ B)];split
  .rfl
  .have:x≠n:=by rintro rfl;exact h v bw
   simp[this]
theorem iH{kindOf:Str->Option OZ}{x:Str}{v:Value}:∀{P:List Str} {vs:List Value} {i:Nat} {m:Str->Option Value},P.Nodup->P[i]?=aV x->vs[i]?=aV v->kindOf x=aV .local->
  bindL kindOf (P.zip vs) m x=aV v
 | [],_,_,_,_,h,_,_=>by simp at h
 | _::_,[],_,_,_,_,h,_=>by simp at h
 | p::P,w::vs,0,m,nd,C,B,hk=>by
  simp at C B;subst C;subst B;show bindL kindOf ((p,w)::P.zip vs) m p=_;unfold bindL;rw[iG λv G=>(nj nd).1 (List.of_mem_zip G).1,ah hk];simp
 | p::P,w::vs,i+1,m,nd,C,B,hk=>by
  show bindL kindOf ((p,w)::P.zip vs) m x=_;unfold bindL;exact iH (i:=i) (nj nd).2 (by simpa using C) (by simpa using B) hk
theorem iJ{kindOf:Str->Option OZ}{x:Str}{v:Value}:∀{P:List Str} {vs:List Value} {i:Nat} {m:Str->Option Value},P.Nodup->P[i]?=aV x->vs[i]?=aV v->kindOf x≠aV .local->
  bindC kindOf (P.zip vs) m x=aV v
 | [],_,_,_,_,h,_,_=>by simp at h
 | _::_,[],_,_,_,_,h,_=>by simp at h
 | p::P,w::vs,0,m,nd,C,B,hk=>by
  simp at C B;subst C;subst B;show bindC kindOf ((p,w)::P.zip vs) m p=_;unfold bindC;rw[iI λv G=>(nj nd).1 (List.of_mem_zip G).1,ak hk];simp
 | p::P,w::vs,i+1,m,nd,C,B,hk=>by
  show bindC kindOf ((p,w)::P.zip vs) m x=_;unfold bindC;exact iJ (i:=i) (nj nd).2 (by simpa using C) (by simpa using B) hk
noncomputable def start(N:List Str)(vs:List V):St:=vs.map aV++i5 (N.length-vs.length) a0
noncomputable def oU(CX:md)(P:Program)(w:wy)(K:p5)(mg:Str->Option Value)(base:Heap)(N:List Str)(qual:Str)(scope:Scope)(f:Addr)(cd:Value)(A:Around)(outer:List Env)(s:fu)(H:Hp)(E:XK):Cx where
 prog:=P
 w:=w
 K:=K
 mg:=mg
 base:=base
 A:=A.deeper (envOfC qual scope s.heap.objs.size f cd)
 N:=N
 bu:=s
 cE:=H
 env:=envOfC qual scope s.heap.objs.size f cd
 outer:=outer
 stack:=envOfC qual scope s.heap.objs.size f cd::outer
 ex:=[]
 calm:=cf
 fn:=λ_=>cf
 pn:=[]
 xe:=λe s'=>fj (gx P w) (A.deeper (envOfC qual scope s.heap.objs.size f cd)) (leaving (envOfC qual scope s.heap.objs.size f cd) e) (λ_ za=>CX outer H s E e za) (λau za=>CX outer H s E au za) s'
theorem p8{sc:Scope}(h:sc.names.lookup x=aV .cell):∃c,(cellsFrom n sc.names []).lookup x=aV c:=by
 have q:=PySem.W.cellsFrom_some sc.names n [] (.inl h);exact oD.mp q
theorem xZ{CX:md}{U:Value}{outer:List Env}{s1:fu}{E:XK}{vs:List V}(S:Y5 N ps scope)(hd:A.handled=a0)(C:zI P w K mg base A outer s H)(hl:vs.length=ps.length)(r:Vals vs us)(x:InCallC s s.heap.objs.size (bindL (envOfC qual scope s.heap.objs.size f U).kindOf (ps.zip us) λ_=>a0) (cellsFrom (s.heap.objs.size+1) scope.names []) (bindC (envOfC qual scope s.heap.objs.size f U).kindOf (ps.zip us) λ_=>a0) s1) :
  Inv (oU CX P w K mg base N qual scope f U A outer s H E) [] (start N vs) H s1:=by
 have iF:ps.length<=N.length:=by have:=congrArg List.length S.pre;rw[zl]at this;lia
 obtain⟨O,tk,rfl,hk⟩:=x.done;have Y:∀b:Addr,b∉(oU CX P w K mg base N qual scope f U A outer s H E).ex:=λb z=>absurd (show b∈([]:List Addr) from z) (by simp)
 refine⟨⟨C.mod,S.kind,rfl,rfl,a8 _,λy z c O B=>?_,λy G=>?_,λy c _ h=>?_,λ_=>hd,Around.frames_deeper C.frames,.inr ⟨rfl,rfl⟩,λb z=>absurd z (Y b),C.bs,C.rk,λb _ _=>Y b,λb z=>absurd z (Y b),C.nE,C.vj⟩,
  rfl,C.bare,Un.kept hk,⟨_,x.toInCall.ns,λi y v O B h3=>?_⟩,λy c h=>⟨_,x.cell y c h⟩,C.aS.fresh (a8 _),λy c h=>?_,λp hp=>absurd (show p∈([]:List (Addr×Obj)) from hp) (by simp),C.aS.kept hk,?_⟩
 .exact name_of_addr x.apart (PySem.mem_of_lookup O) (PySem.mem_of_lookup B)
 .have G:scope.names.lookup y=aV .cell\/scope.names.lookup y=aV .free:=G
  rcases G with G | G
  .exact p8 G
  .exact absurd rfl (S.Xp _ (PySem.mem_of_lookup G))
 .exact mf (x.above y c (PySem.mem_of_lookup h))
 .have hi:i<vs.length:=by
   unfold start at B
   by_cases hi:i<vs.length
   .exact hi
   .rw[qk (by simpa using hi)]at B
    rw[List.getElem?_replicate]at B;split at B<;>cases B
  have ha:vs[i]?=aV v:=by
   unfold start at B;rw[km (by simpa using hi),fc]at B;cases e:vs[i]? with
   | none=>rw[e]at B;cases B
   | some a=>rw[e]at B;cases B;rfl
  obtain⟨u,Z,rv⟩:=r.get ha;have hp:ps[i]?=aV y:=by
   rw[<-S.pre,List.getElem?_take_of_lt (by lia)];exact O
  have JO:ps.Nodup:=by rw[<-S.pre];exact S.nd.sublist (List.take_sublist _ _)
  refine⟨u,rv,?_⟩;rcases S.par y (gL hp) with k | k
  .exact .inl ⟨k,iH JO hp Z k⟩
  .obtain⟨c,e⟩:=p8 (n:=s.heap.objs.size+1) k
   refine .inr ⟨.inl k,c,e,?_⟩;have q:=x.cell y c e;rw[iJ JO hp Z (by show scope.names.lookup y≠_;rw[k];decide)]at q;exact q
 .exact C.aS.fresh (mf (x.above y c (PySem.mem_of_lookup h)))
 .unfold start
  show _=N.length;rw[fA,a6,List.length_replicate];lia
theorem vH{CX:md}{k:Nat}{params:Arguments}{dV kV doc pm du ct oc:Value}{an od:Option Addr}{sp:Sp}(lk:K.lookup f=aV ⟨oc,od,.func (PySem.W.fnOf name qual params body scope dV kV doc pm an du ct),qS⟩)(kr:PySem.W.codeIn K du qual=cf)(S:Y5 N ps scope)(len:∀vs H Q E,sp vs H Q E->vs.length=ps.length)(mv:∀(A:Around) (outer:List Env) (s:fu) (H:Hp) (vs:List V) (Q:VK) (E:XK),hE k (A.deeper (envOfC qual scope s.heap.objs.size f du))->sp vs H Q E->
   ∃t,eM (oU CX P w K mg base N qual scope f du A outer s H E) body t/\t { nx:=λ_ aa=>Q .aE aa,rt:=Q } (start N vs) H) :
  ji P w K mg base CX (k+1) f (PySem.W.fnOf name qual params body scope dV kV doc pm an du ct) ps sp:=by
 refine⟨len,λA outer s H args us vs Q E Z G hb r mB=>?_⟩;have hl:=len _ _ _ _ mB;have KX:K.In s.heap:=G.mod.Eg.keeps λb o e=>(G.bs b o e).1
 have Y:s.heap.NoLimit:=G.mod.nolimit.keeps λb o e=>(G.bs b o e).1
 have Vu:∀y∈ps.zip us,scope.names.lookup y.1=aV .local\/(scope.names.lookup y.1=aV .cell/\((cellsFrom (s.heap.objs.size+1) scope.names []).lookup y.1).isSome=cf):=λ⟨n,v⟩ hy=>by
  rcases S.par n (List.of_mem_zip hy).1 with q | q
  .exact .inl q
  .exact .inr ⟨q,PySem.W.cellsFrom_some _ _ _ (.inl q)⟩
 refine codeAny_call_function Z.depth (KX _ _ lk) rfl S.co S.gen rfl (PySem.W.codeRec_of KX kr) (hb _ _ _ _ ?_);refine wpAny_newFunctionEnv_cells S.kind Vu λenv he s1 x=>?_
 subst he;refine⟨Y.keeps x.toInCall.keep,codeAny_func ?_⟩;obtain⟨t,ht,hq⟩:=mv A outer s H vs Q E (Z.deeper _) mB;have I:Inv (oU CX P w K mg base N qual scope f du A outer s H E) [] (start N vs) H s1:=xZ S Z.hd G hl r x;refine e9 (ht [] s1 (start N vs) H _ I hq) (λfl O hs=>?_) λe O hs=>hs
 have C:∀{B:St} {aa:Hp} {v:V} {u:Value},Inv (oU CX P w K mg base N qual scope f du A outer s H E) [] B aa O->RelV v u->Q v aa->CE outer P w H s Q u O:=
  λ {B aa v u} J U q=>⟨v,aa,J.os,J.bare,J.base,J.aS,U,q⟩
 cases fl with
 | ret u=>
  obtain⟨v,B,aa,J,U,q⟩:=hs;exact C J U q
 | next=>
  obtain⟨B,aa,J,q⟩:=hs;exact C (v:=V.aE) (u:=ye) J rfl q
 | brk=>
  obtain⟨_,_,_,q⟩:=hs;exact False.elim q
 | cont=>
  obtain⟨_,_,_,q⟩:=hs;exact False.elim q
end L2
namespace L2
open PySem PySem.Spec PyProof.Rows
section
variable{t:TA}{id:String}
def Kr(r:List V->Hp->VK->Prop)(t:TA):TE:=λ σ H Q=>t σ H λvs B=>r vs B Q
theorem cB(hc:gc X (.builtin id) r)(Z:Gl X x)(Y:X.mg x=a0)(O:bootBuiltins x=aV (.builtin id))(ha:PA X (e::es) t)(U:x≠"__name__":=by decide)(C:(x==("__debug__" : Str))=en:=by decide)(he:gm (e::es) X.env=(en,eval e X.env)::gm es X.env:=by rfl)(G:(backTo pos (gm es X.env)).any (·.1)=en:=by rfl):PE X (.Call (.Name x p) (e::es) [] pos) (Kr r t):=by
 intro pi s σ H Q I h;refine wpAny_Call_Name_kw (K4 I Z Y O ?_ U C);exact XH (a9 (ha pos pi s σ H _ I h) λus s1 ⟨vs,H1,I1,B,q1⟩=>hc pi s1 σ H1 vs us Q I1 B q1) he G
theorem xR(hc:gc X (.type T) r)(Z:Gl X x)(Y:X.mg x=a0)(O:bootBuiltins x=aV (.type T))(ha:PA X (e::es) t)(U:x≠"__name__":=by decide)(C:(x==("__debug__" : Str))=en:=by decide)(he:gm (e::es) X.env=(en,eval e X.env)::gm es X.env:=by rfl)(G:(backTo pos (gm es X.env)).any (·.1)=en:=by rfl):PE X (.Call (.Name x p) (e::es) [] pos) (Kr r t):=by
 intro pi s σ H Q I h;refine wpAny_Call_Name_kw (K4 I Z Y O ?_ U C);exact l5 (a9 (ha pos pi s σ H _ I h) λus s1 ⟨vs,H1,I1,B,q1⟩=>hc pi s1 σ H1 vs us Q I1 B q1) he G
end
end L2
namespace HT
open PySem PyProof.Rows
section
open PySem.SeqAt
open PySem.AutoSeq1 (wpAny_loadPart')
open PySem.MeetsSeq PySem.MeetsSeq2 PySem.MeetsSeq3
end
theorem TM{t b:Addr}{ws:List Value}(ht:IsTup s.heap t vs.toArray)(hb:IsTup s.heap b ws.toArray)(hv:vs≠[])(h1:ws=[]->Q (.ref t) s)(h2:ws≠[]->Q (.ref s.heap.objs.size) { s with heap:=s.heap.push { cls:=.type "tuple",data:=.seq (vs++ws).toArray } })(hsz:vs.length+ws.length<=sizeLine):fj (gx prog w) A (binaryOp .Add (.ref t) (.ref b)) Q E s:=by
 obtain⟨⟨cls,dd,data,sl⟩,O,hc,n,hd⟩:=id ht;obtain⟨⟨Hq,Y,data2,rh⟩,C,U,Z,B⟩:=id hb;simp only at hc hd U B;subst hc hd U B;have e:vs.toArray++ws.toArray=(vs++ws).toArray:=by simp
 by_cases G:ws=[]
 .exact concat_meets ⟨_,O,rfl⟩ ⟨_,C,rfl⟩ noFill_tuple_add seq_tuple_add PySem.F.slot_tuple_add PySem.F.entry_tuple_add (PySem.F.args_tuple_add_2 _ _)
   (tuple_addW1 t b vs.toArray ws.toArray n Z dd Y sl rh (by simpa using hv) (by simp[G])) ⟨O,C,h1 G⟩
 .refine concat_meets ⟨_,O,rfl⟩ ⟨_,C,rfl⟩ noFill_tuple_add seq_tuple_add PySem.F.slot_tuple_add PySem.F.entry_tuple_add (PySem.F.args_tuple_add_2 _ _)
   (tuple_addW2 t b vs.toArray ws.toArray n Z dd Y sl rh (by simpa using hv) (by simpa using G) (by rw[dw,dw];exact hsz)) ⟨O,C,?_⟩
  rw[e];exact h2 G
noncomputable def bq(n d:Nat):Option Int->Nat
 | none=>d
 | some v=>if v<0 then (v+(n:Int)).toNat else min v.toNat n
theorem X2(n d k:Nat):bq n d (aV (k:Int))=min k n:=by
 show (if (k:Int)<0 then ((k:Int)+(n:Int)).toNat else min (k:Int).toNat n)=min k n;rw[ak (by lia),qp]
theorem PQ(n d:Nat)(hd:d<=n)(o:Option Int):bq n d o<=n:=by
 cases o with
 | none=>exact hd
 | some v=>
  show (if v<0 then (v+(n:Int)).toNat else min v.toNat n)<=n
  by_cases B:v<0
  .rw[ah B];lia
  .rw[ak B];exact Nat.min_le_right _ _
theorem vW(v:Int)(n d:Nat):(if v<0 then max (v+(n:Int)) 0 else min v (n:Int))=((bq n d (aV v):Nat):Int):=by
 show (if v<0 then max (v+(n:Int)) 0 else min v (n:Int))=(((if v<0 then (v+(n:Int)).toNat else min v.toNat n):Nat):Int)
 by_cases B:v<0
 .simp only[ah B];lia
 .simp only[ak B];lia
theorem tH(lo hi:Option Int)(n:Nat):Builtin.Slice.sliceAdjust lo hi 1 (n:Int)=(((bq n 0 lo:Nat):Int),((bq n n hi:Nat):Int)):=by
 have B:¬((1:Int)<0):=by lia
 unfold Builtin.Slice.sliceAdjust;simp only[B,if_false];refine Prod.ext ?_ ?_
 .cases lo with
  | none=>rfl
  | some v=>exact vW v n 0
 .cases hi with
  | none=>rfl
  | some v=>exact vW v n n
theorem qU(i j:Nat):Builtin.Slice.slicePlaces (i:Int) (j:Int) 1=j-i:=by
 unfold Builtin.Slice.slicePlaces;have B:(1:Int) > 0:=by lia
 simp only[B,if_true,Int.ediv_one];split<;>lia
theorem bO{v:Value}{o:Option Int}{Q:Option Int->fu->Prop}(p:IsPart v o)(h:Q o s):fj (gx prog w) A (Builtin.Slice.slicePartIndex v) Q E s:=by
 cases p with
 | none=>exact slicePart_none h
 | int i t=>exact slicePart_int h
theorem Km{sl:Addr}{C B:Value}{lo hi:Option Int}{Q:Int×Int×Nat->fu->Prop}(hs:s.heap.IsSliceOf sl C B .none)(pl:IsPart C lo)(U:IsPart B hi)(h:Q (((bq n 0 lo:Nat):Int),1,bq n n hi-bq n 0 lo) s):fj (gx prog w) A (Builtin.Slice.sliceApplied (.ref sl) (pure (n:Int))) Q E s:=by
 obtain⟨os,G,Y,O⟩:=id hs;unfold Builtin.Slice.sliceApplied Builtin.Slice.sliceFields;refine ab (ab (wpAny_field G O (x:=C) rfl (ab (wpAny_field G O (x:=B) rfl (ab (wpAny_field G O (x:=.none) rfl (ag ?_)))))));refine ab (slicePart_none ?_);show fj _ _ (if ((1:Int)==0)=cf then _ else _) _ _ s;rw[ak (by decide)];refine ab (bO pl (ab (bO U (ab (ag ?_)))));show fj _ _ (match Builtin.Slice.sliceAdjust lo hi 1 (n:Int) with | (lo,hi)=>pure (lo,(1:Int),Builtin.Slice.slicePlaces lo hi 1)) _ _ s;rw[tH lo hi n];show fj _ _ (pure (((bq n 0 lo:Nat):Int),(1:Int),Builtin.Slice.slicePlaces ((bq n 0 lo:Nat):Int) ((bq n n hi:Nat):Int) 1)) _ _ s;rw[qU];exact ag h
theorem Lg(xs:Array Value)(i k:Nat):((iS k).filterMap λ(m:Nat)=>xs[((i:Int)+(m:Int)*1).toNat]?).toArray=((xs.toList.drop i).take k).toArray:=by
 have e:(λ(m:Nat)=>xs[((i:Int)+(m:Int)*1).toNat]?)=λm=>xs[i+m]?:=by
  funext m;have:((i:Int)+(m:Int)*1).toNat=i+m:=by lia
  rw[this]
 rw[e];have:=pick_run xs i k;rw[List.filterMap_map]at this;have B:((λx=>xs[x]?)∘λx=>i+x)=λm=>xs[i+m]?:=rfl
 rw[B]at this;rw[this]
theorem Ut{t sl:Addr}{G C:Value}{lo hi:Option Int}(B:IsTup s.heap t items)(hs:s.heap.IsSliceOf sl G C .none)(pl:IsPart G lo)(U:IsPart C hi)(Z:¬(bq items.size 0 lo=0/\bq items.size items.size hi=items.size))(h:Q (.ref s.heap.objs.size) { s with heap:=s.heap.push { cls:=.type "tuple",data:=.seq ((items.toList.drop (bq items.size 0 lo)).take (bq items.size items.size hi-bq items.size 0 lo)).toArray } })(hsz:items.size<=sizeLine):fj (gx prog w) A (getItem (.ref t) (.ref sl)) Q E s:=by
 have AN:sizeOk (.seq ((items.toList.drop (bq items.size 0 lo)).take (bq items.size items.size hi-bq items.size 0 lo)).toArray):=by
  show ((items.toList.drop (bq items.size 0 lo)).take (bq items.size items.size hi-bq items.size 0 lo)).toArray.size<=sizeLine;rw[dw,zl,List.length_drop,di];omega
 have hj:bq items.size items.size hi<=items.size:=PQ _ _ (a8 _) hi;obtain⟨os,O,Y,sj⟩:=id hs;have Di:s.TypeIs (.ref sl) "slice":=⟨os,O,Y⟩
 unfold getItem
 try with_reducible refine fg ?_
 first | refine ab (ag ?_) | skip
 refine ab (wpAny_sequenceKey B.typeIs (by decide) ?_);refine ab (zm (name:=fi "__getitem__") B.typeIs uf
  (kg uf B.typeIs entry_tuple_getitem ?_ (args_tuple_getitem _ _)))
 show fj _ _ (Builtin.Tuple.tupleItemsOf (.ref t) >>= _) _ _ s;refine ab (tupleItemsOf_ B ?_);refine ab (vz Di ?_);rw[ah (by decide)];refine ab (Km hs pl U ?_);have DV:¬((((bq items.size 0 lo:Nat):Int)==0&&(1:Int)==1&&(bq items.size items.size hi-bq items.size 0 lo)==items.size)=cf):=by
  intro q;rw[gS,gS]at q;have q1:((bq items.size 0 lo:Nat):Int)=0:=eq_of_beq q.1.1;have q2:bq items.size items.size hi-bq items.size 0 lo=items.size:=eq_of_beq q.2;exact Z ⟨by omega,by omega⟩
 show fj _ _ (if (((bq items.size 0 lo:Nat):Int)==0&&(1:Int)==1&&(bq items.size items.size hi-bq items.size 0 lo)==items.size)=cf then _ else _) _ _ s;rw[ak DV,Lg]
 first
  | exact ab (m:=yx _) (kn (ag ⟨_,rfl,ag h⟩) AN)
  | exact ab (m:=yx _) (kn (ab (ag (ag ⟨_,rfl,ag h⟩))) AN)
  | exact ab (ab (m:=yx _) (kn (ag (ag ⟨_,rfl,ag h⟩)) AN))
  | exact ab (ab (m:=yx _) (kn (ag ⟨_,rfl,ag h⟩) AN))
end HT
namespace L2
open PySem PySem.Spec PyProof.Rows
abbrev TO:=St->Hp->(Option Int->Hp->Prop)->Prop
def PO(X:Cx)(e:Option Expr)(t:TO):Prop:=
 ∀(pi:List (Addr×Obj)) (s:fu) (σ:St) (H:Hp) (Q:Option Int->Hp->Prop),Inv X pi σ H s->t σ H Q->
  fj (gx X.prog X.w) X.A (evalPart e X.env) (λu B=>∃o aa,Inv X pi σ aa B/\IsPart u o/\Q o aa) X.xe s
def Mi:TO:=λ_ H Q=>Q a0 H
def Rp(t:TE):TO:=λ σ H Q=>t σ H λx B=>∃i,x=.int i/\Q (aV i) B
theorem intsAre_of:∀{us:List Value},Vals (ns.map V.int) us->IntsAre us ns:=by
 induction ns with
 | nil=>intro us r;rw[List.map_nil]at r;cases r;exact .nil
 | cons n ns G=>
  intro us r;rw[cj]at r;cases r with
  | cons C B=>
   obtain⟨t,e⟩:=C;subst e;exact .cons n t (G B)
section
variable{lo hi:Option Expr}{tl th:TO}
theorem Ni:PO X a0 Mi:=by
 intro pi s σ H Q I h;rw[evalPart_none];exact ag ⟨a0,H,I,.none,h⟩
theorem Nh(h:PE X e te):PO X (aV e) (Rp te):=by
 intro pi s σ H Q I C;rw[evalPart_some];refine a9 (h pi s σ H _ I C) λu s1 G=>?_
 obtain⟨x,U,O,B,q1⟩:=G;obtain⟨i,rfl,q⟩:=q1;obtain⟨t,rfl⟩:=B;exact⟨aV i,U,O,.int i t,q⟩
def pV(X:Cx)(r:V->Option Int->Option Int->Hp->VK->Prop):Prop:=
 ∀(pi:List (Addr×Obj)) (s:fu) (σ:St) (H:Hp) (x:V) (v C B:Value) (lo hi:Option Int) (sl:Addr) (Q:VK),Inv X pi σ H s->RelV x v->s.heap.IsSliceOf sl C B .none->IsPart C lo->IsPart B hi->r x lo hi H Q->
  ∃T id,typeLookup (.type T) "__getitem__" = pure (aV (.builtin id))/\s.TypeIs v T/\fj (gx X.prog X.w) X.A (getItem v (.ref sl)) (EP X pi σ Q) X.xe s
theorem pV.or{r U:V->Option Int->Option Int->Hp->VK->Prop}(h:pV X r)(h':pV X U):pV X (λx lo hi H Q=>r x lo hi H Q\/U x lo hi H Q):=by
 intro pi s σ H x v C B lo hi sl Q I G hs pl O q;rcases q with q | q
 .exact h pi s σ H x v C B lo hi sl Q I G hs pl O q
 .exact h' pi s σ H x v C B lo hi sl Q I G hs pl O q
def Ys(r:V->Option Int->Option Int->Hp->VK->Prop)(te:TE)(tl th:TO):TE:=λ σ H Q=>te σ H λx G=>tl σ G λl C=>th σ C λu B=>r x l u B Q
theorem Lh{r:V->Option Int->Option Int->Hp->VK->Prop}(hr:pV X r)(he:PE X e te)(hl:PO X lo tl)(hu:PO X hi th):PE X (.Subscript e (.Slice lo hi a0 p2) pos) (Ys r te tl th):=by
 intro pi s σ H Q I h;refine Subscript_ (a9 (he pi s σ H _ I h) λv s1 O=>?_);obtain⟨x,H1,I1,Y,q1⟩:=O;refine wpAny_Slice (a9 (hl pi s1 σ H1 _ I1 q1) λG s2 ⟨l,H2,I2,pl,q2⟩=>a9 (hu pi s2 σ H2 _ I2 q2) λC B O=>?_);obtain⟨u,U,I3,pu,Z⟩:=O;rw[evalPart_none];refine ag ?_;have I4:Inv X pi σ U { B with heap:=B.heap.push { cls:=.type "slice",data:=.fields #[G,C,.none] } }:=I3.kept (t':=B.toks) λb ob q=>cx _ q
 obtain⟨T,id,hT,ht,hg⟩:=hr pi { B with heap:=B.heap.push { cls:=.type "slice",data:=.fields #[G,C,.none] } } σ U x v G C l u B.heap.objs.size Q I4 Y (Heap.IsSliceOf.new ..) pl pu Z;show fj (gx X.prog X.w) X.A (subscriptTail e (.Slice lo hi a0 p2) v (.ref B.heap.objs.size)) (EP X pi σ Q) X.xe { B with heap:=B.heap.push { cls:=.type "slice",data:=.fields #[G,C,.none] } };exact tail_any (ops:=[.ref B.heap.objs.size,v]) ht hT hg (by with_unfolding_all rfl)
noncomputable def oV(xs:List V)(lo hi:Option Int):List V:=(xs.drop (HT.bq xs.length 0 lo)).take (HT.bq xs.length xs.length hi-HT.bq xs.length 0 lo)
theorem aC(xs:List V)(lo hi:Option Int):(oV xs lo hi).length<=xs.length:=by
 unfold oV;rw[zl,List.length_drop];lia
theorem Vals.A6{xs:List V}(r:Vals xs us):us=[]↔xs=[]:=by
 cases r with
 | nil=>simp
 | cons _ _=>simp
theorem pB:gc X (.type "tuple") (λxs H Q=>∃a ys,xs=[.ref a]/\eP X.K H a ys/\Q (.ref a) H):=by
 intro pi s σ H xs us Q I r h;obtain⟨a,ys,rfl,C,q⟩:=h;obtain⟨u,rfl,B⟩:=vals1 r;cases B;obtain⟨its,_,p1,_⟩:=I.tuple C;exact call_tuple_same (items:=its.toArray) p1 ⟨.ref a,H,I,rfl,q⟩
end
end L2
namespace L2
open PySem PySem.Spec PyProof.Rows
noncomputable def um(n:Nat)(i:Int):Option Nat:=if 0<=i then (if i<n then aV i.toNat else a0) else if -(n:Int)<=i then aV (i+n).toNat else a0
noncomputable def cy{α:Type}(xs:List α)(i:Int):Option α:=(um xs.length i).bind λj=>xs[j]?
theorem N3{i:Int}(h:um n i=aV j):seqIndex? i n=aV j/\j<n/\-(n:Int)<=i/\i<n:=by
 unfold um at h
 by_cases C:0<=i
 .rw[ah C]at h
  by_cases B:i<n
  .rw[ah B]at h
   have e:i.toNat=j:=b5 h;exact⟨by rw[seqIndex_of C B,e],by lia,by lia,B⟩
  .rw[ak B]at h;cases h
 .rw[ak C]at h
  by_cases B:-(n:Int)<=i
  .rw[ah B]at h
   have e:(i+n).toNat=j:=b5 h;exact⟨by rw[seqIndex_neg (by lia) B,e],by lia,B,by lia⟩
  .rw[ak B]at h;cases h
theorem lJ{α:Type}{xs:List α}{i:Int}{v:α}(h:cy xs i=aV v):∃j,seqIndex? i xs.length=aV j/\xs[j]?=aV v/\j<xs.length/\-(xs.length:Int)<=i/\i<xs.length:=by
 unfold cy at h;cases e:um xs.length i with
 | none=>rw[e]at h;cases h
 | some j=>
  rw[e]at h;obtain⟨O,G,C,B⟩:=N3 e;exact⟨j,O,h,G,C,B⟩
def lU(b:Expr):Prop:=∀o i,subscripted b en o i=operate [o,i] (getItem o i)
def pE(X:Cx)(r:R2):Prop:=
 ∀(C B:Expr) (pi:List (Addr×Obj)) (s:fu) (σ:St) (H:Hp) (x y:V) (v u:Value) (Q:VK),Inv X pi σ H s->RelV x v->RelV y u->r x y H Q->
  subscripted B en v u=operate [v,u] (getItem v u)->fj (gx X.prog X.w) X.A (subscriptTail C B v u) (EP X pi σ Q) X.xe s
def Af(X:Cx)(id:String)(r:V->List V->Hp->VK->Prop):Prop:=
 ∀(pi:List (Addr×Obj)) (s:fu) (σ:St) (H:Hp) (x:V) (xs:List V) (v:Value) (us:List Value) (Q:VK),Inv X pi σ H s->RelV x v->Vals xs us->r x xs H Q->
  fj (gx X.prog X.w) X.A (call (.builtin id) (v::us)) (EP X pi σ Q) X.xe s
section
variable{a:Expr}
theorem pE.or{r O:R2}(h:pE X r)(h':pE X O):pE X (λx y H Q=>r x y H Q\/O x y H Q):=by
 intro B slice pi s σ H x y v u Q I G C q hs;rcases q with q | q
 .exact h B slice pi s σ H x y v u Q I G C q hs
 .exact h' B slice pi s σ H x y v u Q I G C q hs
theorem RO{r:R2}(G:pE X r)(U:PE X a ta)(O:PE X b tb)(hs:lU b):PE X (.Subscript a b pos) (uA r ta tb):=by
 intro pi s σ H Q I h;exact Subscript_ (Cm U O I h λv u s2 x y Z Y C B q=>G a b pi s2 σ Z x y v u Q Y C B q (hs _ _))
def Gv(K:p5):R2:=λx y H Q=>∃p xs i v,x=.ref p/\y=.int i/\cg K H p xs/\cy xs i=aV v/\Q v H
def Gs(K:p5):R2:=λx y H Q=>∃p xs i v,x=.ref p/\y=.int i/\eP K H p xs/\cy xs i=aV v/\Q v H
def Gu:R2:=λx y H Q=>∃z i c,x=.str z/\y=.int i/\z.length<=sizeLine/\cy z.cps.toList i=aV c/\Q (.str ⟨#[c]⟩) H
theorem WH:pE X (Gv X.K):=by
 intro G slice pi s σ H x y v u Q I rx ry h hs;obtain⟨p,xs,i,z,rfl,rfl,hq,he,q⟩:=h;cases rx;obtain⟨t,rfl⟩:=ry;obtain⟨its,r,pl,hz⟩:=I.list hq;obtain⟨j,C,h2,h3,h4,h5⟩:=lJ he;obtain⟨w,Y,jy⟩:=r.get h2;have hl:=r.length;have hn:=cF;have B:EP X pi σ Q w s:=⟨z,H,I,jy,q⟩
 by_cases U:0<=i
 .have O:i.toNat=j:=by
   rw[seqIndex_of U h5]at C;exact b5 C
  exact item_listR pl.isList U (by lia) (by rw[O];simpa using Y) B hs
 .have O:(i+(its.toArray.size:Int)).toNat=j:=by
   rw[seqIndex_neg (by lia) h4]at C;rw[dw,<-hl];exact b5 C
  exact subscriptTail_builtinR (x:=w) pl.isList.typeIs slot_list_getitem.lookup
   (wpAny_getItem_list_neg (Q:=λr Z=>r=w/\EP X pi σ Q r Z) pl.isList (by lia) (by rw[dw]<;>lia) (by lia) (by rw[O];simpa using Y) ⟨rfl,B⟩) hs
theorem Jn:pE X (Gs X.K):=by
 intro B slice pi s σ H x y v u Q I U O h hs;obtain⟨p,xs,i,z,rfl,rfl,Z,he,q⟩:=h;cases U;obtain⟨t,rfl⟩:=O;obtain⟨its,r,pl,hz⟩:=I.tuple Z;obtain⟨j,h1,h2,h3,h4,h5⟩:=lJ he;obtain⟨w,ew,Y⟩:=r.get h2;have hl:=r.length;have hn:=cF;have C:EP X pi σ Q w s:=⟨z,H,I,Y,q⟩
 exact subscriptTail_builtinR (x:=w) pl.typeIs slot_tuple_getitem.lookup
  (getItem_tuple (j:=j) (Q:=λr G=>r=w/\EP X pi σ Q r G) pl (by lia) (by lia) (by rw[dw,<-hl];exact h1) (by simpa using ew) ⟨rfl,C⟩) hs
theorem Qz:pE X Gu:=by
 intro B slice pi s σ H x y v u Q I O G h hs;obtain⟨z,i,c,rfl,rfl,hz,U,q⟩:=h;obtain⟨t,rfl⟩:=O;obtain⟨t',rfl⟩:=G;obtain⟨j,C,h2,h3,Z,Y⟩:=lJ U;have hl:z.cps.toList.length=z.length:=by simp[Str.length]
 rw[hl]at C Z Y;have hn:=cF;exact tail_any (typeIs_str s z t) slot_str_getitem.lookup (getItem_str (c:=c) (by
  have e1:eH (i < -(2 ^ 63:Int))=en:=df (by lia);have e2:eH (i≥2 ^ 63)=en:=df (by lia);rw[e1,e2,Bool.or_false]) (by rw[C];simpa using h2) ⟨.str ⟨#[c]⟩,H,I.tok _,⟨_,rfl⟩,q⟩) hs
def Ki(K:p5):R2:=λx y H Q=>Gv K x y H Q\/Gs K x y H Q\/Gu x y H Q
theorem QA:pE X (Ki X.K):=WH.or (Jn.or Qz)
theorem j5(lo hi:Option Int)(n:Nat):(sliceBounds lo hi a0 n).1=((HT.bq n 0 lo:Nat):Int)/\(sliceBounds lo hi a0 n).2.1=((HT.bq n n hi:Nat):Int)/\(sliceBounds lo hi a0 n).2.2=1:=by
 refine⟨?_,?_,rfl⟩
 .cases lo with
  | none=>simp[sliceBounds,HT.bq]
  | some i=>
   simp only[sliceBounds,HT.bq,Option.getD_none,show (1:Int) > 0 by decide,if_true]
   by_cases h:i<0
   .simp only[h,if_true]<;>lia
   .simp only[h,if_false]<;>lia
 .cases hi with
  | none=>simp[sliceBounds,HT.bq]
  | some i=>
   simp only[sliceBounds,HT.bq,Option.getD_none,show (1:Int) > 0 by decide,if_true]
   by_cases h:i<0
   .simp only[h,if_true]<;>lia
   .simp only[h,if_false]<;>lia
theorem eU(its:List Value)(lo hi:Option Int):slicePick its.toArray lo hi a0=((its.drop (HT.bq its.length 0 lo)).take (HT.bq its.length its.length hi-HT.bq its.length 0 lo)).toArray:=by
 obtain⟨G,C,B⟩:=j5 lo hi its.toArray.size;unfold slicePick;rw[G,C,B];simp only[sliceRange_one,pick_run,dw]<;>rfl
def Ci(K:p5):V->Option Int->Option Int->Hp->VK->Prop:=λx lo hi H Q=>∃a xs,x=.ref a/\cg K H a xs/\∀p,H p=a0->Q (.ref p) (upd H p (.lst (oV xs lo hi)))
theorem Yk:pV X (Ci X.K):=by
 intro pi s σ H x v vl Z lo hi sl Q I G hs pl O h;obtain⟨a,xs,rfl,Y,q⟩:=h;cases G;obtain⟨its,r,C,U⟩:=I.list Y;have B:=r.length;refine⟨"list",_,slot_list_getitem.lookup,C.isList.typeIs,?_⟩;refine wpAny_getItem_list_slice C.isList hs pl O .none (by simp) ?_ (by rw[dw]<;>lia);rw[eU,<-B];refine⟨.ref s.heap.objs.size,_,I.laid (t':=s.toks) (o:=.lst (oV xs lo hi)) (λb ob q=>cx _ q) (a8 _) ?_,rfl,q _ (I.aS.fresh (a8 _))⟩;exact⟨fN (aC xs lo hi) U,_,0,(r.drop (HT.bq xs.length 0 lo)).take (HT.bq xs.length xs.length hi-HT.bq xs.length 0 lo),dm _ rfl⟩
noncomputable def RB:V->Bool
 | .aE=>cf
 | .bl _=>cf
 | .int _=>cf
 | .str _=>cf
 | _=>en
noncomputable def gN:V->V->Bool
 | .aE,.aE=>cf
 | .bl a,.bl b=>a==b
 | .bl a,.int b=>(if a then 1 else 0)==b
 | .int a,.bl b=>a==(if b then 1 else 0)
 | .int a,.int b=>a==b
 | .str a,.str b=>a==b
 | _,_=>en
theorem kO{x:V}{v:Value}(C:RelV y u)(B:RelV x v)(O:RB y=cf)(G:RB x=cf):SeqAt.EqAt A s u v (gN y x):=by
 cases y with
 | aE=>
  cases C;cases x with
  | aE=>cases B;exact SeqAt.EqAt.same _
  | bl b=>cases B;exact SeqAt.EqAt.none_bool b
  | int b=>obtain⟨t,rfl⟩:=B;exact SeqAt.EqAt.none_int b t
  | str b=>obtain⟨t,rfl⟩:=B;exact SeqAt.EqAt.none_str b t
  | _=>exact absurd (show en=cf from G) eJ
 | bl a=>
  cases C;cases x with
  | aE=>cases B;exact SeqAt.EqAt.bool_none a
  | bl b=>cases B;exact SeqAt.EqAt.bool_bool a b
  | int b=>obtain⟨t,rfl⟩:=B;exact SeqAt.EqAt.bool_int a b t
  | str b=>obtain⟨t,rfl⟩:=B;exact SeqAt.EqAt.bool_str a b t
  | _=>exact absurd (show en=cf from G) eJ
 | int a=>
  obtain⟨t',rfl⟩:=C;cases x with
  | aE=>cases B;exact SeqAt.EqAt.int_none a t'
  | bl b=>cases B;exact SeqAt.EqAt.int_bool a t' b
  | int b=>obtain⟨t,rfl⟩:=B;exact SeqAt.EqAt.int_int a t' b t
  | str b=>obtain⟨t,rfl⟩:=B;exact SeqAt.EqAt.int_str a t' b t
  | _=>exact absurd (show en=cf from G) eJ
 | str a=>
  obtain⟨t',rfl⟩:=C;cases x with
  | aE=>cases B;exact SeqAt.EqAt.str_none a t'
  | bl b=>cases B;exact SeqAt.EqAt.str_bool a t' b
  | int b=>obtain⟨t,rfl⟩:=B;exact SeqAt.EqAt.str_int a t' b t
  | str b=>obtain⟨t,rfl⟩:=B;exact SeqAt.EqAt.str_str a t' b t
  | _=>exact absurd (show en=cf from G) eJ
 | _=>exact absurd (show en=cf from O) eJ
noncomputable def jd(x:V)(u:Value):Bool:=match u with
 | .none=>gN .aE x
 | .bool b=>gN (.bl b) x
 | .int i _=>gN (.int i) x
 | .str z _=>gN (.str z) x
 | _=>en
theorem kJ{x:V}(r:RelV y u)(f:RB y=cf):jd x u=gN y x:=by
 cases y with
 | aE=>cases r;rfl
 | bl b=>cases r;rfl
 | int i=>obtain⟨t,rfl⟩:=r;rfl
 | str z=>obtain⟨t,rfl⟩:=r;rfl
 | _=>exact absurd (show en=cf from f) eJ
theorem XJ{x:V}{xs:List V}(h:Vals xs us)(f:xs.all RB=cf):us.any (jd x)=xs.any λy=>gN y x:=by
 induction h with
 | nil=>rfl
 | cons r t B=>
  rw[List.all_cons,gS]at f;rw[List.any_cons,List.any_cons,kJ r f.1,B f.2]
theorem SQ{x:V}{v:Value}(C:RelV x v)(U:RB x=cf){xs:List V}(h:Vals xs us)(f:xs.all RB=cf):∀u∈us,SeqAt.EqAt A s u v (jd x u):=by
 induction h with
 | nil=>exact λu B=>by cases B
 | cons r t O=>
  intro G B;rw[List.all_cons,gS]at f;rcases cq B with rfl | B
  .rw[kJ r f.1];exact kO r C f.1 U
  .exact O f.2 G B
noncomputable def uj(x:V)(xs:List V):Bool:=xs.any λy=>gN y x
def EC(K:p5)(neg:Bool):R2:=λx y H Q=>∃p xs,y=.ref p/\(cg K H p xs\/eP K H p xs)/\RB x=cf/\xs.all RB=cf/\Q (.bl (if neg then !uj x xs else uj x xs)) H
theorem xU:eB X (sh .In) (EC X.K en):=by
 intro pi s σ H x y v u Q I G U h;obtain⟨p,xs,rfl,B,O,fs,q⟩:=h;cases U;rcases B with B | B
 .obtain⟨its,r,pl,Y⟩:=I.list B
  refine SeqAt.in_listAt (jd x) pl.isList (λw C=>SQ G O r fs w (by simpa using C)) ⟨.bl _,H,I,rfl,?_⟩;rw[show its.toArray.any (jd x)=its.any (jd x) by simp,XJ r fs];exact q
 .obtain⟨its,r,pl,Y⟩:=I.tuple B
  refine SeqAt.in_tupleAt (jd x) pl (λw C=>SQ G O r fs w (by simpa using C)) ⟨.bl _,H,I,rfl,?_⟩;rw[show its.toArray.any (jd x)=its.any (jd x) by simp,XJ r fs];exact q
theorem jM:eB X (sh .NotIn) (EC X.K cf):=by
 intro pi s σ H x y v u Q I G U h;obtain⟨p,xs,rfl,B,O,fs,q⟩:=h;cases U;rcases B with B | B
 .obtain⟨its,r,pl,Y⟩:=I.list B
  refine SeqAt.notIn_listAt (jd x) pl.isList (λw C=>SQ G O r fs w (by simpa using C)) ⟨.bl _,H,I,rfl,?_⟩;rw[show its.toArray.any (jd x)=its.any (jd x) by simp,XJ r fs];exact q
 .obtain⟨its,r,pl,Y⟩:=I.tuple B
  refine SeqAt.notIn_tupleAt (jd x) pl (λw C=>SQ G O r fs w (by simpa using C)) ⟨.bl _,H,I,rfl,?_⟩;rw[show its.toArray.any (jd x)=its.any (jd x) by simp,XJ r fs];exact q
theorem gc.or{f:Value}{C:List V->Hp->VK->Prop}(h:gc X f r)(h':gc X f C):gc X f (λxs H Q=>r xs H Q\/C xs H Q):=by
 intro pi s σ H xs us Q I B q;rcases q with q | q
 .exact h pi s σ H xs us Q I B q
 .exact h' pi s σ H xs us Q I B q
theorem lG:gc X (.type "list") (λxs H Q=>∃p ys,xs=[.ref p]/\(cg X.K H p ys\/eP X.K H p ys)/\∀l,H l=a0->Q (.ref l) (upd H l (.lst ys))):=by
 intro pi s σ H xs us Q I r h;obtain⟨p,ys,rfl,O,q⟩:=h;obtain⟨u,rfl,rx⟩:=vals1 r;cases rx;have Y:∀(its:List Value),Vals ys its->ys.length<=sizeLine->∀(h':Heap) (B:Nat),(∀b bt,s.heap.get? b=aV bt->h'.get? b=aV bt)->
   h'.get? s.heap.objs.size=aV { cls:=.type "list",dict:=a0,data:=.seq its.toArray B,slots:=#[] }->EP X pi σ Q (.ref s.heap.objs.size) { s with heap:=h' }:=λits C G h' B kp e=>
  ⟨.ref s.heap.objs.size,_,I.laid (t':=s.toks) kp (a8 _) (show dS X.prog X.w _ h' _ (.lst ys) from ⟨G,its,B,C,e⟩),rfl,q _ (I.aS.fresh (a8 _))⟩
 rcases O with O | O
 .obtain⟨its,C,pl,G⟩:=I.list O
  have U:=C.length;obtain⟨o,Z,hc,n,hd⟩:=pl.isList;exact call_list_seq p (.inl rfl) Z hc hd (λh' B kp e=>Y its C G h' B kp e) (by simp only[dw]<;>lia)
 .obtain⟨its,C,pl,G⟩:=I.tuple O
  have U:=C.length;obtain⟨o,Z,hc,n,hd⟩:=pl;exact call_list_seq p (.inr rfl) Z hc hd (λh' B kp e=>Y its C G h' B kp e) (by simp only[dw]<;>lia)
def EM(K:p5)(T:String)(x:V)(H:Hp):Prop:=match x with
 | .str _=>T = "str"
 | .int _=>T = "int"
 | .ref p=>(T = "list"/\∃xs,cg K H p xs)\/(T = "tuple"/\∃o,K.lookup p=aV o/\o.cls=.type "tuple"/\o.dict=a0)\/
   (T = "dict"/\((∃kvs,H p=aV (.dK kvs))\/∃kvs,H p=aV (.dT kvs)))\/(T = "set"/\∃S n,H p=aV (.set S n))
 | _=>False
theorem zT{x:V}{v:Value}(I:Inv X pi σ H s)(r:RelV x v)(ty:EM X.K T x H):
  s.TypeIs v T/\∀a,v=.ref a->∃ob,s.heap.get? a=aV ob/\ob.dict=a0:=by
 cases x with
 | str z=>
  obtain⟨t,rfl⟩:=r;cases (show T = "str" from ty);exact⟨typeIs_str s z t,λ_ e=>nomatch e⟩
 | int i=>
  obtain⟨t,rfl⟩:=r;cases (show T = "int" from ty);exact⟨typeIs_int s i t,λ_ e=>nomatch e⟩
 | ref p=>
  cases r;rcases ty with ⟨rfl,xs,C⟩ | ⟨rfl,o,hk,G,hd⟩ | ⟨rfl,hk⟩ | ⟨rfl,S,n,hk⟩
  .obtain⟨its,_,pl,_⟩:=I.list C
   refine⟨pl.isList.typeIs,λa e=>?_⟩;cases e;obtain⟨o,n,e,c,hd,_⟩:=pl;exact⟨o,e,hd⟩
  .refine⟨⟨o,I.k9 p o hk,G⟩,λa e=>?_⟩
   cases e;exact⟨o,I.k9 _ o hk,hd⟩
  .have z:∃o,s.heap.get? p=aV o/\o.ExactDict:=by
    rcases hk with ⟨kvs,hk⟩ | ⟨kvs,hk⟩
    .obtain⟨_,_,_,_,o,_,_,e,ex,_⟩:=I.aS p _ hk
     exact⟨o,e,ex⟩
    .obtain⟨_,_,_,_,o,_,_,e,ex,_⟩:=I.aS p _ hk
     exact⟨o,e,ex⟩
   obtain⟨o,e,ex⟩:=z;refine⟨⟨o,e,ex.1⟩,λa B=>?_⟩;cases B;exact⟨o,e,ex.2.1⟩
  .obtain⟨o,_,_,_,e,ex,_⟩:=I.aS p _ hk
   refine⟨⟨o,e,ex.1⟩,λa B=>?_⟩;cases B;exact⟨o,e,ex.2.1⟩
 | _=>exact False.elim ty
def SO(K:p5)(T:String)(r:V->List V->Hp->VK->Prop)(to:TE):TE:=λ σ H Q=>to σ H λx B=>EM K T x B/\r x [] B Q
def EK(K:p5)(T:String)(r:V->List V->Hp->VK->Prop)(to:TE)(t:TA):TE:=λ σ H Q=>to σ H λx B=>EM K T x B/\t σ B λxs C=>r x xs C Q
variable{to:TE}{t:TA}{id:String}{r:V->List V->Hp->VK->Prop}
theorem Qg(G:PlainAttrs T)(slot:Slot T name id)(O:typeOf (.builtin id)=pure (.type "method_descriptor"))(hm:Af X id r)(Z:PE X o to)(U:vb o name X.env (eval o X.env)=eval o X.env:=by rfl)(Y:(apos.endLine==bP.line)=cf:=by rfl):PE X (.Call (.Attribute o name apos) [] [] bP) (SO X.K T r to):=by
 intro pi s σ H Q I h;refine wpAny_Call_method0_late U Y (a9 (Z pi s σ H _ I h) λv s1 ai=>?_);obtain⟨x,H1,C,B,ty,q1⟩:=ai;obtain⟨h1,h2⟩:=zT C B ty;exact⟨T,id,G,slot,O,h1,h2,L3 rfl (PySem.evalArgs_none (hm pi s1 σ H1 x [] v [] Q C B .nil q1))⟩
theorem fX(U:PlainAttrs T)(slot:Slot T name id)(Y:typeOf (.builtin id)=pure (.type "method_descriptor"))(hm:Af X id r)(ho:PE X o to)(ha:PA X (e::es) t)(iE:vb o name X.env (eval o X.env)=eval o X.env:=by rfl)(Z:((backTo bP (gm (e::es) X.env)).all (λx=>!x.1)&&(backToKw bP (keywordEach [] X.env)).all (λx=>x.1.isSome)
   &&eH ((e::es).length+([]:List Keyword).length+(if ([]:List Keyword).isEmpty then 0 else 1)<30))=cf:=by rfl)(i4:(apos.endLine==bP.line)=cf:=by rfl)(hs:gm (e::es) X.env=(en,eval e X.env)::gm es X.env:=by rfl)(Wa:(backTo bP (gm es X.env)).any (·.1)=en:=by rfl) :
  PE X (.Call (.Attribute o name apos) (e::es) [] bP) (EK X.K T r to t):=by
 intro pi s σ H Q I h;refine wpAny_Call_method_late iE Z i4 rfl (a9 (ho pi s σ H _ I h) λv s1 ai=>?_);obtain⟨x,H1,G,B,ty,q1⟩:=ai;obtain⟨h1,h2⟩:=zT G B ty;refine⟨T,id,U,slot,Y,h1,h2,?_⟩;have C:=ha bP pi s1 σ H1 _ G q1;rw[hs]at C ⊢;refine L3 (by show (en||(backTo bP (gm es X.env)).any (·.1))=en;rw[Wa]<;>rfl) (Calls.evalArgs_plain ?_);exact a9 C λus s2 ⟨vs,H2,I2,O,q2⟩=>hm pi s2 σ H2 x vs v us Q I2 B O q2
end
end L2
namespace L2
open PySem PySem.Spec PyProof.Rows
def Ae(X:Cx)(id:String)(r:V->List V->Hp->VK->Prop):Prop:=
 ∀(pi:List (Addr×Obj)) (s:fu) (σ:St) (H:Hp) (x:V) (xs:List V) (v:Value) (us:List Value) (Q:VK),Inv X pi σ H s->RelV x v->Vals xs us->r x xs H Q->
  fj (gx X.prog X.w) X.A (call (.builtin id) (v::us)) (EP X pi σ Q) X.xe s
theorem Vals.one{x:V}(h:Vals [x] us):∃u,us=[u]/\RelV x u:=by
 cases h with
 | cons r t=>cases t;exact⟨_,rfl,r⟩
theorem Vals.two{x:V}(h:Vals [x,y] us):∃u v,us=[u,v]/\RelV x u/\RelV y v:=by
 cases h with
 | cons r t=>cases t with
  | cons q t=>cases t;exact⟨_,_,rfl,r,q⟩
theorem Vals.zero:∀{us:List Value},Vals [] us->us=[]
 | _,.nil=>rfl
theorem Vals.dropLast{xs:List V}{us:List Value}(h:Vals xs us):Vals xs.dropLast us.dropLast:=by
 induction h with
 | nil=>exact .nil
 | cons r t B=>
  cases t with
  | nil=>exact .nil
  | cons q t'=>exact .cons r B
theorem Vals.eraseIdx:∀{xs:List V} {us:List Value} (i:Nat),Vals xs us->Vals (xs.eraseIdx i) (us.eraseIdx i)
 | _,_,_,.nil=>.nil
 | _,_,0,.cons _ t=>t
 | _,_,i+1,.cons r t=>.cons r (Vals.eraseIdx i t)
theorem rO{α:Type}(l:List α):l.eraseIdx (l.length-1)=l.dropLast:=by
 induction l with
 | nil=>rfl
 | cons a r B=>
  cases r with
  | nil=>rfl
  | cons b r=>
   have e:(a::b::r).length-1=((b::r).length-1)+1:=by
    have G:(a::b::r).length=r.length+2:=rfl;have C:(b::r).length=r.length+1:=rfl;lia
   rw[e,List.eraseIdx_cons_succ,B]
   all_goals rfl
theorem gA{α:Type}:∀(l:List α) (i:Nat),(l.eraseIdx i).length<=l.length
 | [],_=>a8 _
 | _::_,0=>oo _
 | _::r,i+1=>Nat.succ_le_succ (gA r i)
section
variable{l b:Addr}{xs zs:List V}
theorem Inv.AX{its':List Value}{f:Array Value->Array Value}(I:Inv X pi σ H s)(U:H l=aV (.lst xs))(e:s.heap.get? l=aV { cls:=.type "list",data:=.seq its.toArray n })(G:f its.toArray=its'.toArray)(B:Vals ys its')(hz:ys.length<=sizeLine) :
  Inv X pi σ (upd H l (.lst ys)) { s with heap:=s.heap.update l (sX f),toks:=t' }:=by
 have q:=PySem.IsL.update e f;rw[G]at q;refine I.write (x:=l) (e:=l) (by rw[U];exact trivial) (.inl rfl) (λY u O C=>(wh s.heap (sX f) (Ne.symm O)).trans C) ⟨_,q⟩ ?_;exact⟨hz,its',_,B,q⟩
theorem Inv.Jw(I:Inv X pi σ H s)(B:Vals ys its)(hz:ys.length<=sizeLine):
  Inv X pi σ (upd H s.heap.objs.size (.lst ys)) { s with heap:=s.heap.push { cls:=.type "list",data:=.seq its.toArray },toks:=t' }:=
 I.laid (λ_ _ q=>cx _ q) (a8 _) ⟨hz,its,0,B,dm _ rfl⟩
theorem Inv.fresh(I:Inv X pi σ H s):H s.heap.objs.size=a0:=I.aS.fresh (a8 _)
theorem Inv.AY(I:Inv X pi σ H s)(B:H l=aV (.lst xs)):xs.length<=sizeLine/\∃(its:List Value) (n:Nat),Vals xs its/\xs.length=its.length/\s.heap.get? l=aV { cls:=.type "list",data:=.seq its.toArray n }:=by
 obtain⟨z,its,n,r,e⟩:=I.aS l _ B;exact⟨z,its,n,r,r.length,e⟩
theorem Lm(h:n<=sizeLine):Builtin.List.listTooLong n=en:=by
 unfold Builtin.List.listTooLong;exact df (by lia)
end
def jF:V->List V->Hp->VK->Prop:=λx vs H Q=>∃l xs y,x=.ref l/\vs=[y]/\H l=aV (.lst xs)/\xs.length<sizeLine/\Q .aE (upd H l (.lst (xs++[y])))
theorem YQ:Ae X "list.append" jF:=by
 intro pi s σ H x vs v us Q I C G h;obtain⟨l,xs,y,rfl,rfl,B,U,q⟩:=h;cases C;obtain⟨u,rfl,O⟩:=G.one;obtain⟨z,its,n,r,hl,e⟩:=I.AY B;refine call_meets F.slot_list_append ⟨_,e,rfl⟩ F.entry_list_append (F.args_list_append_2 _ _) (PySem.list_append l its.toArray n u (by rw[dw];lia)) ⟨e,?_⟩;refine⟨.aE,_,I.AX (its':=its++[u]) B e (by simp) (r.append (.cons O .nil)) ?_,rfl,q⟩;rw[fA,nI];lia
def SU:V->List V->Hp->VK->Prop:=λx vs H Q=>∃l xs y,x=.ref l/\vs=[]/\H l=aV (.lst xs)/\xs[xs.length-1]?=aV y/\Q y (upd H l (.lst xs.dropLast))
theorem Qp:Ae X "list.pop" SU:=by
 intro pi s σ H x vs v us Q I C G h;obtain⟨l,xs,y,rfl,rfl,B,U,q⟩:=h;cases C;have Wr:=G.zero;subst Wr;obtain⟨z,its,n,r,hl,e⟩:=I.AY B;obtain⟨u,Y,O⟩:=r.get U;have Z:its.toArray[its.toArray.size-1]?=aV u:=by
  show its.toArray[its.length-1]?=aV u;rw[<-gz,<-hl];exact Y
 refine call_meets F.slot_list_pop ⟨_,e,rfl⟩ F.entry_list_pop (F.args_list_pop_1 _) (MeetsSeq.list_pop_last l its.toArray n u Z (by rw[dw];lia)) ⟨e,?_⟩;refine⟨y,_,I.AX (its':=its.dropLast) B e ?_ r.dropLast ?_,O,q⟩
 .show its.toArray.eraseIdxIfInBounds (its.toArray.size-1)=its.dropLast.toArray
  rw[dw,List.eraseIdxIfInBounds_toArray,rO]
 .rw[List.length_dropLast]
  lia
def PY:V->List V->Hp->VK->Prop:=λx vs H Q=>∃l xs i k y,x=.ref l/\vs=[.int i]/\H l=aV (.lst xs)/\-(2 ^ 63)<=i/\i<2 ^ 63/\seqIndex? i xs.length=aV k/\xs[k]?=aV y/\Q y (upd H l (.lst (xs.eraseIdx k)))
theorem Lr:Ae X "list.pop" PY:=by
 intro pi s σ H x vs v us Q I C G h;obtain⟨l,xs,i,k,y,rfl,rfl,B,h1,h2,hk,Y,q⟩:=h;cases C;obtain⟨u,rfl,O⟩:=G.one;obtain⟨t,rfl⟩:=O;obtain⟨z,its,n,r,hl,e⟩:=I.AY B;obtain⟨w,Z,U⟩:=r.get Y;refine call_meets F.slot_list_pop ⟨_,e,rfl⟩ F.entry_list_pop (F.args_list_pop_2 _ _)
  (MeetsSeq.list_pop_at l its.toArray n i t k w (fitsIndex_both h1 h2) (by rw[dw,<-hl];exact hk) (by rw[<-gz];exact Z) (by rw[dw];lia)) ⟨e,?_⟩
 refine⟨y,_,I.AX (its':=its.eraseIdx k) B e ?_ (r.eraseIdx k) ?_,U,q⟩
 .show its.toArray.eraseIdxIfInBounds k=(its.eraseIdx k).toArray
  rw[List.eraseIdxIfInBounds_toArray]
 .have:=gA xs k
  lia
end L2
namespace L2
open PySem PySem.Spec PyProof.Rows
section
variable{κ:Type}[DecidableEq κ]
noncomputable def JV(kvs:List (κ×V))(k:κ):Option V:=(kvs.find? λB=>eH (B.1=k)).map (·.2)
noncomputable def putK(kvs:List (κ×V))(k:κ)(v:V):List (κ×V):=
 if (kvs.any λB=>eH (B.1=k))=cf then kvs.map (λB=>if B.1=k then (B.1,v) else B) else kvs++[(k,v)]
theorem J7{p:κ×V}{r:List (κ×V)}{k:κ}(e:p.1=k):JV (p::r) k=aV p.2:=by simp[JV,List.find?_cons,e]
theorem IK{p:κ×V}{r:List (κ×V)}{k:κ}(e:¬p.1=k):JV (p::r) k=JV r k:=by simp[JV,List.find?_cons,e]
theorem RT(k:κ):∀kvs:List (κ×V),(kvs.any λB=>eH (B.1=k))=(JV kvs k).isSome
 | []=>rfl
 | p::r=>by
  rw[List.any_cons]
  by_cases e:p.1=k
  .simp only[J7 e,cz e,Bool.true_or,Option.isSome_some]
  .rw[IK e,df e,Bool.false_or];exact RT k r
theorem lW(k j:κ)(y:V):∀kvs:List (κ×V),JV (kvs.map λB=>if B.1=k then (B.1,y) else B) j=(JV kvs j).map λx=>if j=k then y else x
 | []=>rfl
 | p::r=>by
  have C:=lW k j y r;rw[cj]
  by_cases h:p.1=k
  .rw[ah h]
   by_cases e:p.1=j
   .rw[J7 (p:=(p.1,y)) e,J7 e,j2,ah (e.symm.trans h)]
   .rw[IK (p:=(p.1,y)) e,IK e,C]
  .rw[ak h]
   by_cases e:p.1=j
   .rw[J7 (p:=p) e,J7 e,j2,ak (λz=>h (e.trans z))]
   .rw[IK (p:=p) e,IK e,C]
theorem f9(k j:κ)(y:V):∀kvs:List (κ×V),JV kvs k=a0->JV (kvs++[(k,y)]) j=if j=k then aV y else JV kvs j
 | [],_=>by
  by_cases e:k=j
  .rw[ah e.symm];exact J7 (p:=(k,y)) e
  .rw[ak (λz=>e z.symm)];exact IK (p:=(k,y)) e
 | p::r,B=>by
  rw[List.cons_append];have hk:¬p.1=k:=λz=>by rw[J7 z]at B;cases B
  rw[IK hk]at B;have C:=f9 k j y r B
  by_cases e:p.1=j
  .rw[J7 e,J7 e,ak (λz=>hk (e.trans z))]
  .rw[IK e,IK e,C]
theorem zO(kvs:List (κ×V))(k j:κ)(y:V):JV (putK kvs k y) j=if j=k then aV y else JV kvs j:=by
 unfold putK
 by_cases a:(kvs.any λB=>eH (B.1=k))=cf
 .rw[ah a,lW]
  rw[RT]at a
  by_cases e:j=k
  .obtain⟨x,C⟩:=oD.mp a
   rw[ah e,e,C,j2,ah rfl]
  .rw[ak e]
   cases JV kvs j with
   | none=>rfl
   | some x=>rw[j2,ak e]
 .rw[ak a]
  refine f9 k j y kvs ?_;rw[RT]at a;cases q:JV kvs k with
  | none=>rfl
  | some x=>rw[q]at a;exact(a rfl).elim
theorem PB(kvs:List (κ×V))(k:κ)(v:V):(putK kvs k v).length<=kvs.length+1:=by
 unfold putK;split
 .rw[a6];lia
 .rw[fA,hJ,List.length_nil];lia
theorem oi.Ee{o:Option V}{u:Option Value}(r:oi o u):o.isSome=u.isSome:=by
 cases o with
 | none=>cases u with
  | none=>rfl
  | some _=>exact(show False from r).elim
 | some _=>cases u with
  | none=>exact(show False from r).elim
  | some _=>rfl
theorem oi.getD{o:Option V}{u:Option Value}{d:V}{d':Value}(r:oi o u)(B:RelV d d'):RelV (o.getD d) (u.getD d'):=by
 cases o with
 | none=>cases u with
  | none=>exact B
  | some _=>exact(show False from r).elim
 | some _=>cases u with
  | none=>exact(show False from r).elim
  | some _=>exact r
theorem KV.val{kvs:List (κ×V)}{vs:List (κ×Value)}(r:KV kvs vs)(k:κ):oi (JV kvs k) (valueAt vs k):=by
 unfold KV at r
 induction r with
 | nil=>exact True.intro
 | @cons p q ps qs h t G=>
  obtain⟨C,O⟩:=h
  by_cases e:p.1=k
  .have B:q.1=k:=C.symm.trans e
   have b:valueAt (q::qs) k=aV q.2:=by simp[valueAt,List.find?_cons,B]
   rw[J7 e,b];exact O
  .have B:¬q.1=k:=λz=>e (C.trans z)
   have b:valueAt (q::qs) k=valueAt qs k:=by simp[valueAt,List.find?_cons,B]
   rw[IK e,b];exact G
theorem KV.any{kvs:List (κ×V)}{vs:List (κ×Value)}(r:KV kvs vs)(k:κ):(kvs.any λB=>eH (B.1=k))=vs.any λB=>eH (B.1=k):=by
 unfold KV at r
 induction r with
 | nil=>rfl
 | cons h t C=>rw[List.any_cons,List.any_cons,C,h.1]
theorem KV.ED{kvs:List (κ×V)}{vs:List (κ×Value)}(r:KV kvs vs)(k:κ)(G:RelV y u):
  KV (kvs.map λB=>if B.1=k then (B.1,y) else B) (vs.map λB=>if B.1=k then (B.1,u) else B):=by
 unfold KV at r ⊢
 induction r with
 | nil=>exact .nil
 | @cons p q ps qs h t O=>
  rw[cj,cj];refine .cons ?_ O;obtain⟨C,U⟩:=h
  by_cases e:p.1=k
  .rw[ah e,ah (C.symm.trans e)];exact⟨C,G⟩
  .rw[ak e,ak (λz=>e (C.trans z))];exact⟨C,U⟩
theorem KV.put{kvs:List (κ×V)}{vs:List (κ×Value)}(r:KV kvs vs)(k:κ)(B:RelV y u):KV (putK kvs k y) (stored vs k u):=by
 unfold putK stored;rw[r.any k]
 by_cases e:(vs.any λC=>eH (C.1=k))=cf
 .rw[ah e,ah e];exact r.ED k B
 .rw[ak e,ak e];exact Paired.snoc r ⟨rfl,B⟩
theorem KV.keys{kvs:List (κ×V)}{vs:List (κ×Value)}(r:KV kvs vs):kvs.map (·.1)=vs.map (·.1):=by
 unfold KV at r
 induction r with
 | nil=>rfl
 | cons h t B=>rw[cj,cj,B,h.1]
theorem KV.length{kvs:List (κ×V)}{vs:List (κ×Value)}(r:KV kvs vs):kvs.length=vs.length:=Paired.length r
end
theorem WT{k:Key}(r:RelV (kV k) u):(CK P w).is k u=cf:=by
 cases k with
 | inl i=>obtain⟨t,e⟩:=(show ∃t,u=Value.int i t from r);subst e;exact oA P w i t
 | inr x=>obtain⟨t,e⟩:=(show ∃t,u=Value.str x t from r);subst e;exact o9 P w x t
theorem gF{P:Program}{w:wy}:∀{ks:List Key} {us:List Value},Vals (ks.map kV) us->ItemsAre (CK P w) ks us
 | [],_,r=>by rw[List.map_nil]at r;cases r;exact .nil
 | k::ks,_,r=>by
  rw[cj]at r;cases r with
  | cons h t=>exact .cons (WT h) (gF t)
abbrev KT (H:Hp):List (List Key×V)->List (List Key×Addr×Value)->Prop:=Paired λp q=>p.1=q.1/\H q.2.1=aV (.tup (p.1.map kV))/\RelV p.2 q.2.2
theorem KT.val{kvs:List (List Key×V)}(r:KT H kvs xs)(k:List Key):oi (JV kvs k) ((atKey xs k).map (·.2)):=by
 induction r with
 | nil=>exact True.intro
 | @cons p q ps qs h t G=>
  obtain⟨C,_,O⟩:=h
  by_cases e:p.1=k
  .have B:q.1=k:=C.symm.trans e
   have b:atKey (q::qs) k=aV q.2:=by simp[atKey,List.find?_cons,B]
   rw[J7 e,b];exact O
  .have B:¬q.1=k:=λz=>e (C.trans z)
   have b:atKey (q::qs) k=atKey qs k:=by simp[atKey,List.find?_cons,B]
   rw[IK e,b];exact G
theorem KT.ED{kvs:List (List Key×V)}(r:KT H kvs xs)(k:List Key)(O:RelV y u):
  KT H (kvs.map λC=>if C.1=k then (C.1,y) else C) (xs.map (putAt k u)):=by
 induction r with
 | nil=>exact .nil
 | @cons p q ps qs h t U=>
  rw[cj,cj];refine .cons ?_ U;obtain⟨B,G,Y⟩:=h;unfold putAt
  by_cases e:p.1=k
  .rw[ah e,ah (B.symm.trans e)];exact⟨B,G,O⟩
  .rw[ak e,ak (λz=>e (B.trans z))];exact⟨B,G,Y⟩
theorem KT.put{kvs:List (List Key×V)}(r:KT H kvs xs)(k:List Key){b:Addr}(G:H b=aV (.tup (k.map kV)))(B:RelV y u):
  KT H (putK kvs k y) (storedH xs k b u):=by
 have e:(kvs.any λC=>eH (C.1=k))=(atKey xs k).isSome:=by
  rw[RT,(r.val k).Ee,Option.isSome_map]
 unfold putK storedH;rw[e]
 by_cases q:(atKey xs k).isSome=cf
 .rw[ah q,ah q];exact r.ED k B
 .rw[ak q,ak q];exact Paired.snoc r ⟨rfl,G,B⟩
theorem KT.keeps{kvs:List (List Key×V)}(r:KT H kvs xs)(B:∀b ys,H b=aV (.tup ys)->aa b=aV (.tup ys)):KT aa kvs xs:=
 Paired.JA r λ_ _ z=>⟨z.1,B _ _ z.2.1,z.2.2⟩
theorem F4{u:HO}(ok:eL P w H h)(e:Rd H a u):dS P w H h a u:=e.ok ok
theorem RD(ok:eL P w H h)(e:Rd H a (.dK kvs)):kvs.length<=sizeLine/\(a==t4)=en/\∃vs,KV kvs vs/\h.DictOf (CK P w) a vs:=
 show dS P w H h a (.dK kvs) from F4 ok e
theorem B3(ok:eL P w H h)(e:H a=aV (.dK kvs)):kvs.length<=sizeLine/\(a==t4)=en/\∃vs,KV kvs vs/\h.DictOf (CK P w) a vs:=RD ok (.inl e)
theorem cH(ok:eL P w H h)(e:H a=aV (.tup (ks.map kV))):(tupleKind (CK P w)).is h ks a:=by
 obtain⟨_,its,r,o,G,C,n,B⟩:=(show dS P w H h a (.tup (ks.map kV)) from ok a _ e)
 exact⟨o,its.toArray,n,G,C,B,by simpa using gF r⟩
theorem gO{kvs:List (List Key×V)}(ok:eL P w H h)(e:Rd H a (.dT kvs)):kvs.length<=sizeLine/\(a==t4)=en/\
  ∃xs,KT H kvs xs/\h.DictOfH (tupleKind (CK P w)) a xs:=by
 obtain⟨z,y,xs,r,o,es,ep,h1,Z,Y,U,O⟩:=(show dS P w H h a (.dT kvs) from F4 ok e)
 refine⟨z,y,xs,r,o,es,ep,h1,Z,Y,U,λx B=>?_,O⟩;have all:∀{l:List (List Key×V)} {m:List (List Key×Addr×Value)},KT H l m->∀x∈m,(tupleKind (CK P w)).is h x.1 x.2.1:=by
  intro l m q
  induction q with
  | nil=>intro x B;exact nomatch B
  | @cons p q ps qs C t G=>
   intro x B;rcases cq B with e | B
   .subst e
    exact cH ok (by rw[<-C.1];exact C.2.1)
   .exact G x B
 exact all r x B
theorem Su{kvs:List (List Key×V)}(ok:eL P w H h)(e:H a=aV (.dT kvs)):kvs.length<=sizeLine/\(a==t4)=en/\
  ∃xs,KT H kvs xs/\h.DictOfH (tupleKind (CK P w)) a xs:=gO ok (.inl e)
def kN(H:Hp)(a:Addr)(y:V)(r:Option V):Prop:=
 (∃kvs k,Rd H a (.dK kvs)/\y=kV k/\r=JV kvs k)\/∃kvs k b,Rd H a (.dT kvs)/\y=.ref b/\H b=aV (.tup (k.map kV))/\r=JV kvs k
def xc(H:Hp)(a:Addr)(y v:V)(aa:Hp):Prop:=
 (∃kvs k,H a=aV (.dK kvs)/\y=kV k/\kvs.length<sizeLine/\aa=upd H a (.dK (putK kvs k v)))\/
 ∃kvs k b,H a=aV (.dT kvs)/\y=.ref b/\H b=aV (.tup (k.map kV))/\kvs.length<sizeLine/\aa=upd H a (.dT (putK kvs k v))
theorem kN.k{H:Hp}{a:Addr}{kvs:List (Key×V)}{k:Key}(e:H a=aV (.dK kvs)):kN H a (kV k) (JV kvs k):=.inl ⟨kvs,k,.inl e,rfl,rfl⟩
theorem xc.k{H:Hp}{a:Addr}{kvs:List (Key×V)}{k:Key}{v:V}(e:H a=aV (.dK kvs))(hl:kvs.length<sizeLine):xc H a (kV k) v (upd H a (.dK (putK kvs k v))):=.inl ⟨kvs,k,e,rfl,hl,rfl⟩
section
variable{v:V}{r:Value}{o:Option V}
theorem Inv.big(I:Inv X pi σ H s):t4<s.heap.objs.size:=by
 have h:ly<s.heap.objs.size:=(I.mod.glob.keeps I.bk).lt;exact L4 (by decide) h
theorem yL(Z:A.units+1<cLine)(I:Inv X pi σ H s)(g:kN H a y (aV v))(U:RelV y u)(h:∀B s',Inv X pi σ H s'->RelV v B->Q B s'):
  fj (gx X.prog X.w) A (getItem (.ref a) u) Q E s:=by
 rcases g with ⟨kvs,k,e,O,l⟩ | ⟨kvs,k,b,e,O,eb,l⟩
 .subst O
  obtain⟨z,hd,vs,rel,dd⟩:=RD I.aS e;obtain⟨B,G,C⟩:=oi.some_of (v:=v) (o:=valueAt vs k) (by rw[l];exact rel.val k);exact wpAny_getItem_of (WT U) dd.mapOf G (h B _ (I.tok _) C)
 .subst O
  cases (show u=gg b from U);obtain⟨z,hd,xs,rel,dd⟩:=gO I.aS e;obtain⟨B,G,C⟩:=oi.some_of (v:=v) (o:=(atKey xs k).map (·.2)) (by rw[l];exact rel.val k);obtain⟨p,hp,Y⟩:=bX G;refine wpAny_getItem_heap (tupleKind_room_in1 Z) (cH I.aS eb) dd hp ?_;rw[Y];exact h B _ (I.tok _) C
theorem OG(G:A.units+1<cLine)(I:Inv X pi σ H s)(g:kN H a y o)(C:RelV y u)(h:∀s',Inv X pi σ H s'->Q (.bool (!o.isSome)) s'):
  fj (gx X.prog X.w) A (sh .NotIn u (.ref a)) Q E s:=by
 rcases g with ⟨kvs,k,e,B,l⟩ | ⟨kvs,k,b,e,B,O,l⟩
 .subst B
  obtain⟨z,hd,vs,rel,dd⟩:=RD I.aS e;refine wpAny_notIn_of (WT C) hd dd.mapOf ?_;rw[<-(rel.val k).Ee,<-l];exact h _ (I.tok _)
 .subst B
  cases (show u=gg b from C);obtain⟨z,hd,xs,rel,dd⟩:=gO I.aS e;refine wpAny_notIn_heap (tupleKind_room_in1 G) (cH I.aS O) hd dd ?_;have q:=(rel.val k).Ee;rw[Option.isSome_map]at q;rw[<-q,<-l];exact h _ (I.tok _)
theorem XC{ob:HO}(I:Inv X pi σ H s)(mu:xj (H a))(hs:vw a s.heap h')(B:∃q,h'.get? a=aV q)(new:dS X.prog X.w (upd H a ob) h' a ob):
  Inv X pi σ (upd H a ob) { s with heap:=h',toks:=t' }:=
 I.write (x:=a) (e:=a) mu (.inl rfl) (λb q C z=>(hs.2 b C).trans z) B new
theorem cV{vs:List (Key×Value)}(z:kvs.length<=sizeLine)(hd:(a==t4)=en)(rel:KV kvs vs)(dd:h'.DictOf (CK P w) a vs):
  dS P w aa h' a (.dK kvs):=⟨z,hd,vs,rel,dd⟩
theorem yK{Q:Unit->fu->Prop}(hu:A.units+1<cLine)(I:Inv X pi σ H s)(g:xc H a y v aa)(Y:RelV y u)(Z:RelV v r)(h:∀s',Inv X pi σ aa s'->Q () s'):
  fj (gx X.prog X.w) A (setItem (.ref a) u r) Q E s:=by
 rcases g with ⟨kvs,k,e,O,l,U⟩ | ⟨kvs,k,b,e,O,eb,l,U⟩
 .subst O U
  obtain⟨z,hd,vs,rel,dd⟩:=B3 I.aS e;have G:vs.length<=sizeLine:=by rw[<-rel.length];exact z
  have hl:(putK kvs k v).length<=sizeLine:=by have:=PB kvs k v;lia
  refine wpAny_setItem_pairs (hsz:=G) (WT Y) dd λh' B hs=>h _ ?_
  have he:∃q,h'.get? a=aV q:=let ⟨q,_,_,C,_⟩:=B;⟨q,C⟩
  exact XC I (by rw[e];exact True.intro) hs he (cV hl hd (rel.put k Z) B)
 .subst O U
  cases (show u=gg b from Y);obtain⟨z,hd,xs,rel,dd⟩:=Su I.aS e;have G:xs.length<=sizeLine:=by rw[<-Paired.length rel];exact z
  have hl:(putK kvs k v).length<=sizeLine:=by have:=PB kvs k v;lia
  refine wpAny_setItem_heap (hsz:=G) (tupleKind_room_in1 hu) (cH I.aS eb) dd λh' B hs=>h _ ?_
  obtain⟨q,es,ep,C,h2,h3,h4,_,h5⟩:=B;refine XC I (by rw[e];exact True.intro) hs ⟨q,C⟩ ⟨hl,hd,_,(rel.put k eb Z).keeps λc ys ec=>?_,q,es,ep,C,h2,h3,h4,h5⟩;rw[CJ (Sf ec e (λz=>nomatch z))];exact ec
end
section
variable{k:Key}
theorem Sw(I:Inv X pi σ H s)(e:Rd H a (.dK kvs))(h:∀t s',Inv X pi σ H s'->Q (.int kvs.length t) s'):fj (gx X.prog X.w) A (call (.builtin "len") [.ref a]) Q E s:=by
 obtain⟨z,hd,vs,rel,dd⟩:=RD I.aS e;refine call_len_dict hd dd (by rw[<-rel.length];rw[fS]at z;lia) ?_;rw[<-rel.length];exact h _ _ (I.tok _)
end
def zC(i:Expr):Prop:=∀B C,subscripted i en B C=operate [B,C] (getItem B C)
theorem Mj{env:Env}{C B:Expr}{id:String}(hl:typeLookup (.type T) "__getitem__" = pure (aV (.builtin id)))(hs:zC B)(h:fj (gx prog w) A (eval C env) (λo bc=>fj (gx prog w) A (eval B env) (λi U=>U.TypeIs o T/\fj (gx prog w) A (getItem o i) Q E U) E bc) E s) :
  fj (gx prog w) A (eval (.Subscript C B pos) env) Q E s:=by
 refine Subscript_ (e9 h (λo bc O=>e9 O (λi U Y=>?_) λ_ _ x=>x) λ_ _ x=>x);obtain⟨Z,Y⟩:=Y;unfold subscriptTail;refine ab ?_;rw[getitemInPython_of_ne Z.not_modules];refine ab (va Z hl ?_);have G:fj (gx prog w) A (subscripted B en o i) (λr dQ=>fj (gx prog w) A (letTemporaryGo C o r >>= λ_=>pure r) Q E dQ) E U:=by
  rw[hs o i];exact wpAny_operating (e9 Y (λr dQ AR=>ab (wpAny_letTemporaryGo (ag AR))) λ_ _ x=>x)
 first
  | exact ag (ab G)
  | exact ab (ag (ab G))
  | exact ab G
theorem oN{o:Option V}(I:Inv X pi σ H s)(g:kN H a y o):s.TypeIs (.ref a) "dict":=by
 rcases g with ⟨kvs,k,e,_,_⟩ | ⟨kvs,k,b,e,_,_,_⟩
 .obtain⟨_,_,vs,_,dd⟩:=RD I.aS e
  exact dd.typeIs
 .obtain⟨_,_,xs,_,dd⟩:=gO I.aS e
  exact dd.typeIs
def Bz(td ty:TE):TE:=λ σ H Q=>td σ H λx C=>ty σ C λy B=>∃a v,x=.ref a/\kN B a y (aV v)/\Q v B
def iW(ty td:TE):TE:=λ σ H Q=>ty σ H λy C=>td σ C λx B=>∃a o,x=.ref a/\kN B a y o/\Q (.bl (!o.isSome)) B
def uE(td ty C:TE):TS:=λD σ H=>C σ H λv U=>td σ U λx O=>ty σ O λy G=>∃a B,x=.ref a/\xc G a y v B/\D.nx σ B
section
variable{i value:Expr}{Yu:Pos}{tv:TE}
theorem uX(U:X.A.units+1<cLine)(Y:PE X o td)(hi:PE X i ty)(hs:zC i):PE X (.Subscript o i pos) (Bz td ty):=by
 intro pi s σ H Q I h;refine Mj PySem.F.slot_dict_getitem.lookup hs (a9 (Y pi s σ H _ I h) λu s1 ⟨x,H1,I1,G,q1⟩=>a9 (hi pi s1 σ H1 _ I1 q1) λiv s2 Z=>?_);obtain⟨y,H2,B,C,a,v,ex,g,q2⟩:=Z;subst ex;obtain rfl:u=gg a:=G;exact⟨oN B g,yL U B g C λia s3 I3 O=>⟨v,H2,I3,O,q2⟩⟩
theorem fY(O:X.A.units+1<cLine)(hi:PE X i ty)(U:PE X o td):PC X .NotIn i o (iW ty td):=by
 intro pi s σ H Q I h;refine a9 (hi pi s σ H _ I h) λiv s1 ⟨y,H1,I1,B,q1⟩=>a9 (U pi s1 σ H1 _ I1 q1) λu s2 Y=>?_
 obtain⟨x,H2,I2,C,a,G,ex,g,q2⟩:=Y;subst ex;obtain rfl:u=gg a:=C;exact OG O I2 g B λs3 Z=>⟨.bl (!G.isSome),H2,Z,rfl,q2⟩
theorem uT(Y:X.A.units+1<cLine)(Z:PE X o td)(hi:PE X i ty)(U:PE X value tv)(hs:swapsWith value (aV (.Subscript o i pos')) pos.line X.env=pure en):
  PS X (.Assign [.Subscript o i pos'] value pos) (uE td ty tv):=by
 intro pi s σ H D I h;refine wpAny_Assign_Subscript (a9 (U pi s σ H _ I h) λr s1 ⟨v,H1,I1,G,q1⟩=>a9 (Z pi s1 σ H1 _ I1 q1) λu s2 ⟨x,H2,I2,C,q2⟩=>a9 (hi pi s2 σ H2 _ I2 q2) λiv s3 ai=>?_) hs;obtain⟨y,H3,I3,B,a,H4,ex,g,O⟩:=ai;subst ex;obtain rfl:u=gg a:=C;exact yK Y I3 g B G λs4 I4=>⟨σ,H4,I4,O⟩
end
theorem LN(h:Heap)(B:t4<h.objs.size):dS P w H (h.push { cls:=.type "dict",data:=.dict #[] }) h.objs.size (.dK []):=
 ⟨eC _,beq_eq_false_iff_ne.mpr (Ne.symm (cc B)),[],.nil,Heap.DictOf.new h⟩
theorem LM(h:Heap)(B:t4<h.objs.size):dS P w H (h.push { cls:=.type "dict",data:=.dict #[] }) h.objs.size (.dT []):=
 ⟨eC _,beq_eq_false_iff_ne.mpr (Ne.symm (cc B)),[],.nil,_,#[],0,dm _ rfl,⟨rfl,rfl,rfl⟩,rfl,rfl,lu⟩
def EX:TE:=λ_ H Q=>∀p,H p=a0->Q (.ref p) (upd H p (.dK []))
theorem nW:PE X (.Dict [] [] pos) EX:=λpi s σ H Q I h=>
 wpAny_Dict_empty ⟨.ref s.heap.objs.size,_,I.laid (a:=s.heap.objs.size) (o:=.dK []) (t':=s.toks) (λ_ _ q=>cx _ q) (a8 _) (LN s.heap I.big),rfl,h _ (I.aS.fresh (a8 _))⟩
noncomputable def JN(kvs more:List (Key×V)):List (Key×V):=more.foldl (λB C=>putK B C.1 C.2) kvs
theorem KV.merge:∀{more:List (Key×V)} {B:List (Key×Value)} {kvs:List (Key×V)} {vs:List (Key×Value)},KV more B->KV kvs vs->KV (JN kvs more) (merged vs B):=by
 intro more B kvs vs r;unfold KV at r
 induction r generalizing kvs vs with
 | nil=>intro q;exact q
 | @cons p q ps qs h t G=>
  intro C;have e:KV (putK kvs p.1 p.2) (stored vs q.1 q.2):=by
   have:=C.put p.1 h.2;rw[<-h.1];exact this
  exact G e
theorem KJ:∀(more kvs:List (Key×V)),(JN kvs more).length<=kvs.length+more.length
 | [],kvs=>by show kvs.length<=kvs.length+0;lia
 | p::r,kvs=>by
  have C:=KJ r (putK kvs p.1 p.2);have B:=PB kvs p.1 p.2;show (JN (putK kvs p.1 p.2) r).length<=_;rw[hJ];lia
structure M1(X:Cx)(o:Expr)(m:Str)(apos:Pos)(e:Expr)(bP:Pos):Prop where
 base:vb o m X.env (eval o X.env)=eval o X.env
 Ap:((backTo bP (gm [e] X.env)).all (λx=>!x.1)&&(backToKw bP (keywordEach [] X.env)).all (λx=>x.1.isSome)
  &&eH (([e]:List Expr).length+([]:List Keyword).length+(if ([]:List Keyword).isEmpty then 0 else 1)<30))=cf
 line:(apos.endLine==bP.line)=cf
 trees:backTo bP (gm [e] X.env)=[(en,eval e X.env)]
structure M2(X:Cx)(o:Expr)(m:Str)(apos:Pos)(e f:Expr)(bP:Pos):Prop where
 base:vb o m X.env (eval o X.env)=eval o X.env
 Ap:((backTo bP (gm [e,f] X.env)).all (λx=>!x.1)&&(backToKw bP (keywordEach [] X.env)).all (λx=>x.1.isSome)
  &&eH (([e,f]:List Expr).length+([]:List Keyword).length+(if ([]:List Keyword).isEmpty then 0 else 1)<30))=cf
 line:(apos.endLine==bP.line)=cf
 trees:backTo bP (gm [e,f] X.env)=[(en,eval e X.env),(en,eval f X.env)]
def Ab(H:Hp)(a:Addr):Prop:=(∃kvs,Rd H a (.dK kvs))\/∃kvs,Rd H a (.dT kvs)
theorem jP(I:Inv X pi σ H s)(d:Ab H a):
  s.TypeIs (.ref a) "dict"/\(∀b,gg a=.ref b->∃ob,s.heap.get? b=aV ob/\ob.dict=a0)/\(a==t4)=en:=by
 rcases d with ⟨kvs,e⟩ | ⟨kvs,e⟩
 .obtain⟨_,hd,vs,_,dd⟩:=RD I.aS e
  refine⟨dd.typeIs,λb q=>?_,hd⟩;cases q;obtain⟨ob,_,_,C,B,_⟩:=dd;exact⟨ob,C,B.2.1⟩
 .obtain⟨_,hd,xs,_,dd⟩:=gO I.aS e
  refine⟨dd.typeIs,λb q=>?_,hd⟩;cases q;obtain⟨ob,_,_,C,B,_⟩:=dd;exact⟨ob,C,B.2.1⟩
section
variable{d:V}{r:Value}{o:Option V}
theorem Ra(U:A.units+1<cLine)(I:Inv X pi σ H s)(g:kN H a y o)(C:RelV y u)(G:RelV d r)(h:∀O s',Inv X pi σ H s'->RelV (o.getD d) O->Q O s'):
  fj (gx X.prog X.w) A (call (.builtin "dict.get") [.ref a,u,r]) Q E s:=by
 rcases g with ⟨kvs,k,e,B,l⟩ | ⟨kvs,k,b,e,B,Y,l⟩
 .subst B
  obtain⟨z,hd,vs,rel,dd⟩:=RD I.aS e;refine call_meetsIn PySem.F.slot_dict_get dd.typeIs PySem.F.entry_dict_get (PySem.F.args_dict_get_3 _ _ _) (meets_dict_get_default (CK X.prog X.w) a (WT C) hd r) ⟨_,dd.mapOf,h _ _ (I.tok _) ?_⟩;rw[l];exact(rel.val k).getD G
 .subst B
  cases (show u=gg b from C);obtain⟨z,hd,xs,rel,dd⟩:=gO I.aS e;refine call_meetsIn PySem.F.slot_dict_get dd.typeIs PySem.F.entry_dict_get (PySem.F.args_dict_get_3 _ _ _) (meetsH_dict_get_default (tupleKind (CK X.prog X.w)) a b hd r) ⟨tupleKind_room_in1 U,k,xs,cH I.aS Y,dd,h _ _ (I.tok _) ?_⟩;rw[l];exact(rel.val k).getD G
end
def Pl(td ty G:TE):TE:=λ σ H Q=>td σ H λx C=>∃a,x=.ref a/\Ab C a/\ty σ C λy O=>G σ O λz B=>∃o,kN B a y o/\Q (o.getD z) B
section
variable{f:Expr}{tx:TE}
theorem Li(hu:X.A.units+1<cLine)(ho:PE X o td)(he:PE X e ty)(hf:PE X f tx)(m:M2 X o "get" apos e f bP):PE X (.Call (.Attribute o "get" apos) [e,f] [] bP) (Pl td ty tx):=by
 intro pi s σ H Q I h;refine wpAny_Call_method m.base m.Ap m.line PySem.F.plainAttrs_dict PySem.F.slot_dict_get PySem.F.type_dict_get (a9 (ho pi s σ H _ I h) λu s1 ai=>?_);obtain⟨x,H1,B,Y,a,ex,d,q1⟩:=ai;subst ex;obtain rfl:u=gg a:=Y;obtain⟨G,C,_⟩:=jP B d;refine⟨G,C,?_⟩;rw[m.trees];refine L3 rfl (Calls.evalArgs_plain (ny (a9 (he pi s1 σ H1 _ B q1) λiv s2 ⟨y,H2,I2,U,q2⟩=>
  ny (a9 (hf pi s2 σ H2 _ I2 q2) λfv s3 ⟨z,H3,I3,O,ov,g,Z⟩=>qh ?_))))
 exact Ra hu I3 g U O λia s4 I4 jy=>⟨_,H3,I4,jy,Z⟩
end
end L2
namespace u4
open PySem PySem.W PySem.Calls PyProof.Rows
theorem aQ{P:Params}:∀(ns:List Int) (vs:List Value),WellAll P h vs (ns.map WData.int)->IntsAre vs ns:=by
 intro ns
 induction ns with
 | nil=>
  intro vs w;rw[List.map_nil]at w;cases w;exact .nil
 | cons n ns B=>
  intro vs w;rw[cj]at w;cases w with
  | cons a b=>
   cases a;exact .cons _ _ (B _ b)
theorem xJ{l:OpenLaw}(hn:l.most=aV n){P:Params}{args:List WData}{B:List Value}(AL:l.row.toRowW.claim.pre args=cf)(Y:WellAll P h B args) :
  ∃a vs ns,B=[gg a]/\args=[WData.list (ns.map WData.int)]/\h.get? a=aV { cls:=.type "list",data:=.seq vs.toArray }/\IntsAre vs ns/\ns.length<=n:=by
 have Wl:WShape.hasAll [] args [.list .int]=cf:=(pre_splitW AL).1;have U:l.pre.holds [] { args:=args }=cf:=(pre_splitW AL).2;obtain⟨d,r,rfl,h1,h2⟩:=hasAllW_cons Wl;obtain rfl:=hasAllW_nil h2;obtain⟨xs,rfl,h3⟩:=hasW_list h1;obtain⟨ns,rfl⟩:=items_int h3;have C:ns.length<=n:=by
  unfold OpenLaw.pre at U;have O:(WTm.not (.lt (.lit (.int (n:Int))) (.len (.arg 0)))).holds [] { args:=[.list (ns.map .int)] }=cf:=by
   have O:=(holds_andW U).1;rw[hn]at O;exact O
  have G:=condW_of O (w_not (w_lt w_lit (w_len_list (w_arg rfl))));rw[a6]at G;refine xq λq=>?_
  have c9:(n:Int)<((ns.length:Nat):Int):=by omega
  first
   | (rw[cz c9]at G;exact absurd G (by decide))
   | (simp at G;omega)
 cases Y with
 | cons w1 Z=>
  cases Z;cases w1 with
  | list ho oB=>exact⟨_,_,ns,rfl,rfl,ho,aQ ns _ oB,C⟩
theorem xK(l:OpenLaw)(args:List WData):l.row.toRowW.claim.post args (.bool cf) args=cf:=
 postW_of (r:=l.row.toRowW) (X:=(cf==cf))
  (show WShape.has [] (.bool cf) .bool=cf by first | rfl | decide | simp[WShape.has,WShape.arms,WShape.armsAll])
  (show (WTm.eq .res (.lit (.bool cf))).value [] { args:=args,res:=aV (.bool cf),after:=args }=aV (.bool (cf==cf)) from w_eq_bool (w_res rfl) w_lit) rfl
theorem Tz{l:OpenLaw}{q:Program}{d:DefRec}(hn:l.most=aV n)(yb:d.params.defaults=[])(call:∀(w:wy) (bu B:fu) (mg mb:Str->Option Value) (C:Addr) (o:Obj) (pm O doc:Value) (a:Addr) (vs:List Value) (ns:List Int),
   Ground q loose [] XP w bu mg mb B.heap->YP w B.heap->
   B.heap.get? C=aV o->o.data=.func (docDef d.name d.params d.body d.scope pm O doc)->B.heap.CodeRec O d.name->mg d.name=aV (.ref C)->
   B.heap.get? a=aV { cls:=.type "list",data:=.seq vs.toArray }->IntsAre vs ns->ns.length<=n->B.gens=#[]->
   codeAny (gx l.prog w) callerA (.call (.ref C) ⟨[.ref a],[]⟩) (λr s'=>r=.ok (.ret (.bool cf))/\OldK B.heap s'.heap/\s'.os=B.os/\AllBare s'.gens) B) :
  WalkO q loose XP YP l.row.toRowW d [] (λf vs=>PySem.call f vs):=by
 intro w bu B mg mb G Y C o pm O doc dV kV ho hd kr U hmg hg args vals as AL qo aat Z aao;obtain rfl:dV=.none:=Dflts.none U yb;obtain rfl:kV=.none:=Dflts.noKw U;obtain⟨a,vs,ns,rfl,rfl,D1,hints,hlen⟩:=xJ hn AL Z;refine enter_call (tN (call w bu B mg mb C o pm O doc a vs ns G Y ho (fd_plain hd) kr hmg D1 hints hlen hg) λr s' hq=>?_);obtain⟨rfl,h2,h3,h4⟩:=hq;exact⟨.inl ⟨.bool cf,.bool cf,[],rfl,λ_=>rfl,.bool cf,xK l _,λ_=>⟨List.Pairwise.nil,λ_ hm=>(nomatch hm)⟩⟩,h2,h3,h4⟩
section
variable{K:Frag}
noncomputable def A8(h:Heap):Heap:={ h with objs:=#[] }
theorem Ey(h:Heap)(b:Addr):(A8 h).get? b=a0:=by
 cases e:(A8 h).get? b with
 | none=>rfl
 | some o=>exact absurd (bg e) (ki _)
theorem Uj{L:Addr}{m:Str->Option Value}(n:h.Ns L m):Fr (A8 h) L h m:=
 ⟨n,λb o e=>(by rw[Ey]at e;cases e),eC _⟩
end
end u4
namespace L2
open PySem PySem.Spec PyProof.Rows
theorem eZ(h:IntsAre vs ns):Vals (ns.map V.int) vs:=by
 induction h with
 | nil=>exact .nil
 | cons n t h B=>exact .cons ⟨t,rfl⟩ B
def Ag(H:Hp):Prop:=∀b,H b=a0\/∃o xs,H b=aV (.bp o (.lst xs))
theorem Lz{mb:Str->Option Value}{CX:md}{k:Nat}{Z:Addr}{sp:Sp}{B:fu}(KX:K.In B.heap)(sv:B.heap.Ns ly mg)(C:B.heap.Ns builtinsNs mb)(UK:∀x:Str,x≠"__name__"->mb x=bootBuiltins x)(Vz:B.heap.NoLimit)(hg:B.gens=#[])(U:B.heap.get? a=aV { cls:=.type "list",data:=.seq vs.toArray })(hi:IntsAre vs ns)(hl:ns.length<=sizeLine)(hr:hE k callerA)(F:∀base:Heap,K.In base->base.Ns ly mg->ji P w K mg base CX k Z fd [x] sp)(UP:∀(s:fu) (u:Value),BindsTo s fd ⟨[u],[]⟩ [(x,u)])(mB:∀H:Hp,Ag H->cg K H a (ns.map V.int)->sp [.ref a] H (λv _=>v=.bl cf) λ_ _ _=>False)(C7:∀H e s',CX [] H B (λ_ _ _=>False) e s'->False) :
  codeAny (gx P w) callerA (.call (.ref Z) ⟨[.ref a],[]⟩) (λr s'=>r=.ok (.ret (.bool cf))/\OldK B.heap s'.heap/\s'.os=B.os/\AllBare s'.gens) B:=by
 have rv:=eZ hi;have WS:=hi.length;have G:∀H:Hp,Ag H->cg K H a (ns.map V.int)->eL P w H B.heap->(∀b,H b≠a0->b=a)->(H a≠a0->K.lookup a=a0)->
   codeAny (gx P w) callerA (.call (.ref Z) ⟨[.ref a],[]⟩) (λr s'=>r=.ok (.ret (.bool cf))/\OldK B.heap s'.heap/\s'.os=B.os/\AllBare s'.gens) B:=by
  intro H hO hS aS hA hK;have Hj:∀{b:Addr} {o:Obj},B.heap.get? b=aV o->H b=a0->(jQ B.heap H).get? b=aV o:=λe n=>LG e n
  have yA:∀{b:Addr} {o:Obj} {es:Array DictEntry} {ep:Nat},B.heap.get? b=aV o->o.data=.dict es ep->H b=a0:=λ {b o es ep} e d=>by
   cases q:H b with
   | none=>rfl
   | some u=>
    have au:b=a:=hA b (by rw[q];simp);subst au;rw[U]at e;cases e;have d':Data.seq vs.toArray _=Data.dict es ep:=d;cases d'
  have Y:∀{b:Addr} {m:Str->Option Value},B.heap.Ns b m->(jQ B.heap H).Ns b m:=λ {b m} ⟨o,es,ep,e,d,r⟩=>⟨o,es,ep,Hj e (yA e d),d,r⟩
  have HR:K.In (jQ B.heap H):=λb o e=>Hj (KX b o e) (by
   cases q:H b with
   | none=>rfl
   | some u=>
    have au:b=a:=hA b (by rw[q];simp);subst au;rw[hK (by rw[q];simp)]at e;cases e)
  have hM:Mod K mg (jQ B.heap H):=⟨HR,Y sv,⟨mb,Y C,UK⟩,let ⟨mc,h1,h2⟩:=Vz;⟨mc,Y h1,h2⟩⟩
  have e0:zI P w K mg (jQ B.heap H) callerA [] B H:=⟨rfl,hM,λb o e=>NI e,Nat.le_of_eq (yC _ _),trivial,λb C=>absurd (show b∈([]:List Addr) from C) (by simp),aS,.of_eq hg⟩
  refine tN ((F _ HR (Y sv)).run callerA [] B H ⟨[.ref a],[]⟩ [.ref a] [.ref a] _ _ hr e0 (UP B (.ref a)) (.cons rfl .nil) (mB H hO hS)) λr s' h=>?_
  cases r with
  | error e=>exact(C7 H e s' h).elim
  | ok fl=>
   cases fl with
   | next=>exact False.elim h
   | brk=>exact False.elim h
   | cont=>exact False.elim h
   | ret u=>
    obtain⟨v,aa,os,bare,un,VW,de,q⟩:=h;have c9:v=.bl cf:=q;subst c9;obtain rfl:u=Value.bool cf:=de;refine⟨rfl,OldK.of_keep λb o e=>?_,os,bare⟩;cases q:H b with
    | none=>exact un.keep b o e q (by intro z;exact absurd (show b∈([]:List Addr) from z) (by simp)) (by simp)
    | some u=>
     rcases hO b with z | ⟨ob,xs,z⟩
     .rw[q]at z;cases z
     .have z2:=un.nB b ob _ z
      obtain⟨e1,_⟩:=aS b _ z;obtain⟨e2,_⟩:=VW b _ z2;rw[e]at e1;cases e1;exact e2
 cases hk:K.lookup a with
 | some o=>
  have e:=KX a o hk;rw[U]at e;cases e;refine G (λ_=>a0) (λ_=>.inl rfl) (.inr ⟨_,vs.toArray,_,hk,rfl,rfl,rfl,by rw[dw,WS];exact hl,by simpa using rv⟩) (λb u z=>by have O:(a0:Option HO)=aV u:=z;cases O) (λb z=>absurd rfl z) λz=>absurd rfl z
 | none=>
  refine G (λb=>if b=a then aV (.bp { cls:=.type "list",data:=.seq vs.toArray } (.lst (ns.map V.int))) else a0) (λb=>?_) (.inl (.inr ⟨{ cls:=.type "list",data:=.seq vs.toArray },ah rfl⟩)) (λb u z=>?_) (λb z=>?_) λ_=>hk
  .by_cases C:b=a
   .exact .inr ⟨_,_,ah C⟩
   .exact .inl (ak C)
  .by_cases C:b=a
   .have O:=(ah C).symm.trans z
    cases O;subst C;exact⟨U,by rw[a6];exact hl,vs,_,rv,U⟩
   .have O:=(ak C).symm.trans z
    cases O
  .by_cases C:b=a
   .exact C
   .exact absurd (ak C) z
end L2
namespace L2
open PySem PySem.Spec PyProof.Rows
theorem YA{l:PySem.W.OpenLaw}{k:Nat}{q:Program}{d:DefRec}{K:Params->p5}{CX:wy->md}{sp:wy->Sp}(Z:l.most=aV n)(DM:n<=sizeLine)(C:d.params.defaults=[])(U:hE k callerA)(hY:∀(w:wy) (h:Heap),YP w h->(K w.params).In h)(F:∀(w:wy) (mg:Str->Option Value) (B:Addr) (h:Heap),(K w.params).In h->h.Ns ly mg->mg d.name=aV (.ref B)->
   ∃fd:FuncData,(∀(s:fu) (u:Value),BindsTo s fd ⟨[u],[]⟩ [(x,u)])/\
    ∀base:Heap,(K w.params).In base->base.Ns ly mg->ji l.prog w (K w.params) mg base (CX w) k B fd [x] (sp w))(O:∀(w:wy) (H:Hp) (a:Addr) (ns:List Int),ns.length<=n->Ag H->cg (K w.params) H a (ns.map V.int)->sp w [.ref a] H (λv _=>v=.bl cf) λ_ _ _=>False)(C7:∀(w:wy) (H:Hp) (s:fu) (e:Value) (s':fu),CX w [] H s (λ_ _ _=>False) e s'->False) :
  PySem.W.WalkO q loose XP YP l.row.toRowW d [] (λf vs=>PySem.call f vs):=by
 refine u4.Tz Z C λw bu bc mg mb B o pm cd doc a vs ns G Y ho hd kr hmg D1 hints hlen hg=>?_
 have KX:=hY w _ Y;obtain⟨fd,hb,hF⟩:=F w mg B _ KX G.T.g hmg;exact Lz KX G.T.g G.T.b G.T.builtins G.T.nolimit hg D1 hints (fN hlen DM) U hF hb (λH hO hS=>O w H a ns hlen hO hS) λH e s'=>C7 w H bc e s'
end L2
namespace L2
open PySem PySem.Spec PyProof.Rows
noncomputable def N8(s:Stmt):Arguments:=match s with
 | .FunctionDef _ a _ _ _ _ _ _ _ _=>a
 | _=>{ posonlyargs:=[],args:=[],vararg:=a0,kwonlyargs:=[],kw_defaults:=[],kwarg:=a0,defaults:=[] }
noncomputable def JX(s:Stmt):List Stmt:=match s with
 | .FunctionDef _ _ b _ _ _ _ _ _ _=>b
 | _=>[]
noncomputable def GX(s:Stmt):Scope:=match s with
 | .FunctionDef _ _ _ _ _ _ sc _ _ _=>sc
 | _=>{ kind:=.function,names:=[],isGenerator:=en,isCoroutine:=en }
abbrev kM:md:=λ_ _ _ _ _ _=>False
abbrev E0:XK:=λ_ _ _=>False
theorem RS:Passes kM X E0:=λ_ _ _ _ _ _ _ h=>h.elim
structure tw(K:p5)(x qual:Str)(st:Stmt)(f:Addr)(fd:FuncData):Prop where
 ex:∃(oc:Value) (od:Option Addr) (kV doc pm:Value) (an:Option Addr) (du ct:Value) (qS:Array (Option Value)),
  fd=PySem.W.fnOf x qual (N8 st) (JX st) (GX st) .none kV doc pm an du ct/\K.lookup f=aV ⟨oc,od,.func fd,qS⟩/\PySem.W.codeIn K du qual=cf
 kp:PySem.W.keepIn K (.ref f)=cf
theorem tw.ok{k:Nat}{sp:Sp}(F:tw K x qual st f fd)(S:Y5 N ps (GX st))(len:∀vs H Q E,sp vs H Q E->vs.length=ps.length)(B:∀(du:Value) (A:Around) (outer:List Env) (s:fu) (H:Hp) (vs:List V) (Q:VK) (E:XK),hE k (A.deeper (envOfC qual (GX st) s.heap.objs.size f du))->sp vs H Q E->
   ∃t,eM (oU kM P w K mg base N qual (GX st) f du A outer s H E).wa (JX st) t/\t { nx:=λ_ aa=>Q .aE aa,rt:=Q } (start N vs) H):ji P w K mg base kM (k+1) f fd ps sp:=by
 obtain⟨oc,od,kV,doc,pm,an,du,ct,qS,rfl,G,O⟩:=F.ex;refine vH G O S len λA outer s H vs Q E U C=>?_
 obtain⟨t,h,q⟩:=B du A outer s H vs Q E U C;exact⟨t,h.wa,q⟩
theorem tw.binds(F:tw K x qual st f fd)(h:∀(kV doc pm:Value) (an:Option Addr) (du ct:Value) (us:List Value),us.length=ps.length->bindArgs (PySem.W.fnOf x qual (N8 st) (JX st) (GX st) .none kV doc pm an du ct) ⟨us,[]⟩=pure (ps.zip us)):Binds K fd ps []:=by
 obtain⟨oc,od,kV,doc,pm,an,du,ct,qS,rfl,B,C⟩:=F.ex;exact .all (h kV doc pm an du ct)
theorem rJ{oc:Value}{od an:Option Addr}{kV doc pm du ct:Value}(l:K.lookup f=aV ⟨oc,od,.func (PySem.W.fnOf x qual (N8 st) (JX st) (GX st) .none kV doc pm an du ct),qS⟩)(c:PySem.W.codeIn K du qual=cf)(k:PySem.W.keepIn K (.ref f)=cf):tw K x qual st f (PySem.W.fnOf x qual (N8 st) (JX st) (GX st) .none kV doc pm an du ct):=⟨⟨oc,od,kV,doc,pm,an,du,ct,qS,rfl,l,c⟩,k⟩
theorem So{k:Nat}(B:hE k A):A.units+1<cLine:=qc (Nat.add_le_add_left (by decide:1<=64) _) B.units
theorem pv(i:Nat)(G:X.N[i]?=aV x:=by rfl)(C:Ak X.env.scope x:=by first | exact Or.inl rfl | exact Or.inr (Or.inl rfl) | exact Or.inr (Or.inr rfl))(hd:(x==("__debug__" : Str))=en:=by decide)(B:(x==("__classdict__" : Str))=en:=by decide):PE X (.Name x pos) (RN i):=O2 G C hd B
def vf(H aa:Hp):Prop:=∀b o,H b=aV o->aa b=aV o
theorem vf.refl(H:Hp):vf H H:=λ_ _ h=>h
section
variable{κ:Type}[DecidableEq κ]
end
end L2
namespace L2
open PySem PySem.Spec PyProof.Rows
noncomputable def LK(cells:List (Str×Addr)):List (Str×OZ)->List (Str×Addr)->List (Str×Addr)
 | [],acc=>acc
 | (n,k)::r,acc=>LK cells r (if k==.free then (match cells.lookup n with | some c=>(n,c)::acc | none=>acc) else acc)
theorem YW{cells:List (Str×Addr)}:∀{names:List (Str×OZ)} {acc:List (Str×Addr)} {x:Str} {c:Addr},(∀x c,acc.lookup x=aV c->cells.lookup x=aV c)->
  (LK cells names acc).lookup x=aV c->cells.lookup x=aV c
 | [],acc,x,c,h,e=>h x c e
 | (n,k)::r,acc,x,c,h,e=>by
  refine YW (names:=r) (λy d q=>?_) e
  by_cases hk:(k==rr)=cf
  .rw[ah hk]at q
   cases hl:cells.lookup n with
   | none=>rw[hl]at q;exact h y d q
   | some C=>
    rw[hl]at q;simp only[pK]at q;cases B:y==n with
    | true=>
     rw[B]at q;have:y=n:=by simpa using B
     subst this;cases q;exact hl
    | false=>rw[B]at q;exact h y d q
  .rw[ak hk]at q
   exact h y d q
theorem cX{cells:List (Str×Addr)}:∀{names:List (Str×OZ)} {acc:List (Str×Addr)} {x:Str},(acc.lookup x).isSome=cf->((LK cells names acc).lookup x).isSome=cf
 | [],_,_,h=>h
 | (n,k)::r,acc,x,h=>by
  refine cX (names:=r) ?_;split
  .split
   .simp only[pK]
    cases B:x==n with
    | true=>rfl
    | false=>exact h
   .exact h
  .exact h
theorem gP{cells:List (Str×Addr)}:∀{names:List (Str×OZ)} {acc:List (Str×Addr)} {x:Str},(x,rr)∈names->(cells.lookup x).isSome=cf->((LK cells names acc).lookup x).isSome=cf
 | [],_,_,h,_=>nomatch h
 | (n,k)::r,acc,x,h,B=>by
  rcases cq h with e | h
  .cases e
   refine cX (names:=r) ?_;rw[ah (by rfl)];cases hl:cells.lookup n with
   | none=>rw[hl]at B;cases B
   | some c=>simp[pK]
  .exact gP (names:=r) h B
theorem V6{env:Env}(h:∀y∈scope.names,y.2=.free->(env.cells.lookup y.1).isSome=cf):closureFor scope env=pure (LK env.cells scope.names []):=by
 have go:∀(names:List (Str×OZ)) (B:List (Str×Addr)),(∀y∈names,y.2=.free->(env.cells.lookup y.1).isSome=cf)->
   (forIn names B (λ(x:Str×OZ) (G:List (Str×Addr))=>match x with
    | (name,kind)=>if (kind==rr)=cf then (do let c <-cellOf env name;pure (ForInStep.yield ((name,c)::G)):Sem _) else pure (ForInStep.yield G)):Sem _)=pure (LK env.cells names B):=by
  intro names
  induction names with
  | nil=>intro B _;rfl
  | cons y r Z=>
   intro B U;obtain⟨n,k⟩:=y;rw[rp]
   by_cases hk:(k==rr)=cf
   .have hs:=U (n,k) bw (by simpa using hk)
    obtain⟨c,C⟩:=oD.mp hs;have C:env.cells.lookup n=aV c:=C;have e:cellOf env n=pure c:=by unfold cellOf;rw[C]
    have Y:=Z ((n,c)::B) λz O=>U z (bx _ O)
    simp only[hk,if_true,e,LK,C];exact Y
   .have Y:=Z B λz O=>U z (bx _ O)
    simp only[hk,LK];exact Y
 unfold closureFor;have g:=go scope.names [] h;exact(congrArg (λm=>m >>= λG=>(pure G:Sem _)) g).trans rfl
theorem lC:∀{names:List (Str×OZ)},names.filter (λy=>y.2==.cell)=[]->∀(n:Nat) (acc:List (Str×Addr)) (h:Heap),cellsFrom n names acc=acc/\pushCells h names=h
 | [],_,_,_,_=>⟨rfl,rfl⟩
 | (a,k)::r,e,n,acc,h=>by
  have hk:(k==sZ)=en:=by
   cases hk:k==sZ with
   | false=>rfl
   | true=>simp only[List.filter_cons,hk,if_true]at e;cases e
  simp only[List.filter_cons,hk,ft,if_false]at e;unfold cellsFrom pushCells;rw[ak (by simp[hk]),ak (by simp[hk])];exact lC e n acc h
theorem rT:∀{names:List (Str×OZ)} {y:Str×OZ},names.filter (λy=>y.2==.cell)=[y]->∀(n:Nat) (acc:List (Str×Addr)) (h:Heap),cellsFrom n names acc=(y.1,n)::acc/\pushCells h names=h.push { cls:=.type "cell",data:=.cell a0 }
 | [],_,e,_,_,_=>by cases e
 | (a,k)::r,y,e,n,acc,h=>by
  unfold cellsFrom pushCells;cases hk:k==sZ with
  | true=>
   simp only[List.filter_cons,hk,if_true,OV]at e;obtain⟨rfl,e⟩:=e;rw[ah rfl,ah rfl];exact lC e _ _ _
  | false=>
   simp only[List.filter_cons,hk,ft,if_false]at e;rw[ak (by decide),ak (by decide)];exact rT e n acc h
noncomputable abbrev sU (X:Cx) (scope:Scope) (C:Addr):Env:=compEnvC scope (cellsFrom (C+1) scope.names (LK X.env.cells scope.names [])) C X.env
noncomputable abbrev eS (X:Cx) (scope:Scope) (M own:List Str) (C:Addr) (bu:fu) (cE:Hp) (ex:List Addr):Cx where
 prog:=X.prog
 w:=X.w
 K:=X.K
 mg:=X.mg
 base:=X.base
 A:=X.A
 N:=M++own
 bu:=bu
 cE:=cE
 env:=sU X scope C
 outer:=X.stack
 stack:=X.stack
 ex:=ex
 fn:=λx=>scope.names.lookup x==aV .cell
 calm:=X.calm
 pn:=[]
 xe:=λ_ _=>False
structure ij(X:Cx)(scope:Scope)(M own:List Str):Prop where
 kind:scope.kind=.function
 fr:(scope.names.all λy=>y.2 != .free||X.env.kindOf y.1==aV .cell)=cf
 cell:(match scope.names.filter (λy=>y.2==.cell) with | []=>cf | [y]=>scope.names.lookup y.1==aV .cell&&scope.names.all (λz=>z.2==.cell||z.1 != y.1) | _=>en)=cf
 nm:(scope.names.all λy=>y.2 != .local||scope.names.lookup y.1==aV .local)=cf
 apart:(M.all λx=>scope.names.lookup x != aV .local&&scope.names.lookup x != aV .cell)=cf
 ZY:X.env.scope.kind=.function
 JI:M=X.N\/(M.length=X.N.length/\((M.zip X.N).all λp=>eH (p.1=p.2)||scope.names.all λy=>eH (y.1≠p.1))=cf)
theorem ij.len(B:ij X scope M own):M.length=X.N.length:=by
 rcases B.JI with h | h
 .rw[h]
 .exact h.1
theorem ij.same(B:ij X scope M own)(e:M[i]?=aV x){k:OZ}(G:(x,k)∈scope.names):X.N[i]?=aV x:=by
 rcases B.JI with h | ⟨hl,h⟩
 .rw[<-h];exact e
 .have hi:=(fx.mp e).1
  have Il:i<X.N.length:=by lia
  have C:(x,X.N[i])∈M.zip X.N:=by
   have O:(M.zip X.N)[i]'(by rw[List.length_zip];lia)=(x,X.N[i]):=by
    rw[List.getElem_zip,(fx.mp e).2]
   rw[<-O];exact List.getElem_mem _
  have:=nq h _ C;simp only[Bool.or_eq_true,decide_eq_true_eq]at this;rcases this with z | z
  .rw[eg Il,<-z]
  .exact absurd rfl (eW (nq z (x,k) G))
theorem ij.C3(B:ij X scope M own):∀y∈scope.names,y.2=.free->X.env.kindOf y.1=aV .cell:=λy C e=>by
 have:=nq B.fr y C;rw[e]at this;simpa using this
theorem ij.Kd(B:ij X scope M own):scope.names.filter (λy=>y.2==.cell)=[]\/∃x k,scope.names.filter (λy=>y.2==.cell)=[(x,k)]/\scope.names.lookup x=aV .cell/\(∀y∈scope.names,y.2=.cell->y.1=x)/\∀k,(x,k)∈scope.names->k=.cell:=by
 have h:=B.cell;split at h
 .exact .inl (by assumption)
 .rename_i y e
  rw[gS]at h;refine .inr ⟨y.1,y.2,e,by simpa using h.1,λz C G=>?_,λk hk=>?_⟩
  .have:z∈scope.names.filter (λy=>y.2==.cell):=zj.mpr ⟨C,by simp[G]⟩
   rw[e]at this;rw[fw this]
  .have:=nq h.2 _ hk
   simpa using this
 .cases h
theorem lookup_mem:∀{l:List (Str×OZ)} {x:Str} {k:OZ},l.lookup x=aV k->(x,k)∈l:=λh=>mem_of_lookup h
theorem ij.cells(B:ij X scope M own)(n:Nat)(acc:List (Str×Addr))(h:Heap):
  (∀x c,(cellsFrom n scope.names acc).lookup x=aV c->(acc.lookup x=aV c/\scope.names.lookup x≠aV .cell)\/(c=n/\scope.names.lookup x=aV .cell/\pushCells h scope.names=h.push { cls:=.type "cell",data:=.cell a0 }))/\
  (∀x,(x,rr)∈scope.names->(cellsFrom n scope.names acc).lookup x=acc.lookup x)/\(∀x,(x,sZ)∈scope.names->(cellsFrom n scope.names acc).lookup x=aV n)/\
  (∀x y,scope.names.lookup x=aV .cell->scope.names.lookup y=aV .cell->x=y)/\(pushCells h scope.names=h\/pushCells h scope.names=h.push { cls:=.type "cell",data:=.cell a0 }):=by
 rcases B.Kd with e | ⟨G,k0,e,h1,O,Z⟩
 .have U:∀y∈scope.names,y.2≠.cell:=λy Y z=>by
   have:y∈scope.names.filter (λy=>y.2==.cell):=zj.mpr ⟨Y,by simp[z]⟩;rw[e]at this;cases this
  rw[(lC e n acc h).1,(lC e n acc h).2];exact⟨λx c z=>.inl ⟨z,λq=>U _ (lookup_mem q) rfl⟩,λ_ _=>rfl,λx C=>absurd rfl (U _ C),λx y C _=>absurd rfl (U _ (lookup_mem C)),.inl rfl⟩
 .rw[(rT e n acc h).1,(rT e n acc h).2]
  refine⟨λx c z=>?_,λx C=>?_,λx C=>?_,λx y C Y=>(O _ (lookup_mem C) rfl).trans (O _ (lookup_mem Y) rfl).symm,.inr rfl⟩
  .rw[pK]at z
   cases C:x==G with
   | true=>
    rw[C]at z;have:x=G:=by simpa using C
    subst this;exact .inr ⟨(b5 z).symm,h1,rfl⟩
   | false=>
    rw[C]at z;refine .inl ⟨z,λq=>?_⟩;have:=O _ (lookup_mem q) rfl;rw[show x=G from this]at C;simp at C
  .rw[pK]
   cases q:x==G with
   | true=>
    have:x=G:=by simpa using q
    subst this;cases Z _ C
   | false=>rfl
  .have:x=G:=O _ C rfl
   subst this;rw[pK,beq_self_eq_true]
theorem ij.Ew(B:ij X scope M own):∀y∈scope.names,y.2=.local->scope.names.lookup y.1=aV .local:=λy C e=>by
 have:=nq B.nm y C;rw[e]at this;simpa using this
theorem MK{X:Cx}{scope:Scope}{M own:List Str}(B:ij X scope M own):∀{names:List (Str×OZ)} {x:Str},(∀y∈names,y∈scope.names)->
  ((names.map λ(n,k)=>if (k==rr&&X.env.scope.kind==.function&&X.env.kindOf n==aV .cell) then (n,sZ) else (n,k)).lookup x=aV .cell\/
   (names.map λ(n,k)=>if (k==rr&&X.env.scope.kind==.function&&X.env.kindOf n==aV .cell) then (n,sZ) else (n,k)).lookup x=aV .free)->((x,rr)∈names/\X.env.kindOf x=aV .cell)\/(x,sZ)∈names
 | [],x,_,h=>by simp at h
 | (n,k)::r,x,hs,h=>by
  have Y:=@MK X scope M own B r x (λy Z=>hs y (bx _ Z));have hn:=hs (n,k) bw;simp only[cj]at h
  by_cases O:(x==n)=cf
  .have e:x=n:=by simpa using O
   subst e
   by_cases hk:k=.free
   .subst hk
    exact .inl ⟨bw,B.C3 _ hn rfl⟩
   .have Vs:(k==rr)=en:=by simpa using hk
    simp only[Vs,Bool.false_and,ft,if_false,pK,beq_self_eq_true]at h;rcases h with h | h
    .cases h;exact .inr bw
    .cases h;exact absurd rfl hk
  .have U:(x==n)=en:=by simpa using O
   have C:∀G:OZ,(List.lookup x ((if (k==rr&&X.env.scope.kind==.function&&X.env.kindOf n==aV .cell)=cf then (n,sZ) else (n,k))::(r.map λ(n,k)=>if (k==rr&&X.env.scope.kind==.function&&X.env.kindOf n==aV .cell) then (n,sZ) else (n,k)))=aV G)->
     (r.map λ(n,k)=>if (k==rr&&X.env.scope.kind==.function&&X.env.kindOf n==aV .cell) then (n,sZ) else (n,k)).lookup x=aV G:=by
    intro G q;split at q<;>simpa only [pK,U] using q
   exact(Y (h.imp (C _) (C _))).imp (λz=>⟨bx _ z.1,z.2⟩) λz=>bx _ z
theorem Q8{X:Cx}{scope:Scope}{M own:List Str}(B:ij X scope M own):∀{names:List (Str×OZ)} {x:Str},(∀y∈names,y∈scope.names)->
  (names.map λ(n,k)=>if (k==rr&&X.env.scope.kind==.function&&X.env.kindOf n==aV .cell) then (n,sZ) else (n,k)).lookup x=aV .local->scope.names.lookup x=aV .local
 | [],x,_,h=>by simp at h
 | (n,k)::r,x,hs,h=>by
  have O:=@Q8 X scope M own B r x (λy U=>hs y (bx _ U));have Y:=hs (n,k) bw;simp only[cj]at h
  by_cases C:(x==n)=cf
  .have e:x=n:=by simpa using C
   subst e;split at h
   .simp only[pK,beq_self_eq_true]at h
    cases h
   .simp only[pK,beq_self_eq_true]at h
    cases h;exact B.Ew _ Y rfl
  .have G:(x==n)=en:=by simpa using C
   refine O ?_;split at h<;>simpa only [pK,G] using h
theorem yZ(B:ij X scope M own)(I:Inv X pi σ H s)(Y:∀b∈fp,O7 X pi H b)(Vh:∀b∈fp,∃o,s.heap.get? b=aV o){h0:Heap}(hn:h'.Ns s.heap.objs.size (λ_=>a0))(hk:∀b o,s.heap.get? b=aV o->h'.get? b=aV o)(e0:h'=pushCells h0 scope.names)(z0:h0.objs.size=s.heap.objs.size+1) :
  Inv (eS X scope M own s.heap.objs.size s H fp) [] (σ++i5 own.length a0) H { s with heap:=h',toks:=t' }:=by
 obtain⟨c1,c2,c3,c4,_⟩:=B.cells (s.heap.objs.size+1) (LK X.env.cells scope.names []) h0;have d6:∀x c,(LK X.env.cells scope.names []).lookup x=aV c->X.env.cells.lookup x=aV c:=λx c e=>YW (names:=scope.names) (acc:=[]) (λ_ _ z=>by simp at z) e
 have O:∀x c,X.env.cells.lookup x=aV c->c<s.heap.objs.size:=λx c e=>let ⟨_,z⟩:=I.cell x c e;z.lt
 have U:∀x c,(cellsFrom (s.heap.objs.size+1) scope.names (LK X.env.cells scope.names [])).lookup x=aV c->X.env.cells.lookup x=aV c/\scope.names.lookup x≠aV .cell\/(c=s.heap.objs.size+1/\scope.names.lookup x=aV .cell/\h'.IsCell c a0):=λx c e=>by
  rcases c1 x c e with ⟨z,n⟩ | ⟨z,n,p⟩
  .exact .inl ⟨d6 x c z,n⟩
  .refine .inr ⟨z,n,?_⟩
   rw[e0,p,z,<-z0];exact⟨_,dm _ rfl,rfl⟩
 have Ik:∀x,(x,rr)∈scope.names->X.env.kindOf x=aV .cell->∃c,(cellsFrom (s.heap.objs.size+1) scope.names (LK X.env.cells scope.names [])).lookup x=aV c/\X.env.cells.lookup x=aV c:=λx hx hk=>by
  obtain⟨c,e⟩:=I.ok.has x (.inl hk);obtain⟨dh,au⟩:=oD.mp (gP (acc:=[]) hx (by rw[e];rfl));exact⟨dh,by rw[c2 x hx];exact au,d6 x dh au⟩
 have xx:∀b∈fp,b<s.heap.objs.size:=λb G=>let ⟨o,e⟩:=Vh b G;bg e
 refine⟨⟨I.mod,B.kind,I.ok.glob,I.ok.blt,a8 _,λx y c h1 h2=>?_,λx hx=>?_,λx c Y e=>?_,I.ok.hd,I.ok.frames,.inl rfl,λb G=>⟨cc (xx b G),λx c e=>?_⟩,
   I.bs,fN I.ok.rk I.sz,λb o e G=>?_,λb G z=>?_,I.stack,I.Ko⟩,rfl,I.bare,Un.kept hk,⟨_,hn,λi x v e1 Z C=>?_⟩,λx c e=>?_,I.aS.fresh (a8 _),λx c e=>?_,λp hp=>absurd (show p∈([]:List (Addr×Obj)) from hp) (by simp),I.aS.kept hk,?_⟩
 .rcases U x c h1 with ⟨a,_⟩ | ⟨a,il,_⟩
  .rcases U y c h2 with ⟨b,_⟩ | ⟨b,_⟩
   .exact I.ok.inj x y c a b
   .exact absurd (b▸O x c a) (Nat.not_lt.mpr (oo _))
  .rcases U y c h2 with ⟨b,_⟩ | ⟨_,jm,_⟩
   .exact absurd (a▸O y c b) (Nat.not_lt.mpr (oo _))
   .exact c4 x y il jm
 .rcases MK B (names:=scope.names) (x:=x) (λ_ z=>z) hx with q | q
  .obtain⟨c,e,_⟩:=Ik x q.1 q.2
   exact⟨c,e⟩
  .exact⟨_,c3 x q⟩
 .rcases U x c e with ⟨_,n⟩ | ⟨z,_⟩
  .exact absurd (by simpa using Y) n
  .rw[z];exact oo _
 .rcases U x c e with ⟨a,_⟩ | ⟨a,_⟩
  .exact(Y b G).2.2.2.2.1 x c a
  .rw[a];exact iz (jn (xx b G))
 .rcases(Y b G).2.2.2.1 with z | z
  .exact I.ok.yB b o e z
  .exact absurd (iq (bg e) (fN I.ok.rk z)) (iA _)
 .rcases cq (I.Bk b z) with e | e
  .exact(Y b G).2.1 e
  .exact(Y b G).2.2.1 e
 .have hi:i<σ.length:=by
   by_cases hi:i<σ.length
   .exact hi
   .rw[qk (xq hi),List.getElem?_replicate]at Z
    split at Z<;>cases Z
  rw[km hi]at Z;rw[km (by rw[B.len,<-I.len];exact hi)]at e1;obtain⟨m,hm,hl⟩:=I.loc;have nl:scope.names.lookup x≠aV .local/\scope.names.lookup x≠aV .cell:=by
   have:=nq B.apart x (gL e1);simpa using this
  have nc:(x,sZ)∉scope.names:=λz=>by
   rcases B.Kd with e | ⟨x0,k0,e,h1,h2,h3⟩
   .have:(x,sZ)∈scope.names.filter (λy=>y.2==.cell):=zj.mpr ⟨z,by simp⟩
    rw[e]at this;cases this
   .rw[<-show x=x0 from h2 _ z rfl]at h1
    exact nl.2 h1
  have q:(x,rr)∈scope.names/\X.env.kindOf x=aV .cell:=by
   rcases C with C | C | C
   .exact absurd (Q8 B (names:=scope.names) (λ_ z=>z) C) nl.1
   .exact(MK B (names:=scope.names) (λ_ z=>z) (.inl C)).resolve_right nc
   .exact(MK B (names:=scope.names) (λ_ z=>z) (.inr C)).resolve_right nc
  obtain⟨u,r,lk⟩:=hl i x v (B.same e1 q.1) Z (.inr (.inl q.2));refine⟨u,r,?_⟩;rcases lk with ⟨k1,_⟩ | ⟨_,c,ec,z⟩
  .rw[q.2]at k1;cases k1
  .obtain⟨dh,T1,Hu⟩:=Ik x q.1 q.2
   have:dh=c:=by
    rw[ec]at Hu;exact(b5 Hu).symm
   subst this;refine .inr ⟨?_,dh,T1,?_⟩
   .rcases C with C | C | C
    .exact absurd (Q8 B (names:=scope.names) (λ_ z=>z) C) nl.1
    .exact .inl C
    .exact .inr C
   .obtain⟨o,ho,hd⟩:=z
    exact⟨o,hk _ _ ho,hd⟩
 .rcases U x c e with ⟨a,_⟩ | ⟨_,_,a⟩
  .obtain⟨v,o,ho,hd⟩:=I.cell x c a
   exact⟨v,o,hk _ _ ho,hd⟩
  .exact⟨a0,a⟩
 .rcases U x c e with ⟨a,_⟩ | ⟨a,_⟩
  .exact I.mq x c a
  .rw[a];exact I.aS.fresh (oo _)
 .show (σ++i5 own.length a0).length=(M++own).length
  rw[fA,fA,List.length_replicate,I.len,B.len]
theorem OR(I:Inv X pi σ H s)(U:∀b∈fp,O7 X pi H b){σ':St}{s':fu}{G:Heap}(J:Inv (eS X scope M own s.heap.objs.size s H fp) [] σ' aa s')(hs:vw s.heap.objs.size s'.heap G):Inv X pi σ aa { s' with heap:=G }:=by
 have O:aa s.heap.objs.size=a0:=J.free;have aS:eL X.prog X.w aa G:=λb u e=>(J.aS b u e).ig (λc v Y q=>(hs.2 c ?_).trans q) (λ_ q=>q) λ_ _ q=>q
 .refine I.TH (s':={ s' with heap:=G }) (ch:=fp) J.os ⟨λb o e n C B=>?_,λb o e n C B=>?_,J.base.free,λb o e B=>?_,J.base.mT,J.base.nB,J.base.o6⟩ aS J.bare λb C=>?_
  .exact(hs.2 b (cc (bg e))).trans (J.base.keep b o e n C B)
  .obtain⟨sl,q⟩:=J.base.slot b o e n C B
   exact⟨sl,(hs.2 b (cc (bg e))).trans q⟩
  .obtain⟨bt,q⟩:=J.base.there b o e B
   exact⟨bt,(hs.2 b (cc (bg e))).trans q⟩
  .obtain⟨_,f1,_,f3,f4,Z⟩:=U b C
   exact⟨f3,f1,f4,Z⟩
 .intro z
  subst z;rcases Y with z | z
  .rw[<-z,O]at e;cases e
  .rw[O]at z;cases z
def nh(X:Cx)(ifs:List Expr)(t:TT):Prop:=
 ∀(pi:List (Addr×Obj)) (s:fu) (σ:St) (H:Hp) (Q:Bool->Hp->Prop),Inv X pi σ H s->t σ H Q->
  fj (gx X.prog X.w) X.A (forIn ifs cf λc r=>if r=cf then do let ok <-isTrue c X.env (eval c X.env);pure (ForInStep.yield ok) else pure (ForInStep.yield r)) (TP X pi σ Q) X.xe s
def SH:TT:=λ_ H Q=>Q cf H
theorem Nd:nh X [] SH:=λ_ _ _ H _ I h=>wpAny_tests_nil ⟨H,I,h⟩
theorem Nc{t:TT}(h:PT X c t):nh X [c] t:=λpi s σ H Q I B=>wpAny_tests_one (h pi s σ H Q I B)
theorem kZ{B:Expr}{it acc:Value}{env:Env}(I:Nat->fu->Prop)(turn:∀n s,I n s->fj (gx prog w) A (pyNext it) (λr G=>match r with
   | none=>R (.ok .next) G
   | some v=>fj (gx prog w) A (letOwnedTupleGo B it v) (λ_ G=>fj (gx prog w) A (assign B env v) (λ_ U=>
     fj (gx prog w) A (forIn ifs cf λc r=>if r=cf then do let ok <-isTrue c env (eval c env);pure (ForInStep.yield ok) else pure (ForInStep.yield r)) (λok O=>
      if ok=cf then fj (gx prog w) A (eval elt env) (λx Bm=>
       fj (gx prog w) A (call (.builtin "list.append") [acc,x]) (λ_ Kq=>∃m,m<n/\I m Kq) (λ_ _=>False) Bm) (λ_ _=>False) O
      else ∃m,m<n/\I m O) (λ_ _=>False) U) (λ_ _=>False) G) (λ_ _=>False) G) (λ_ _=>False) s)(n:Nat)(h:I n s) :
  codeAny (gx prog w) A (.compLoop (.ListComp elt [⟨B,iter,ifs,0⟩] scope pos) 0 it acc env) R s:=by
 refine codeAny_loop rfl I (λn s Z=>?_) n h;show fj _ A ((compTurn (.ListComp elt [⟨B,iter,ifs,0⟩] scope pos) 0 it acc env).onRaise (λx=>do noteFrame x env;theTreesLotGoes x)) _ _ s;refine wpAny_noted ?_;rw[compTurn_list];refine ab (wpAny_standAt (ab (e9 (turn n s Z) (λr G C=>?_) λ_ _ h'=>h'.elim)));cases r with
 | none=>exact ag C
 | some v=>
  refine ab (e9 C (λ_ G C=>?_) λ_ _ h'=>h'.elim);refine ab (e9 C (λ_ U Y=>ab (e9 Y (λok O AR=>?_) λ_ _ h'=>h'.elim)) λ_ _ h'=>h'.elim);cases ok with
  | false=>exact ag ⟨rfl,AR⟩
  | true=>
   exact ab (ab (e9 AR (λx Bm Wz=>ab (e9 Wz (λ_ Kq WA=>ag (ag ⟨rfl,WA⟩)) λ_ _ h'=>h'.elim)) λ_ _ h'=>h'.elim))
theorem o7{M:Model}{globals:Addr}{cl:List (Str×Addr)}{env:Env}{Q:Env->fu->Prop}(B:Q (newEnv scope s.heap.objs.size globals (cellsFrom (s.heap.objs.size+1) scope.names cl) qual a0 .none (aV env) builtinsNs) { s with heap:=pushCells (s.heap.push { cls:=.type "dict",data:=.dict #[] }) scope.names }) :
  fj M A (newFunctionEnv scope globals cl [] qual a0 .none (aV env)) Q E s:=by
 simp only[newFunctionEnv,Option.isSome_some,if_true];refine ab (wpAny_alloc ?_);refine ab (wpAny_layCells _ (λname kind cells=>by cases Vr:kind==sZ<;>simp[Vr]) _ _ _ _ ?_);rw[show ({ s with heap:=s.heap.push { cls:=.type "dict",data:=.dict #[] } }:fu).heap.objs.size=s.heap.objs.size+1 from kS ..];rw[List.forIn_nil];exact ab (ag (ag B))
def m8(wi:TI)(k:Nat)(g:TG)(tt:TT)(te:TE):TE:=λ σ H Q=>wi σ H λJ Z=>∀D,Z D=a0->∃W:Nat->Nat->St->Hp->Prop,
 (∃m,W 0 m (σ++i5 k a0) (upd Z D (.lst [])))/\∀i m B aa,W i m B aa->
  (J.stop i aa/\Q (.ref D) aa)\/(J.go i aa/\∀x Y,J.zo i aa x Y->g x B Y λG H3=>tt G H3 λc U=>
   if c=cf then te G U λy O=>∃ys,O D=aV (.lst ys)/\ys.length<sizeLine/\∃C,C<m/\W (i+1) C G (upd O D (.lst (ys++[y])))
   else ∃C,C<m/\W (i+1) C G U)
section
variable{g:TG}{tt:TT}
theorem wD(B:ij X scope M own)(hc:X.calm=cf)(hg:∀C bu cE ex,PG (eS X scope M own C bu cE ex) tg g)(ht:∀C bu cE ex,nh (eS X scope M own C bu cE ex) ifs tt)(he:∀C bu cE ex,PE (eS X scope M own C bu cE ex) elt te){Z:Hp}{O:fu}{tn:Nat->Heap->Prop}{J:It}{Q:VK}(I2:Inv X pi σ Z O)(T:Turn X.prog X.w X.K tg J fp it tn)(st:tn 0 O.heap)(f2:∀b∈fp,O7 X pi Z b)(q2:∀D,Z D=a0->∃W:Nat->Nat->St->Hp->Prop,
   (∃m,W 0 m (σ++i5 own.length a0) (upd Z D (.lst [])))/\∀i m σ' aa,W i m σ' aa->
    (J.stop i aa/\Q (.ref D) aa)\/(J.go i aa/\∀x Z,J.zo i aa x Z->g x σ' Z λiP H3=>tt iP H3 λc H4=>
     if c=cf then te iP H4 λy H5=>∃ys,H5 D=aV (.lst ys)/\ys.length<sizeLine/\∃af,af<m/\W (i+1) af iP (upd H5 D (.lst (ys++[y])))
     else ∃af,af<m/\W (i+1) af iP H4))(hR:∀D C aa s' m,s'.heap.Ns C m->(∀nK,vw C s'.heap nK->Inv X pi σ aa { s' with heap:=nK })->C≠X.env.locals->(∀x c,X.env.cells.lookup x=aV c->c≠C)->O.heap.objs.size<C->aa C=a0->Q (.ref D) aa->RR (.ref D) C (.ok .next) s') :
  fj (gx X.prog X.w) X.A (newList []) (λacc G=>fj (gx X.prog X.w) X.A (newFunctionEnv scope X.env.globals (LK X.env.cells scope.names []) [] X.env.qual a0 .none (aV X.env)) (λHo Bm=>
   codeAny (gx X.prog X.w) X.A (.compStart (.ListComp elt [⟨tg,iter,ifs,0⟩] scope pos) 0 (.ref it) acc { Ho with scope:=relabel scope X.env }) (RR acc Ho.locals) Bm) E G) E O:=by
 have I3:=I2.Jw (ys:=[]) (its:=[]) (t':=O.toks) .nil (by simp);refine kn (o7 ?_);have Vi:Z O.heap.objs.size=a0:=I2.fresh;obtain⟨W,⟨m0,w0⟩,turn⟩:=q2 O.heap.objs.size Vi;generalize Wi:({ O with heap:=O.heap.push { cls:=.type "list",data:=.seq ([]:List Value).toArray },toks:=O.toks }:fu)=G at I3;have e3:G.heap=O.heap.push { cls:=.type "list",data:=.seq ([]:List Value).toArray }:=by rw[<-Wi]
 have k3:∀b o,O.heap.get? b=aV o->G.heap.get? b=aV o:=λb o e=>by rw[e3];exact cx _ e
 have f3:∀b∈fp,O7 X pi (upd Z O.heap.objs.size (.lst [])) b:=λb U=>by
  obtain⟨o,e,_⟩:=T.obj 0 _ st b U;refine⟨?_,(f2 b U).2⟩;rw[CJ (cc (bg e))];exact(f2 b U).1
 have Hy:∀b∈fp,∃o,G.heap.get? b=aV o:=λb U=>by
  obtain⟨o,e,_⟩:=T.obj 0 _ st b U;exact⟨o,k3 b o e⟩
 show codeAny _ _ (.compStart _ 0 _ _ (sU X scope G.heap.objs.size)) (RR _ G.heap.objs.size) _;generalize Dw:G.heap.push { cls:=.type "dict",data:=.dict #[] }=h0;have z0:h0.objs.size=G.heap.objs.size+1:=by rw[<-Dw,kS]
 generalize eh:pushCells h0 scope.names=h₁;have k4:∀b o,G.heap.get? b=aV o->h₁.get? b=aV o:=λb o e=>by
  rw[<-eh];refine pushCells_keeps _ _ _ _ ?_;rw[<-Dw];exact cx _ e
 have DO:h₁.Ns G.heap.objs.size (λ_=>a0):=by
  rw[<-eh,<-Dw];exact(Heap.Ns.new G.heap (.type "dict")).keeps (pushCells_keeps _ _)
 have J4:=yZ (own:=own) (t':=G.toks) B I3 f3 Hy DO k4 eh.symm z0;have Kt:tn 0 h₁:=T.keep 0 _ _ st λb _ o e=>k4 b o (k3 b o e)
 have uy:∀{aa:Hp},(∀b∈fp,aa b=a0)->∀b∈fp,O7 (eS X scope M own G.heap.objs.size G (upd Z O.heap.objs.size (.lst [])) fp) [] aa b:=λ {aa} hn b U=>by
  obtain⟨_,g1,g2,g3,g4,g5⟩:=f3 b U;obtain⟨o,e⟩:=Hy b U;refine⟨hn b U,cc (bg e),λz=>?_,.inl U,λx c q=>?_,λp hp=>absurd (show p∈([]:List (Addr×Obj)) from hp) (by simp)⟩
  .rcases cq (I3.Bk b z) with e | e
   .exact g1 e
   .exact g2 e
  .rcases(B.cells (G.heap.objs.size+1) (LK X.env.cells scope.names []) G.heap).1 x c q with ⟨z,_⟩ | ⟨z,_⟩
   .exact g4 x c (YW (names:=scope.names) (acc:=[]) (λ_ _ z=>by simp at z) z)
   .rw[z];exact iz (jn (bg e))
 have loop:∀s4:fu,s4={ G with heap:=h₁ }->
   codeAny (gx X.prog X.w) X.A (.compLoop (.ListComp elt [⟨tg,iter,ifs,0⟩] scope pos) 0 (.ref it) (.ref O.heap.objs.size) (sU X scope G.heap.objs.size)) (RR (.ref O.heap.objs.size) G.heap.objs.size) s4:=by
  rintro s4 rfl;refine kZ (λn s'=>∃i σ' aa,Inv (eS X scope M own G.heap.objs.size G (upd Z O.heap.objs.size (.lst [])) fp) [] σ' aa s'/\tn i s'.heap/\(∀b∈fp,aa b=a0)/\W i n σ' aa) ?_ m0
   ⟨0,_,_,J4,Kt,λb U=>(f3 b U).1,w0⟩
  rintro n s5 ⟨i,Bx,H5,I5,wo,Aq,w5⟩;rcases turn i n Bx H5 w5 with ⟨stop,qn⟩ | ⟨go,step⟩
  .refine a9 (T.done (eS X scope M own G.heap.objs.size G (upd Z O.heap.objs.size (.lst [])) fp) rfl rfl rfl hc i [] s5 Bx H5 _ I5 (uy Aq) wo stop) λr s6 Y=>?_
   obtain⟨hr,I6⟩:=Y;subst hr;obtain⟨m6,n6,_⟩:=I6.loc;refine hR _ _ H5 s6 m6 n6 (λnK hs=>OR I3 f3 I6 hs) (iz I3.lt) (λx c e=>?_) (by rw[e3,kS];exact qd _) I6.free qn;obtain⟨v,z⟩:=I3.cell x c e;exact cc z.lt
  .refine a9 (T.item (eS X scope M own G.heap.objs.size G (upd Z O.heap.objs.size (.lst [])) fp) rfl rfl rfl hc i [] s5 Bx H5 _ I5 (uy Aq) wo go) λr s6 Y=>?_
   obtain⟨u,hr,h6⟩:=Y;subst hr;refine a9 h6 λ_ s7 Y=>?_
   obtain⟨x,H7,I7,r7,y7,EI,Ui⟩:=Y;have To:=I7.pinned (uy Ui) (T.obj _ _ EI);refine a9 (hg _ _ _ _ _ s7 Bx H7 x u _ To r7 (step x H7 y7)) λ_ s8 Y=>?_
   obtain⟨uS,H8,I8,q8⟩:=Y;refine a9 (ht _ _ _ _ _ s8 uS H8 _ I8 q8) λc s9 Y=>?_
   obtain⟨H9,I9,q9⟩:=Y;have again:∀{we:fu} {ve:Hp},Inv (eS X scope M own G.heap.objs.size G (upd Z O.heap.objs.size (.lst [])) fp) ([]++c7 fp s7.heap) uS ve we->(∃af,af<n/\W (i+1) af uS ve)->
     ∃m,m<n/\∃i σ' aa,Inv (eS X scope M own G.heap.objs.size G (upd Z O.heap.objs.size (.lst [])) fp) [] σ' aa we/\tn i we.heap/\(∀b∈fp,aa b=a0)/\W i m σ' aa:=λ {we ve} xi Y=>by
    obtain⟨af,hm,EO⟩:=Y;refine⟨af,hm,i+1,uS,ve,xi.Bv,T.keep _ _ _ EI λb U o e=>(xi.pin (b,o) (iy _ (iy _ (R5 U e)))).1,λb U=>?_,EO⟩;obtain⟨o,e,d⟩:=T.obj _ _ EI b U;exact(xi.pin (b,o) (iy _ (iy _ (R5 U e)))).2.1
   cases c with
   | false=>
    rw[ak eJ]at q9 ⊢;exact again I9 q9
   | true=>
    rw[ah rfl]at q9 ⊢;refine a9 (he _ _ _ _ _ s9 uS H9 _ I9 q9) λy we Y=>?_
    obtain⟨z,ve,xi,XW,XT⟩:=Y;obtain⟨ys,eD,hz,af,hm,EO⟩:=XT;refine a9 (YQ _ we uS ve (.ref O.heap.objs.size) [z] (.ref O.heap.objs.size) [y] (λ_ GW=>W (i+1) af uS GW) xi rfl (.cons XW .nil) ⟨_,ys,z,rfl,rfl,eD,hz,EO⟩) λ_ aaS Y=>?_
    obtain⟨_,GW,Tj,_,XU⟩:=Y;exact again Tj ⟨af,hm,XU⟩
 exact codeAny_compStart_list (loop _ rfl) (T.self _ 0 _ _ _ Kt (loop _ rfl))
theorem Nt(B:ij X scope M own)(hc:X.calm=cf)(hi:PI X tg iter wi)(hg:∀C bu cE ex,PG (eS X scope M own C bu cE ex) tg g)(ht:∀C bu cE ex,nh (eS X scope M own C bu cE ex) ifs tt)(he:∀C bu cE ex,PE (eS X scope M own C bu cE ex) elt te)(hs:∀x,I0 iter X.env x=pure x:=by intro _;rfl):PE X (.ListComp elt [⟨tg,iter,ifs,0⟩] scope pos) (m8 wi own.length g tt te):=by
 intro pi s σ H Q I h;rw[eval_ListComp];have Dl:closureFor scope X.env=pure (LK X.env.cells scope.names []):=V6 λy Z e=>by
  obtain⟨c,q⟩:=I.ok.has y.1 (.inl (B.C3 y Z e));rw[q];rfl
 refine wpAny_comprehension_free (use:=a0) rfl hs Dl B.kind B.Ew (e9 (hi pi s σ H _ I h) (λxv bc G=>e9 G (λAU c8 U=>?_) λ_ _ e=>e) λ_ _ e=>e);obtain⟨it,fp,tn,J,H2,rfl,I2,T,st,f2,q2⟩:=U;refine wD (RR:=λO C=>compPost (gx X.prog X.w) X.A X.xe a0 (EP X pi σ Q) O C) B hc hg ht he I2 T st f2 q2 λD C aa s' m hn hI _ _ _ _ q=>?_
 exact⟨m,hn,λY D5=>⟨.ref D,aa,hI Y D5,rfl,q⟩⟩
theorem Nf{y:Str}{O sQ:Pos}(hN:X.N.Nodup)(yd:X.N[i]?=aV y)(Y:X.env.scope.names.lookup y=aV .local)(B:ij X scope M own)(hc:X.calm=cf)(hi:PI X tg iter wi)(hg:∀C bu cE ex,PG (eS X scope M own C bu cE ex) tg g)(ht:∀C bu cE ex,nh (eS X scope M own C bu cE ex) ifs tt)(he:∀C bu cE ex,PE (eS X scope M own C bu cE ex) elt te)(yn:swapsWith (.ListComp elt [⟨tg,iter,ifs,0⟩] scope pos) (aV (.Name y O)) sQ.line X.env=pure cf:=by rfl)(hs:∀x,I0 iter X.env x=pure x:=by intro _;rfl):PS X (.Assign [.Name y O] (.ListComp elt [⟨tg,iter,ifs,0⟩] scope pos) sQ) (zq (m8 wi own.length g tt te) (cL i)):=by
 intro pi s σ H D I h;have Dl:closureFor scope X.env=pure (LK X.env.cells scope.names []):=V6 λy Y e=>by
  obtain⟨c,q⟩:=I.ok.has y.1 (.inl (B.C3 y Y e));rw[q];rfl
 rw[exec_Assign_Name_used _ _ _ _ yn];refine ab (wpAny_standAt (ab ?_));show fj _ X.A (do let _ <-comprehension (.ListComp elt [⟨tg,iter,ifs,0⟩] scope pos) scope X.env _ (newList []) en (eval iter X.env) (aV (assign (.Name y O) X.env))) _ _ s;refine ab (e9 (wpAny_comprehension_free (use:=aV (assign (.Name y O) X.env)) (Q:=λ_ G=>SP X pi D .next G) rfl hs Dl B.kind B.Ew
  (e9 (hi pi s σ H _ I h) (λxv bc U=>e9 U (λAU c8 qy=>?_) λ_ _ e=>e) λ_ _ e=>e)) (λ_ G hq=>ag (ag hq)) λ_ _ e=>e)
 obtain⟨it,fp,tn,J,H2,rfl,I2,T,st,f2,q2⟩:=qy;refine wD (Q:=λx H1=>cL i x σ H1 D.nx) (RR:=λZ C=>compPost (gx X.prog X.w) X.A X.xe (aV (assign (.Name y O) X.env)) (λ_ G=>SP X pi D .next G) Z C) B hc hg ht he I2 T st f2 q2 λL C aa G m hn hI HG HH b8 sr q=>?_
 show fj _ X.A (assign (.Name y O) X.env (.ref L)) _ _ _;have iX:=hI G.heap (.refl ..);refine wpAny_assign_Name (fJ iX hN yd (.inl Y) (v:=.ref L) rfl (λza Ti Wj=>?_) (.inr Y));obtain⟨a,sb,ha⟩:=Wj;have UD:C≠a:=by
  rcases ha with e | e
  .rw[e];exact HG
  .exact λz=>HH y a e z.symm
 refine⟨m,hn.sameBut sb UD,λnK D5=>⟨_,aa,?_,q⟩⟩;refine Ti.turned (it:=C) (t':=za.toks) (λb o hb e=>(D5.2 b hb).trans e) sr HG (.inr ?_) HH λp hp z=>?_
 .exact fN I2.sz (mf b8)
 .have:=(I2.pin p hp).1
  rw[z]at this;exact absurd (bg this) (Nat.not_lt.mpr (mf b8))
end
theorem bI{ys:List Str}:∀{us:List Value},Vals (ys.map V.str) us->StrsAre us ys:=by
 induction ys with
 | nil=>intro us r;cases r;exact .nil
 | cons y ys C=>
  intro us r;cases r with
  | cons r t=>
   obtain⟨B,rfl⟩:=r;exact .cons y B (C t)
theorem Y9(h:StrsAre vs ss):Vals (ss.map V.str) vs:=by
 induction h with
 | nil=>exact .nil
 | cons x t h B=>exact .cons ⟨t,rfl⟩ B
def rJoin(K:p5):V->List V->Hp->VK->Prop:=λx vs H Q=>∃B a ys,x=.str B/\vs=[.ref a]/\cg K H a (ys.map V.str)/\(ys.map (·.length)).sum+ys.length*B.length<=16777216/\Q (.str (Txt.join B ys)) H
theorem NL:Af X "str.join" (rJoin X.K):=by
 intro pi s σ H x vs v us Q I B C h;obtain⟨sep,a,ys,rfl,rfl,O,aS,q⟩:=h;obtain⟨t,rfl⟩:=B;obtain⟨u,rfl,G⟩:=C.one;cases G;obtain⟨its,r,p,U⟩:=I.list O;refine join_list p.isList (ys:=ys) (by simpa using bI r) aS λt' k=>⟨.str _,H,I.tok k,⟨t',rfl⟩,q⟩
def Cg:V->Option Int->Option Int->Hp->VK->Prop:=λx lo hi H Q=>∃z,x=.str z/\z.length<=sizeLine/\Q (.str (StrLaws.sliceText z lo hi)) H
theorem part_of{v:Value}{o:Option Int}(p:IsPart v o):∃q:Option (Int×Tok),v=partValue q/\q.map (·.1)=o:=by
 cases p with
 | none=>exact⟨a0,rfl,rfl⟩
 | int i t=>exact⟨aV (i,t),rfl,rfl⟩
theorem Pp:pV X Cg:=by
 intro pi s σ H x v vl vu lo hi sl Q I C hs pl G h;obtain⟨z,rfl,O,q⟩:=h;obtain⟨t,rfl⟩:=C;obtain⟨ql,rfl,el⟩:=part_of pl;obtain⟨B,rfl,Z⟩:=part_of G;refine⟨"str",_,F.slot_str_getitem.lookup,typeIs_str s z t,?_⟩;refine wpAny_getItem_str_slice (l:=ql) (u:=B) (st:=a0) ?_ (by rfl) ?_
 .obtain⟨o,U,Y,hd⟩:=hs
  exact⟨o,U,Y,hd⟩
 .unfold sliceMade
  have e:StrLaws.sliceText z lo hi=if (((a0:Option (Int×Tok)).map (·.1)).getD 1==1&&(slicePicked z ql B a0).length==z.length)=cf then z else ⟨((slicePicked z ql B a0).filterMap (z.cps[·]?)).toArray⟩:=by
   unfold StrLaws.sliceText slicePicked;rw[el,Z];rfl
  rw[e]at q;split
  .rename_i c
   rw[ah c]at q;exact⟨.str z,H,I,⟨t,rfl⟩,q⟩
  .rename_i c
   rw[ak c]at q;refine⟨?_,.str _,H,I.tok _,⟨_,rfl⟩,q⟩;show (List.filterMap _ (slicePicked z ql B a0)).toArray.size<=sizeLine;rw[dw];exact fN (fN (List.length_filterMap_le _ _) (sliceIndices_le _ _ _)) O
def PZ(K:p5):V->List V->Hp->VK->Prop:=λx vs H Q=>∃a xs y,x=.ref a/\vs=[y]/\cg K H a xs/\RB y=cf/\xs.all RB=cf/\xs.length<1000/\
 uj y xs=cf/\∀j:Nat,j<xs.length->(∃z,xs[j]?=aV z/\gN z y=cf)->(∀i z,i<j->xs[i]?=aV z->gN z y=en)->Q (.int j) H
theorem gJ{α:Type}(e:α->Bool):∀l:List α,l.any e=cf->∃j,∃h:j<l.length,e l[j]=cf/\∀m (B:m<l.length),m<j->e l[m]=en
 | [],h=>by simp at h
 | a::r,h=>by
  by_cases C:e a=cf
  .exact⟨0,by simp,by simpa using C,λm _ B=>absurd B (ki _)⟩
  .have G:r.any e=cf:=by
    rw[List.any_cons,Bool.or_eq_true]at h;exact h.resolve_left C
   obtain⟨j,O,Y,U⟩:=gJ e r G;refine⟨j+1,by simpa using O,by simpa using Y,λm B Z=>?_⟩;cases m with
   | zero=>simpa using C
   | succ m=>simpa using U m (by simpa using B) (by lia)
theorem Ls:Af X "list.index" (PZ X.K):=by
 intro pi s σ H x vs v us Q I rx rv h;obtain⟨a,xs,y,rfl,rfl,hq,fy,C,hn,dr,q⟩:=h;cases rx;obtain⟨u,rfl,ru⟩:=rv.one;obtain⟨its,r,⟨o,n,ho,hc,hd,gu⟩,hz⟩:=I.list hq;have hl:=r.length;have UI:its.any (jd y)=cf:=by rw[XJ r C];exact dr
 obtain⟨j,hj,U,h2⟩:=gJ (jd y) its UI;obtain⟨oc,od,aaK,qS⟩:=o;simp only at hc hd gu;subst hc hd gu;have hs:its.toArray.size=its.length:=by simp
 refine call_meets F.slot_list_index ⟨_,ho,rfl⟩ F.entry_list_index (F.args_list_index_2 _ _) (SeqAt.list_indexAt a its.toArray n a0 qS u (jd y) j (by simpa using hj) (by omega) (by simpa using U) (λm hm b8=>by
  have:=h2 m (by simpa using hm) b8;simpa using this)) ⟨ho,λw B=>?_,?_⟩
 .exact SQ ru fy r C w (by simpa using B)
 .refine⟨.int j,H,I.tok _,⟨_,rfl⟩,q j (by omega) ?_ λi z hi Z=>?_⟩
  case refine_2=>
   obtain⟨w,B,G⟩:=r.get Z;have Y:i<its.length:=by omega
   have e:its[i]=w:=by
    have:its[i]?=aV its[i]:=by simp[Y]
    rw[B]at this;exact(b5 this).symm
   have h3:=h2 i Y hi;rw[e,kJ G (nq C _ (gL Z))]at h3;exact h3
  have O:xs[j]?=aV xs[j]:=by simp[show j<xs.length by omega]
  obtain⟨w,B,G⟩:=r.get O;refine⟨_,O,?_⟩;have e:its[j]=w:=by
   have:its[j]?=aV its[j]:=by simp[hj]
   rw[B]at this;exact(b5 this).symm
  rw[e,kJ G (nq C _ (gL O))]at U;exact U
theorem eV(hc:X.calm=cf):gc X (.builtin "max") (λxs H Q=>∃(a:Addr) (ns:List Int),xs=[.ref a]/\cg X.K H a (ns.map V.int)/\0<ns.length/\∀M,M∈ns->(∀a,a∈ns->a<=M)->Q (.int M) H):=by
 intro pi s σ H xs us Q I r h;obtain⟨a,ns,rfl,hq,hn,q⟩:=h;obtain⟨u,rfl,Y⟩:=vals1 r;cases Y;obtain⟨its,U,p,hz⟩:=I.list hq;have hi:IntsAre its ns:=intsAre_of U;obtain⟨xs,e⟩:=hi.allInts.items;have B:ns=xs.toList.map (·.1):=by rw[<-hi.numsOf,<-nums_intItems,<-e]
 have C:0<xs.size:=by
  have O:=hn;rw[B,a6,di]at O;exact O
 have pl:=p.isList;rw[e]at pl;refine max_intList (I.ok.hd hc) pl C λv h' tk Z hk=>?_
 obtain⟨t,rfl⟩:=intItems_at Z;obtain⟨h1,h2⟩:=argBest_gt (numAt xs) (xs.size-1);refine⟨.int _,H,I.kept hk,⟨t,rfl⟩,q _ ?_ λa G=>?_⟩
 .rw[B,numAt_eq];exact getD_mem (by rw[a6,di];omega)
 .rw[B]at G
  obtain⟨j,hj,rfl⟩:=mem_getD G;rw[a6,di]at hj;rw[<-numAt_eq];exact h2 j (by omega)
section
variable{p:Addr}{o:HO}
theorem Inv.Ku(I:Inv X pi σ H s)(C:∀b∈fp,O7 X pi H b)(k:∀b ob,b∉fp->s.heap.get? b=aV ob->h'.get? b=aV ob):Inv X pi σ H { s with heap:=h',toks:=t' }:=by
 refine I.step (g':=s.gens) (d':=s.drawn) (ch:=fp) (λb U=>?_) (λb ob _ _ B e _=>k b ob B e) (λb ob _ _ B e _=>⟨ob.slots,k b ob B e⟩) (λ_ _ _ _ n=>n) (λb ob B e=>⟨ob,k b ob B e⟩) (λ_ _ e=>e) (λ_ _ _ e=>e) (λb ps e=>⟨#[],by rw[e];simp⟩) (λm O=>?_) (λb u e=>?_) I.bare
 .obtain⟨_,f1,_,f3,Z,Y⟩:=C b U
  exact⟨f3,f1,Z,Y⟩
 .obtain⟨ob,es,ep,G,r⟩:=O
  exact⟨ob,es,ep,k _ ob (λz=>(C _ z).2.1 rfl) G,r⟩
 .refine(I.aS b u e).ig (λc v B q=>k c v (λz=>?_) q) (λ_ q=>q) λ_ _ q=>q
  have n:=(C c z).1;rcases B with rfl | B
  .rw[n]at e;cases e
  .rw[n]at B;cases B
theorem Inv.Kv(I:Inv X pi σ H s)(G:∀b∈fp,O7 X pi H b)(k:∀b ob,b∉fp->s.heap.get? b=aV ob->h'.get? b=aV ob)(hp:s.heap.objs.size<=p)(new:dS X.prog X.w (upd H p o) h' p o):
  Inv X pi σ (upd H p o) { s with heap:=h',toks:=t' }:=by
 have U:=I.aS.fresh hp;have up:∀b u,H b=aV u->upd H p o b=aV u:=λb u e=>by rw[CJ (FZ e U)];exact e
 refine I.step (g':=s.gens) (d':=s.drawn) (ch:=fp) (λb C=>?_) (λb ob _ _ B e _=>k b ob B e) (λb ob _ _ B e _=>⟨ob.slots,k b ob B e⟩)
  (λb ob _ e n=>by rw[CJ (cc (iq (bg e) hp))];exact n) (λb ob B e=>⟨ob,k b ob B e⟩) (λb xs e=>up b _ e) (λb u xs e=>up b _ e) (λb ps e=>⟨#[],by rw[up b _ e];simp⟩) (λm Y=>?_) (λb u e=>?_) I.bare
 .obtain⟨_,f1,_,f3,f4,Z⟩:=G b C
  exact⟨f3,f1,f4,Z⟩
 .obtain⟨ob,es,ep,O,r⟩:=Y
  exact⟨ob,es,ep,k _ ob (λz=>(G _ z).2.1 rfl) O,r⟩
 .by_cases C:b=p
  .subst C;rw[CT]at e;cases e;exact new
  .rw[CJ C]at e
   refine(I.aS b u e).ig (λc v B q=>k c v (λz=>?_) q) (λc q=>up c _ q) λc xs q=>up c _ q
   have n:=(G c z).1;rcases B with rfl | B
   .rw[n]at e;cases e
   .rw[n]at B;cases B
theorem Og(C:∀b∈fp,H b=a0)(G:∀b∈fp,b<p):∀b∈fp,upd H p o b=a0:=λb B=>by
 rw[CJ (cc (G b B))];exact C b B
end
noncomputable def GY(K:p5)(a:Addr):It:=
 ⟨λi H=>∃xs x,cg K H a xs/\xs[i]?=aV x,λi H x aa=>∃p y,H p=a0/\x=.ref p/\(∃o:Obj,o.cls=.type "tuple"/\o.dict=a0/\aa=upd H p (.bp o (.tup [.int i,y])))/\∀xs,cg K H a xs->xs[i]?=aV y,λi H=>∃xs,cg K H a xs/\xs.length<=i⟩
theorem wV{k:Nat}(a e it:Addr)(dq:e≠it):
  Turn P w K (.Tuple elts k pos) (GY K a) [e,it] e (λi h=>(∃B,IsEnum h e it i B)/\h.IsListIter it a i) where
 mem:=by simp
 obj:=λi h st b C=>by
  obtain⟨⟨B,G⟩,o,ho,hc,hd⟩:=st;rcases cq C with rfl | C
  .exact⟨_,G,λv z=>by cases z⟩
  .have:b=it:=by simpa using C
   subst this;exact⟨o,ho,λv z=>by rw[hd]at z;cases z⟩
 keep:=λi h h' st k=>⟨let ⟨B,G⟩:=st.1;⟨B,k e (by simp) _ G⟩,st.2.at λo q=>k it (by simp) o q⟩
 item:=by
  intro X hP hw hK hc i pi s σ H E I U st hg;subst hP hw hK;obtain⟨xs,x,O,Z⟩:=hg;obtain⟨its,Y,p,hz⟩:=I.list O;obtain⟨u,hu,ru⟩:=Y.get Z;obtain⟨⟨B,G⟩,hit⟩:=st;refine wpAny_pyNext_enum_item G hit p.isList (x:=u) (by simpa using hu) dq λh1 vv Vo Wn cv i3=>⟨_,rfl,?_⟩
  refine wpAny_letOwnedTupleGo_enum (s:={ s with heap:=h1,toks:=s.toks+1 }) vv λh2 Vc c6=>?_
  have elt:e<s.heap.objs.size:=bg G;have WC:it<s.heap.objs.size:=by obtain⟨_,q,_⟩:=hit;exact bg q
  have ju:∀b ob,b∉[e,it]->s.heap.get? b=aV ob->h2.get? b=aV ob:=λb ob C q=>by
   have h3:b≠e:=λz=>C (by simp[z])
   have h4:b≠it:=λz=>C (by simp[z])
   exact c6.extBut b ob h3 (i3 b ob h3 h4 q)
  have Jc:h2.get? s.heap.objs.size=aV { cls:=.type "tuple",data:=.seq #[.int i s.toks,u] }:=c6.extBut _ _ (iz elt) Wn;have I2:Inv X pi σ (upd H s.heap.objs.size (.bp { cls:=.type "tuple",data:=.seq #[.int i s.toks,u] } (.tup [.int i,x]))) { s with heap:=h2,toks:=s.toks+1 }:=
   I.Kv (fp:=[e,it]) (o:=.bp { cls:=.type "tuple",data:=.seq #[.int i s.toks,u] } (.tup [.int i,x])) U ju (a8 _) ⟨Jc,by show 2<=sizeLine;decide,[.int i s.toks,u],.cons ⟨_,rfl⟩ (.cons ru .nil),⟨_,Jc,rfl,_,rfl⟩⟩
  refine⟨.ref s.heap.objs.size,_,I2,rfl,⟨_,x,I.aS.fresh (a8 _),rfl,⟨_,rfl,rfl,rfl⟩,λys hy=>by rw[I.Jv hy O];exact Z⟩,⟨⟨u,?_⟩,?_⟩,?_⟩
  .exact Vc
  .exact Vo.extBut c6.extBut (Ne.symm dq)
  .refine Og (λb C=>(U b C).1) λb C=>?_
   rcases cq C with rfl | C
   .exact elt
   .have:b=it:=by simpa using C
    subst this;exact WC
 done:=by
  intro X hP hw hK hc i pi s σ H E I U st hg;subst hP hw hK;obtain⟨xs,O,Z⟩:=hg;obtain⟨its,Y,p,hz⟩:=I.list O;obtain⟨⟨B,G⟩,hit⟩:=st;have hl:=Y.length;exact wpAny_pyNext_enum_end (I.ok.hd hc) G hit p.isList (by simp;lia) λh1 eb=>⟨rfl,I.Ku (t':=s.toks) (fp:=[e,it]) U λb ob C q=>eb b ob (λz=>C (by simp[z])) q⟩
 self:=λA i s Q E st h=>let ⟨B,G⟩:=st.1;wpAny_pyIter_enum G h
def Sn(K:p5)(ta:TA):TI:=λ σ H R=>ta σ H λvs B=>∃a,vs=[.ref a]/\(∃xs,cg K B a xs)/\R (GY K a) B
theorem Nk{l:Expr}{ta:TA}{pt:Pos}{k:Nat}(hg:Gl X "enumerate")(hm:X.mg "enumerate" = a0)(ha:PA X [l] ta)(hs:gm [l] X.env=[(en,eval l X.env)]:=by rfl):
  PI X (.Tuple elts k pt) (.Call (.Name "enumerate" p) [l] [] pos) (Sn X.K ta):=by
 intro pi s σ H R I h;refine Call_ (K4 I hg hm boot_enumerate (l5 (a9 (ha pos pi s σ H _ I h) λus s1 ai=>?_) hs rfl));obtain⟨vs,U,B,Z,q1⟩:=ai;obtain⟨a,rfl,⟨xs,hq⟩,q⟩:=q1;obtain⟨u,rfl,Y⟩:=Z.one;cases Y;obtain⟨its,rv,pl,hz⟩:=B.list hq;refine call_enumerate_list pl.isList λh' O hi hsz hk=>?_
 refine wpAny_pyIter_enum O ?_;have I2:Inv X pi σ U { s1 with heap:=h' }:=B.kept (t':=s1.toks) hk;refine⟨_,[s1.heap.objs.size+1,s1.heap.objs.size],_,_,U,rfl,I2,wV a _ _ (Nat.succ_ne_self _),⟨⟨_,O⟩,hi⟩,λb C=>?_,q⟩;have G:s1.heap.objs.size<=b:=by
  rcases cq C with rfl | C
  .exact oo _
  .have:b=s1.heap.objs.size:=by simpa using C
   rw[this];exact a8 _
 exact B.qj G (B.aS.fresh G)
end L2
namespace PySem
open Sem (wp)
open AutoSeq1 (wpAny_loadPart')
namespace F
end F
theorem ZF{Q:Option Value->fu->Prop}(B:A.handled=a0)(hk:Heap.ExtBut it h s.heap)(C:∀h',Heap.ExtBut it h h'->Q a0 { s with heap:=h' }) :
  fj (gx prog w) A.in1 (Builtin.SmallTypes.stopIteration:Sem α) (λ_ _=>False)
   (λe s'=>fj (gx prog w) A (match (Except.error e:Except Value (Option Value)) with
    | .ok (aV v)=>pure (aV v)
    | .ok a0=>unsupported "iter:the-iterator's-class-has-lost-its-__next__-amid-the-walk"
    | .error e=>do if <-isInstance e (.type "StopIteration") then pure a0 else throw e) Q E s') s:=by
 unfold Builtin.SmallTypes.stopIteration;refine ab ?_;simp only[newExc,newTuple];refine ab (kn ?_ (by size_fits));refine ab (m:=firstArgMember _ _) (wpAny_of_eq (a:=ye) (by first | rfl | (simp only[firstArgMember];rfl)) ?_);refine kn ?_ (by size_fits);simp only[raiseNew];refine ab (wpAny_handled ?_);rw[show A.in1.handled=a0 from B];refine ab (ag (wpAny_throw ?_));refine ab (zk (T:="StopIteration") (b:=cf) ⟨_,dm _ rfl,rfl⟩ isSubtype_stop ?_);exact ag (C _ ((hk.push _).push _))
end PySem
namespace PySem
open Sem (wp)
namespace F
theorem TZ:typeLookup (.type "tuple") (fi "keys")=pure a0:=by rw[rX,r6];kernel_rfl
end F
theorem yI{o:Obj}{xs:Array Value}{k:Nat}{Q:Option Value->fu->Prop}(O:s.heap.get? a=aV o)(U:o.cls=.type "tuple")(Z:o.data=.seq xs k)(hd:o.dict=a0)(hA:A.handled=a0)(h:∀h' B,(∀b ob,s.heap.get? b=aV ob->h'.get? b=aV ob)->Q a0 { s with heap:=h',toks:=B }):fj (gx prog w) A (getAttr? (.ref a) "keys") Q E s:=by
 obtain⟨c,ao,dat,sl⟩:=o;simp only at U Z hd;subst U Z hd;obtain⟨hp,g,d,B,os⟩:=s;have Y:∀C,(⟨hp,g,d,C,os⟩:fu).TypeIs (.ref a) "tuple":=λ_=>⟨_,O,rfl⟩
 have f1:=sub_AttributeError;have f3:=F.slot_tuple_getattribute.lookup;have f4:=F.slot_tuple_getattribute.bind (.ref a);have f5:=am_tuple_getattr_none;have n1:(["__module__","__name__","__qualname__","__doc__","__annotations__"]:List Str).contains (fi "keys")=en:=by decide +kernel
 have n2:(fi "keys").length+100<=sizeLine:=by decide +kernel
 unfold getAttr? getAttrBy? getAttrBy
 repeat (any_goals (first | assumption | exact Y _ | ((with_reducible show fj _ _ (call (Value.builtin "tuple.__getattribute__") _ _) _ _ _);refine call_meets F.slot_tuple_getattribute (Y _) am_entry_tuple_getattribute (F.args_tuple_getattribute_2 _ _) (meets_getattribute_miss_tuple a xs k sl (fi "keys") _ F.TZ n1 n2) ⟨O,hA,λh' C e G=>?_⟩) | wp_step))
 obtain⟨t',iu,he⟩:=G.there;show fj _ _ (getattributeRaised _ _ _ _ _ _ _) _ _ _;unfold getattributeRaised
 repeat (any_goals (first | assumption | wp_step))
 exact h _ _ G.keeps
namespace F
theorem ro:plainId "dict.update.loop" = cf:=by decide +kernel
theorem Am:entryFor table "dict.update.loop" = aV Builtin.«dict.update.loop»:=entryFor_of_tree (by kernel_rfl)
end F
section
variable{K:Type}[DecidableEq K]{knd:KeyKind prog w K}
def ja(knd:KeyKind prog w K)(h:Heap):List Value->List (K×Value)->Prop:=Paired λu p=>∃a key,u=gg a/\knd.is p.1 key=cf/\vp h a #[key,p.2]
theorem ja.keep{ps:List (K×Value)}{d:Addr}(x:ja knd h us ps)(hd:∀u∈us,u≠.ref d/\u≠.ref it)(k:∀b o,b≠d->b≠it->h.get? b=aV o->h'.get? b=aV o):ja knd h' us ps:=by
 induction x with
 | nil=>exact .nil
 | cons q t B=>
  obtain⟨a,key,e,hk,o,G,O⟩:=q;refine .cons ⟨a,key,e,hk,o,k _ _ ?_ ?_ G,O⟩ (B λu C=>hd u (bx _ C))
  .rintro rfl;exact(hd _ bw).1 e
  .rintro rfl;exact(hd _ bw).2 e
theorem fH(kvs:List (K×Value))(k:K)(v:Value):(stored kvs k v).length<=kvs.length+1:=by
 unfold stored;split
 .rw[a6];lia
 .rw[fA,nI];lia
theorem OA{d t:Addr}(hh:A.handled=a0)(Dr:d≠t)(hit:it≠t)(ua:d≠it)(jw:∀u∈us,u≠.ref d/\u≠.ref it)(hz:us.length<=1000):
  ∀(n i:Nat) (s:fu) (ps:List (K×Value)) (kvs:List (K×Value)),us.length-i=n->i<=us.length->s.heap.IsTupleIter it t i->vp s.heap t us.toArray->ja knd s.heap (us.drop i) ps->s.heap.DictOf knd d kvs->kvs.length+ps.length<=2000->
   (∀h' tk,h'.DictOf knd d (ps.foldl (λacc p=>stored acc p.1 p.2) kvs)->(∀b o,b≠d->b≠it->s.heap.get? b=aV o->h'.get? b=aV o)->R (.ok (.ret .none)) { s with heap:=h',toks:=tk })->
   codeAny (gx prog w) A (.builtin "dict.update.loop" ⟨[.ref d,.ref it,qf i,.none],[]⟩) R s:=by
 intro n
 induction n with
 | zero=>
  intro i s ps kvs hn hi hI hT Z hD hl hR;refine jc F.Am ?_;rw[j3 F.ro _];unfold Builtin.«dict.update.loop»;have DU:us.drop i=[]:=List.drop_eq_nil_of_le (by lia);rw[DU]at Z;cases Z;refine ab (wpAny_pyNext_tuple_end (A:=A.in1) hh hI (show s.heap.IsTuple t us.toArray from hT) (by simp;lia) λh' hk=>?_);refine ab (m:=Builtin.Dict.addKeywords d []) (ag ?_);refine ag (hR h' s.toks ?_ λb o _ O e=>hk b o O e);obtain⟨o,es,ep,B,r⟩:=hD;exact⟨o,es,ep,hk _ _ ua B,r⟩
 | succ n ih=>
  intro i s ps kvs hn hi hI hT Z hD hl hR;refine jc F.Am ?_;rw[j3 F.ro _];unfold Builtin.«dict.update.loop»;have b8:i<us.length:=by lia
  have Dq:us.drop i=us[i]::us.drop (i+1):=List.drop_eq_getElem_cons b8;rw[Dq]at Z;cases Z with
  | @cons u p EN qV q rest=>
  obtain⟨a,key,ea,hk,ha⟩:=q;have kU:=jw us[i] (List.getElem_mem b8);refine ab (wpAny_pyNext_tuple_item hI (show s.heap.IsTuple t us.toArray from hT) (x:=us[i]) (by simp[b8]) λC kT cv=>?_);have Dk:vp C a #[key,p.2]:=let ⟨o,B,G⟩:=ha;⟨o,(cv.2 a (λz=>kU.2 (by rw[ea,z]))).trans B,G⟩
  have xF:vp C t us.toArray:=let ⟨o,B,G⟩:=hT;⟨o,(cv.2 t (Ne.symm hit)).trans B,G⟩
  have C9:C.DictOf knd d kvs:=let ⟨o,es,ep,B,r⟩:=hD;⟨o,es,ep,(cv.2 d ua).trans B,r⟩
  have Dg:ja knd C (us.drop (i+1)) qV:=ja.keep (d:=d) (it:=it) rest (λu hu=>jw u (List.mem_of_mem_drop hu)) λb o _ O e=>(cv.2 b O).trans e
  dsimp only;rw[ea];refine ab (fg ?_);have U:fj (gx prog w) A.in1 (Builtin.Dict.pairItems (.ref a)) (λl s'=>l=[key,p.2]/\s'={ s with heap:=C }) (λ_ _=>False) { s with heap:=C }:=by
   obtain⟨o,B,G,m,hd⟩:=Dk;unfold Builtin.Dict.pairItems;refine ab (vz (T:="tuple") ⟨o,B,G⟩ ?_);rw[ah (by simp)];refine ab (D4 B hd (ag ⟨by simp,rfl⟩))
  refine ab (wpAny_tryCatch (e9 U (λl s' DE=>?_) λ_ _ f=>f.elim));obtain⟨rfl,rfl⟩:=DE;have Y:kvs.length<=sizeLine:=by rw[fS];lia
  refine fg (wpAny_dictSet_pairs (s:={ s with heap:=C }) hk C9 (λh2 Dc c6=>?_) Y);refine ag ⟨rz F.ro _,?_⟩;have ei:(i:Int)+1=((i+1:Nat):Int):=by lia
  rw[ei];have ju:∀b o,b≠d->C.get? b=aV o->h2.get? b=aV o:=λb o O e=>(c6.2 b O).trans e
  refine ih (i+1) { s with heap:=h2,toks:=s.toks+1 } qV (stored kvs p.1 p.2) (by lia) (by lia) (kT.at λo e=>ju it o (Ne.symm ua) e) (let ⟨o,B,G⟩:=xF;⟨o,ju t o (Ne.symm Dr) B,G⟩)
   (ja.keep (d:=d) (it:=it) Dg (λu hu=>jw u (List.mem_of_mem_drop hu)) λb o O _ e=>ju b o O e) Dc ?_ λh' tk C8 dC=>?_
  .have:=fH kvs p.1 p.2
   rw[hJ]at hl;lia
  .exact hR h' tk C8 λb o xN xS e=>dC b o xN xS (ju b o xN ((cv.2 b xS).trans e))
end
end PySem
namespace PySem
open Sem (wp)
section
variable{K:Type}[DecidableEq K]{knd:KeyKind prog w K}
theorem ja.mem{ps:List (K×Value)}(x:ja knd h us ps):∀u∈us,∃a,u=.ref a/\a<h.objs.size:=by
 induction x with
 | nil=>intro u B;cases B
 | cons q _ G=>
  intro u B;rcases cq B with e | e
  .subst e
   obtain⟨a,key,rfl,_,ob,C,_⟩:=q;exact⟨a,rfl,bg C⟩
  .exact G u e
theorem OB{t:Addr}{o:Obj}{m:Nat}{ps:List (K×Value)}(hh:A.handled=a0)(ho:s.heap.get? t=aV o)(hc:o.cls=.type "tuple")(hd:o.dict=a0)(gu:o.data=.seq us.toArray m)(hP:ja knd s.heap us ps)(hz:us.length<=1000)(UO:t4<s.heap.objs.size)(h:∀h' tk,h'.DictOf knd s.heap.objs.size (ps.foldl (λacc p=>stored acc p.1 p.2) [])->(∀b ob,s.heap.get? b=aV ob->h'.get? b=aV ob)->Q (.ref s.heap.objs.size) { s with heap:=h',toks:=tk }) :
  fj (gx prog w) A (call (.type "dict") [.ref t]) Q E s:=by
 refine callType_codes (Q₁:=λobj bc=>obj=.ref s.heap.objs.size/\bc={ s with heap:=s.heap.push { cls:=.type "dict",data:=.dict #[] } }) F.kt_called_dict (F.kt_typeCall_dict_1 _) F.entry_dict_init (kt_code_dict_new _ ⟨rfl,rfl⟩) ?_;rintro obj bc ⟨rfl,rfl⟩;have C:(s.heap.push { cls:=.type "dict",data:=.dict #[] }).DictOf knd s.heap.objs.size []:=Heap.DictOf.new s.heap;refine⟨C.typeIs,F.args_dict_init_2 _ _,?_⟩;generalize hH:s.heap.push { cls:=.type "dict",data:=.dict #[] }=H1 at C;have O:∀b ob,s.heap.get? b=aV ob->H1.get? b=aV ob:=λb ob e=>by rw[<-hH];exact cx _ e
 have cv:H1.objs.size=s.heap.objs.size+1:=by rw[<-hH,kS]
 have yo:t<s.heap.objs.size:=bg ho;unfold Builtin.«dict.__init__»;refine ab ?_;unfold Builtin.Dict.selfAndRest;refine ab (wpAny_notOrdered_dict C.typeIs ?_);show fj _ _ (pure (s.heap.objs.size,[gg t])) _ _ _;refine ag ?_;show fj _ _ (Builtin.Dict.updateFrom "dict.__init__" s.heap.objs.size (.ref t) [] .none) _ _ _;unfold Builtin.Dict.updateFrom;refine ab (vz (T:="tuple") ⟨o,O _ _ ho,hc⟩ ?_);rw[ah (by decide)];refine ab (yI (s:={ s with heap:=H1 }) (O _ _ ho) hc gu hd (show A.in1.in1.handled=a0 from hh) λB tk G=>?_);rw[ah (by rfl)];refine ab (mE ?_);have sf:vp B t us.toArray:=⟨o,G _ _ (O _ _ ho),hc,m,gu⟩
 refine ab (wpAny_pyIter_tuple (s:={ s with heap:=B,toks:=tk }) (show B.IsTuple t us.toArray from sf) ?_);refine ag ⟨rz F.ro _,?_⟩;have Z:s.heap.objs.size<B.objs.size:=by
  obtain⟨od,_,_,lT,_⟩:=C;exact bg (G _ _ lT)
 have jw:∀u∈us,∃a,u=.ref a/\a<s.heap.objs.size:=λu U=>hP.mem u U
 have k3:∀b ob,B.get? b=aV ob->(B.push { cls:=.type "tuple_iterator",data:=.fields #[.ref t,.int 0 0] }).get? b=aV ob:=λb ob e=>cx _ e
 refine OA (knd:=knd) (A:=A.in1) (it:=B.objs.size) (t:=t) (us:=us) hh (iz yo) (iz (L4 yo Z)) (cc Z) (λu U=>?_) hz us.length 0 _ ps [] (by lia) (eC _) ⟨_,dm _ rfl,rfl,rfl⟩
  (let ⟨ob,e,c⟩:=sf;⟨ob,k3 _ _ e,c⟩) ?_ ?_ ?_ λh' ri hD hk=>?_
 .obtain⟨a,rfl,Y⟩:=jw u U
  exact⟨λz=>by cases z;exact iA _ Y,λz=>by cases z;exact iA _ (L4 Y Z)⟩
 .rw[List.drop_zero]
  refine ja.keep (d:=s.heap.objs.size) (it:=s.heap.objs.size) hP (λu U=>?_) λb ob _ _ e=>k3 _ _ (G _ _ (O _ _ e))
  obtain⟨a,rfl,Y⟩:=jw u U;exact⟨λz=>by cases z;exact iA _ Y,λz=>by cases z;exact iA _ Y⟩
 .obtain⟨od,es,ep,lT,r⟩:=C
  exact⟨od,es,ep,k3 _ _ (G _ _ lT),r⟩
 .have e:us.length=ps.length:=Paired.length hP
  simp only[List.length_nil];lia
 .refine⟨rfl,h h' ri hD λb ob e=>hk b ob (cc (bg e)) (cc (L4 (bg e) Z)) (k3 _ _ (G _ _ (O _ _ e)))⟩
end
end PySem
namespace L2
open PySem PySem.Spec PyProof.Rows
def zH(K:p5)(H:Hp):List V->List (Key×V)->Prop:=Paired λv B=>∃b,v=.ref b/\eP K H b [kV B.1,B.2]
theorem ZX(kvs:List (Key×V)){P:Program}{w:wy}:∀{vs:List (Key×Value)} {acc:List (Key×V)} {B:List (Key×Value)},KV kvs vs->KV acc B->KV (JN acc kvs) (vs.foldl (λa p=>stored a p.1 p.2) B):=by
 induction kvs with
 | nil=>intro vs acc B r C;cases r;exact C
 | cons Y kvs Z=>
  intro vs acc B r C;cases r with
  | @cons a b l1 U q O=>
   obtain⟨k,v⟩:=Y;obtain⟨cb,u⟩:=b;obtain⟨e,G⟩:=q;have e:k=cb:=e;subst e;show KV (JN (putK acc k v) kvs) (U.foldl (λa p=>stored a p.1 p.2) (stored B k u));exact Z O (C.put k G)
theorem Fe(I:Inv X pi σ H s){vs:List V}(h:zH X.K H vs kvs)(g:Vals vs us):∃ps:List (Key×Value),KV kvs ps/\ja (CK X.prog X.w) s.heap us ps:=by
 induction h generalizing us with
 | nil=>cases g;exact⟨[],.nil,.nil⟩
 | @cons v Z _ _ q t ih=>cases g with
  | cons r O=>
   obtain⟨ps,h1,h2⟩:=ih O;obtain⟨b,rfl,hq⟩:=q;cases r;obtain⟨its,G,ht,_⟩:=I.tuple hq;obtain⟨C,B,rfl,Y,U⟩:=G.two;exact⟨(Z.1,B)::ps,.cons ⟨rfl,U⟩ h1,.cons ⟨b,C,rfl,WT Y,ht⟩ h2⟩
end L2
namespace L2
open PySem PySem.Spec PyProof.Rows
theorem V5:∀{vs:List Value} {ss:List Str} {n:Nat},vs.length=n->n=ss.length->(∀(j:Nat) (v:Value),vs[j]?=aV v->∃x t,v=Value.str x t/\ss[j]?=aV x)->StrsAre vs ss
 | [],[],_,_,_,_=>.nil
 | [],_::_,_,B,C,_=>by subst B;simp at C
 | _::_,[],_,B,C,_=>by subst C;simp at B
 | v::vs,x::ss,n,B,C,h=>by
  obtain⟨y,t,rfl,e⟩:=h 0 v rfl;have O:x=y:=b5 e;subst O;refine .cons x t (V5 (n:=ss.length) ?_ rfl λj u G=>h (j+1) u G);rw[C]at B;simpa using B
theorem W4{kvs:List (Key×Value)}{acc:Array Value}(hk:kvs.map (·.1)=ss.map kf)(G:ItemsOf (λi v=>∃k x,kvs[i]?=aV (k,x)/\(CK prog w).is k v=cf) acc kvs.length):StrsAre acc.toList ss:=by
 refine V5 (n:=kvs.length) (by rw[di];exact G.1) (by rw[<-a6 (f:=(kf:Str->Key)),<-hk,a6]) λj v e=>?_
 obtain⟨k,x,O,hi⟩:=G.2 j v (by rw[<-gz];exact e);have B:(kvs.map (·.1))[j]?=aV k:=by rw[fc,O];rfl
 rw[hk,fc]at B;cases q:ss[j]? with
 | none=>rw[q]at B;cases B
 | some z=>
  rw[q]at B;have Y:kf z=k:=b5 B;subst Y;rcases FT (k:=kf z) (v:=v) hi with ⟨i,t,C,_⟩ | ⟨y,t,C,U⟩
  .cases C
  .cases C
   exact⟨z,t,U,rfl⟩
theorem j4{d:Addr}{kvs:List (Key×Value)}(hh:A.handled=a0)(lo:(d==t4)=en)(hD:s.heap.DictOf (CK prog w) d kvs)(hk:kvs.map (·.1)=ss.map kf)(d5:kvs.length<64)(h:∀(B h':Heap) (G:Nat) (D:Addr) (out:Array Value) (C:List Str) (c:Nat),(∀b o,s.heap.get? b=aV o->B.get? b=aV o)->D=B.objs.size->(∀b o,B.get? b=aV o->h'.get? b=aV o)->h'.get? D=aV { cls:=.type "list",data:=.seq out c }->StrsAre out.toList C->C.Perm ss->sortedS C=cf->
   Q (.ref D) { s with heap:=h',toks:=G }):fj (gx prog w) A (call (.builtin "sorted") [.ref d]) Q E s:=by
 obtain⟨ep,xI⟩:=hD.dictAt;refine vo kind_sorted plain_sorted entry_sorted (args_sorted1 _) ?_;unfold Builtin.«sorted»;refine ab (m:=checkCount "sorted" 1 1 _) (ag ?_);refine ab (PySem.W.kdu_collect (A:=A.in1) (PySem.W.kdl_dict (knd:=CK prog w) (kvs:=kvs) (ep:=ep) lo) hh xI (by rw[fS];lia) λB G acc i3 Z=>?_);have hl:acc.toList.length=kvs.length:=by rw[di];exact Z.1
 refine ab (t5 ?_ (by rw[hl,fS];lia));have U:StrsAre acc.toList ss:=W4 hk Z;have O:(B.push (seqObj "list" acc.toList.toArray 0)).get? B.objs.size=aV (seqObj "list" acc.toList.toArray 0):=dm _ rfl;refine ab (fg (kg slot_list_sort ⟨_,O,rfl⟩ entry_list_sort (list_sort_treeK strKind_oneLt O U.keysOf (λYy Yz rest e=>keyKind_strs (by rw[<-e];exact U)) (by rw[hl];exact d5) λiO hp hs=>⟨_,rfl,?_⟩) (args_list_sort _)));obtain⟨C,Uz,xB,C6⟩:=sorted_out_str U hp hs;refine ag ⟨_,rfl,?_⟩;obtain⟨c,hc⟩:=sortedHeap_at (vs:=acc.toList) (out:=(arrOf iO).map (·.2)) O;refine h B _ G _ _ C c i3 rfl (λb o e=>?_) hc Uz xB C6;have Y:b<B.objs.size:=bg e;rw[sortedHeap_old (cc Y) (by rw[kS];exact jn Y)];exact cx _ e
theorem lF(hc:X.calm=cf):gc X (.builtin "sorted") (λxs H Q=>∃a kvs ss,xs=[.ref a]/\Rd H a (.dK kvs)/\kvs.map (·.1)=ss.map kf/\kvs.length<64/\
  ∀p B,H p=a0->B.Perm ss->sortedS B=cf->Q (.ref p) (upd H p (.lst (B.map V.str)))):=by
 intro pi s σ H xs us Q I r h;obtain⟨a,kvs,ss,rfl,ha,hk,d5,q⟩:=h;obtain⟨u,rfl,U⟩:=vals1 r;cases U;obtain⟨z,lo,vs,rel,dd⟩:=RD I.aS ha;refine j4 (I.ok.hd hc) lo dd (by rw[<-rel.keys];exact hk) (by rw[<-rel.length];exact d5) λG h' C D out B c Z eD Y hD hS hp hs=>?_
 subst eD;have O:Inv X pi σ H { s with heap:=G,toks:=C }:=I.kept Z;have I2:Inv X pi σ (upd H G.objs.size (.lst (B.map V.str))) { s with heap:=h',toks:=C }:=O.laid (λb o e=>Y b o e) (a8 _) ⟨?_,out.toList,c,Y9 hS,by simpa using hD⟩
 .exact⟨.ref _,_,I2,rfl,q _ B (O.aS.fresh (a8 _)) hp hs⟩
 .rw[a6,hp.length_eq,<-a6 (f:=(kf:Str->Key)),<-hk,a6,fS]
  lia
theorem TL:gc X (.type "tuple") (λxs H Q=>∃p ys,xs=[.ref p]/\cg X.K H p ys/\∀l o,H l=a0->o.cls=.type "tuple"->o.dict=a0->Q (.ref l) (upd H l (.bp o (.tup ys)))):=by
 intro pi s σ H xs us Q I r h;obtain⟨p,ys,rfl,Y,q⟩:=h;obtain⟨u,rfl,O⟩:=vals1 r;cases O;obtain⟨its,C,pl,U⟩:=I.list Y;have B:=C.length;refine call_tuple_list pl.isList (λh' kp=>?_) (by simp only[dw]<;>lia);have G:Inv X pi σ H { s with heap:=h' }:=I.kept (t':=s.toks) kp;have Z:Inv X pi σ (upd H h'.objs.size (.bp { cls:=.type "tuple",data:=.seq its.toArray } (.tup ys))) { s with heap:=h'.push { cls:=.type "tuple",data:=.seq its.toArray } }:=
  G.laid (t':=s.toks) (λb o e=>cx _ e) (a8 _) ⟨dm _ rfl,show dS X.prog X.w _ _ _ (.tup ys) from ⟨U,its,C,IsTup.new _ _⟩⟩
 exact⟨.ref h'.objs.size,_,Z,rfl,q _ _ (G.aS.fresh (a8 _)) rfl rfl⟩
end L2
namespace PySem.W
end PySem.W
namespace L2
open PySem PySem.Spec PyProof.Rows
section
variable{o:HO}
theorem dS.there(x:dS P w H h a o):∃ob,h.get? a=aV ob:=by
 induction o with
 | lst xs=>obtain⟨_,_,_,_,e⟩:=x;exact⟨_,e⟩
 | tup xs=>obtain⟨_,_,_,ob,e,_⟩:=x;exact⟨_,e⟩
 | dK kvs=>obtain⟨_,_,_,_,ob,_,_,e,_⟩:=x;exact⟨_,e⟩
 | dT kvs=>obtain⟨_,_,_,_,ob,_,_,e,_⟩:=x;exact⟨_,e⟩
 | dF kvs=>obtain⟨_,_,o,_,_,e,_⟩:=x;exact⟨o,e⟩
 | set S n=>obtain⟨ob,_,_,_,e,_⟩:=x;exact⟨_,e⟩
 | own y=>exact x
 | jx lo hi=>obtain⟨_,_,_,e⟩:=x;exact⟨_,e⟩
 | bp ob u B=>exact⟨_,x.1⟩
 | tf ps=>exact⟨_,x⟩
 | ext u3=>exact x.2.1
end
section
variable{D:Addr}{o:HO}{m:Str->Option Value}
noncomputable abbrev vn (s:fu):Heap:=u4.A8 s.heap
noncomputable abbrev Fi (X:Cx) (s:fu):List (Addr×Obj):=V0 (vn s) s.heap X.env.locals
theorem ZW(N:News (vn s) X.env.locals h' ((D,ob)::Fi X s)):∀b u,b≠X.env.locals->s.heap.get? b=aV u->h'.get? b=aV u:=λb u B e=>
 (N (b,u) (bx _ (aA B (u4.Ey _ _) e))).1
theorem Inv.Xn(I:Inv X pi σ H s)(hm:s.heap.Ns X.env.locals m)(F:Fr (vn s) X.env.locals h' m)(N:News (vn s) X.env.locals h' ((D,ob)::Fi X s))(O:s.heap.get? D=a0)(new:dS X.prog X.w (upd H D o) h' D o):Inv X pi σ (upd H D o) { s with heap:=h',toks:=t' }:=by
 have hn:H D=a0:=by
  cases q:H D with
  | none=>rfl
  | some u=>
   obtain⟨Xv,e⟩:=(I.aS D u q).there;rw[O]at e;cases e
 have up:∀b u,H b=aV u->upd H D o b=aV u:=λb u e=>by rw[CJ (FZ e hn)];exact e
 have keep:=ZW N;refine I.step (g':=s.gens) (d':=s.drawn) (ch:=[]) (λb G=>nomatch G) (λb u B _ _ e _=>keep b u B e) (λb u B _ _ e _=>⟨u.slots,keep b u B e⟩)
  (λb u _ e n=>?_) (λb u _ e=>?_) (λb xs e=>up b _ e) (λb u xs e=>up b _ e) (λb ps e=>⟨#[],by rw[up b _ e];simp⟩) (λaf ky=>?_) (λb u e=>?_) I.bare
 .rw[CJ (λz=>by rw[z,O]at e;cases e)]
  exact n
 .by_cases B:b=X.env.locals
  .subst B
   obtain⟨Z,_,_,au,_⟩:=F.ns;exact⟨Z,au⟩
  .exact⟨u,keep b u B e⟩
 .have e:af=m:=by
   obtain⟨o1,fb,ZT,a1,b1,c1,d1⟩:=hm;obtain⟨o2,rS,rL,Y,U,c2,d2⟩:=ky;rw[a1]at Y;cases Y;rw[b1]at U;cases U;funext x;rw[<-d1 x,<-d2 x]
  rw[e];exact F.ns
 .by_cases G:b=D
  .subst G;rw[CT]at e;cases e;exact new
  .rw[CJ G]at e
   refine(I.aS b u e).ig (λc v C q=>keep c v (λz=>?_) q) (λc q=>up c _ q) λc xs q=>up c _ q
   have n:=I.free;rcases C with rfl | C
   .rw[z,n]at e;cases e
   .rw[z,n]at C;cases C
end
noncomputable def WM(p q:Str×Int):Bool:=if p.1=q.1 then (if p.2=q.2 then en else eH (p.2<q.2)) else eH (p.1.cps.toList<q.1.cps.toList)
theorem Ny{x y:Addr}{a b:Str}{n m:Int}{t1 Z Y U:Tok}{Q:Bool->fu->Prop}(hx:IsTup s.heap x #[.str a t1,.int n Z])(hy:IsTup s.heap y #[.str b Y,.int m U])(h:Q (WM (a,n) (b,m)) s):
  fj (gx prog w) A (keyLt' (tuples' cf) (.ref x) (.ref y)) Q E s:=by
 obtain⟨ox,ex,_,_,dx⟩:=hx;obtain⟨oy,ey,_,_,dy⟩:=hy;refine PySem.W.kat_lt ex dx ey dy ?_;show PySem.W.KatLex prog w A cf _ Q [(.str a t1,.str b Y),(.int n Z,.int m U)] 0 s;refine PySem.W.kat_cons (kO (y:=.str a) (x:=.str b) ⟨_,rfl⟩ ⟨_,rfl⟩ rfl rfl prog w _ _ ?_);unfold WM at h
 by_cases C:a=b
 .have O:gN (.str a) (.str b)=cf:=by rw[C];exact beq_self_eq_true b
  rw[O];rw[ah C]at h;refine PySem.W.kat_yes (PySem.W.kat_cons (kO (y:=.int n) (x:=.int m) ⟨_,rfl⟩ ⟨_,rfl⟩ rfl rfl prog w _ _ ?_))
  by_cases B:n=m
  .have G:gN (.int n) (.int m)=cf:=by rw[B];exact beq_self_eq_true m
   rw[G];rw[ah B]at h;refine PySem.W.kat_yes (PySem.W.kat_nil ?_);simpa using h
  .have G:gN (.int n) (.int m)=en:=(beq_eq_false_iff_ne.mpr B:(n==m)=en)
   rw[G];rw[ak B]at h;exact PySem.W.kat_no (PySem.W.kat_one _ _ (lt_int h))
 .have O:gN (.str a) (.str b)=en:=(beq_eq_false_iff_ne.mpr C:(a==b)=en)
  rw[O];rw[ak C]at h;exact PySem.W.kat_no (oneLt_str h)
end L2
namespace PySem.W
noncomputable def KasT.gy{α:Type}(n:Nat)(vh:Nat->Nat->Bool):KasT α->Option α
 | .ret a=>aV a
 | .ask i j k=>if i<n/\j<n then (k (vh i j)).gy n vh else a0
theorem KasT.Kk{α:Type}{n:Nat}{vh:Nat->Nat->Bool}{cmp:Nat->Nat->(Bool->fu->Prop)->fu->Prop}{Q:α->fu->Prop}{s:fu}(G:∀i j,i<n->j<n->∀C:Bool->fu->Prop,C (vh i j) s->cmp i j C s):
  ∀(t:KasT α) {a:α},t.gy n vh=aV a->Q a s->t.kasWp cmp Q s
 | .ret a,b,h,q=>by
  have:a=b:=b5 h;subst this;exact q
 | .ask i j k,b,h,q=>by
  unfold KasT.gy at h;split at h
  .rename_i B
   exact G i j B.1 B.2 _ (KasT.Kk G _ h q)
  .cases h
end PySem.W
namespace PyProof.Rows
open PySem
theorem aO{P:Fin->fu->Prop}(B:s.heap.get? a=aV (seqObj "list" vs.toArray n))(Y:vs.length<2)(h:P (.done (.ret .none)) { s with heap:=sortedHeap s.heap a vs ((pairsOf vs).map (·.2)) }) :
  fj (gx prog w) A (Builtin.«list.sort» ⟨[.ref a],[]⟩) P E s:=by
 rw[list_sort_plain];have U:a<s.heap.objs.size:=bg B;refine ab (listItems_at B rfl ?_);refine ab (listUpdate_at B rfl ?_);obtain⟨G,IB⟩:∃G,(s.heap.update a (sX λ_=>#[])).get? a=aV (seqObj "list" #[] G):=⟨_,get?_update_seq B (λ_=>#[])⟩
 refine ab (seqEpoch_at IB rfl ?_);refine ab (wpAny_newTuple ?_);refine ab (t5 ?_);refine fg ?_;have IC:(((s.heap.update a (sX λ_=>#[])).push (seqObj "tuple" vs.toArray 0)).push (seqObj "list" #[] 0)).get? a=aV (seqObj "list" #[] G):=by
  rw[Heap.get?_push_ne _ _ _ (by rw[size_push',Heap.size_update];exact cc (jn U)),Heap.get?_push_ne _ _ _ (by rw[Heap.size_update];exact cc U)];exact IB
 show fj (gx prog w) A _ P E { s with heap:=((s.heap.update a (sX λ_=>#[])).push (seqObj "tuple" vs.toArray 0)).push (seqObj "list" #[] 0) };dsimp only;have C:vs.toArray.size=vs.length:=by simp
 have O:vs.toArray.size<2:=by rw[C];exact Y
 rw[ah O,ah O];refine ab (ag ?_);rw[StateT.run_pure];refine ab (ag ?_);dsimp only;refine ab (seqEpoch_at IC rfl ?_);refine ab (listUpdate_at IC rfl ?_ (hsz2:=by rw[Array.size_map];show (pairsOf vs).size<=_;rw[pairsOf_size,fS];lia));simp only[bne_self_eq_false,ft,if_false];exact ag h
end PyProof.Rows
namespace L2
open PySem PySem.Spec PyProof.Rows
theorem OK{a b:Str}(h:a.cps.toList=b.cps.toList):a=b:=by
 obtain⟨x⟩:=a;obtain⟨y⟩:=b;have:x=y:=by simpa using congrArg List.toArray h
 rw[this]
theorem LP{a b:Str}(h:a≠b):eH (b.cps.toList<a.cps.toList)=!decide (a.cps.toList<b.cps.toList):=by
 by_cases C:a.cps.toList<b.cps.toList
 .rw[cz C,df (λB=>List.lt_irrefl _ (List.lt_trans C B))];rfl
 .rw[df C]
  by_cases B:b.cps.toList<a.cps.toList
  .rw[cz B];rfl
  .exact absurd (OK (List.le_antisymm (List.not_lt.mp B) (List.not_lt.mp C))) h
end L2
namespace L2
open PySem PySem.Spec PyProof.Rows
noncomputable def rD:Key->Key->Bool
 | .inl i,.inl j=>eH (i<j)
 | .inr x,.inr y=>eH (x.cps.toList<y.cps.toList)
 | .inl _,.inr _=>cf
 | .inr _,.inl _=>en
noncomputable def ZK:Key->Key->Bool
 | .inl _,.inl _=>cf
 | .inr _,.inr _=>cf
 | _,_=>en
noncomputable def BU(p q:Str×Key):Bool:=if p.1=q.1 then (if p.2=q.2 then en else rD p.2 q.2) else eH (p.1.cps.toList<q.1.cps.toList)
theorem cN{k:Str}{x:Key}{c:Addr}(Y:IsTupleKey (CK prog w) h [.inr k,x] c):∃o n t u v,h.get? c=aV o/\o.cls=.type "tuple"/\o.data=.seq (#[.str k t,v]:Array Value) n/\JQ x v=cf/\u=t:=by
 obtain⟨o,items,n,U,d6,hd,hi⟩:=Y;obtain⟨C,B,e1,e2,hl⟩:∃C B,JQ (.inr k) C=cf/\JQ x B=cf/\items.toList=[C,B]:=by
  generalize hq:items.toList=l at hi;cases hi with
  | cons h1 O=>
   cases O with
   | cons Z G=>
    cases G;exact⟨_,_,h1,Z,rfl⟩
 rcases FT e1 with ⟨i,t,q,_⟩ | ⟨y,t,q,rfl⟩
 .cases q
 .cases q
  refine⟨o,n,t,t,B,U,d6,?_,e2,rfl⟩;rw[hd];congr 1;apply xp;rw[hl]
theorem ZL{x y:Key}{v:Value}(C:ZK x y=cf)(G:JQ x u=cf)(B:JQ y v=cf)(h:Q (.bool (rD x y)) s):fj (gx prog w) A (richCompare .Lt u v) Q E s:=by
 rcases FT G with ⟨i,t,rfl,rfl⟩ | ⟨a,t,rfl,rfl⟩
 .rcases FT B with ⟨j,t',rfl,rfl⟩ | ⟨b,t',rfl,rfl⟩
  .exact(PyProof.Rows.lt_int h:fj (gx prog w) A (sh .Lt _ _) Q E s)
  .cases C
 .rcases FT B with ⟨j,t',rfl,rfl⟩ | ⟨b,t',rfl,rfl⟩
  .cases C
  .exact(PyProof.Rows.lt_str h:fj (gx prog w) A (sh .Lt _ _) Q E s)
theorem jW{p q:Str×Key}{b:Addr}{P:Fin->fu->Prop}(hT:ZK p.2 q.2=cf\/p.1≠q.1)(hx:IsTupleKey (CK prog w) s.heap [.inr p.1,p.2] a)(U:IsTupleKey (CK prog w) s.heap [.inr q.1,q.2] b)(h:P (.done (.ret (.bool (BU p q)))) s):
  fj (gx prog w) A (Builtin.«tuple.__lt__» ⟨[.ref a,.ref b],[]⟩) P E s:=by
 have Dh:=U.typeIs;obtain⟨oa,na,ta,_,O,DZ,_,Dp,AF,_⟩:=cN hx;obtain⟨ob,nb,tb,_,G,Y,_,Z,AG,_⟩:=cN U;show fj _ _ (isInstance (.ref b) (.type "tuple") >>= _) _ _ s;refine ab (zk Dh isSubtype_tuple_tuple ?_);simp only[qm,ft,if_false];refine ab (wpAny_tupleItemsOf DZ Dp ?_);refine ab (wpAny_tupleItemsOf Y Z ?_);refine ab ?_;show fj _ _ (forIn [(Value.str p.1 ta,Value.str q.1 tb),(O,G)] _ _) _ _ _;rw[rp];refine ab ?_;refine ab ((CK prog w).eqBool (a:=.inr p.1) (b:=.inr q.1) R4 R4 ?_);unfold BU at h
 by_cases B:p.1=q.1
 .rw[cz (show (kf p.1:Key)=.inr q.1 by rw[B])]
  rw[ah B]at h;simp only[qm,ft,if_false];refine ag ?_;show fj _ _ (forIn [(O,G)] _ _) _ _ _;rw[rp];refine ab ?_;refine ab ((CK prog w).eqBool (a:=p.2) (b:=q.2) AF AG ?_)
  by_cases C:p.2=q.2
  .rw[cz C]
   rw[ah C]at h;simp only[qm,ft,if_false];refine ag ?_;show fj _ _ (forIn ([]:List (Value×Value)) _ _) _ _ _;rw[List.forIn_nil];refine ag (ag ?_);exact h
  .rw[df C]
   rw[ak C]at h;simp only[A9,if_true];refine ab (mE ?_);refine ab (ZL (hT.resolve_right λz=>z B) AF AG ?_);exact ab (ag (ag (ag (ag h))))
 .rw[df (show ¬(kf p.1:Key)=.inr q.1 from λe=>B (j1 e))]
  rw[ak B]at h;simp only[A9,if_true];refine ab (mE ?_);refine ab (ZL (x:=.inr p.1) (y:=.inr q.1) (u:=.str p.1 ta) (v:=.str q.1 tb) rfl (R4 (prog:=prog) (w:=w) (x:=p.1) (t:=ta)) (R4 (prog:=prog) (w:=w) (x:=q.1) (t:=tb)) ?_);exact ab (ag (ag (ag (ag h))))
noncomputable def YS(p q:FK):Bool:=if p.1=q.1 then (if p.2=q.2 then en else BU p.2 q.2) else eH (p.1.cps.toList<q.1.cps.toList)
theorem Oj{x y:FK}{b:Addr}{Q:Bool->fu->Prop}(hu:A.units+10<cLine)(hT:ZK x.2.2 y.2.2=cf\/x.2.1≠y.2.1)(hx:g7 prog w s.heap x a)(hy:g7 prog w s.heap y b)(h:Q (YS x y) s):
  fj (gx prog w) A (keyLt' (tuples' cf) (.ref a) (.ref b)) Q E s:=by
 obtain⟨ox,xs,n,t,c,VY,_,U2,Ip,G⟩:=hx;obtain⟨oy,ys,m,t',d,VZ,_,Va,Iq,hd⟩:=hy;refine PySem.W.kat_lt VY U2 VZ Va ?_;have Z:xs.size=2:=by rw[<-di,Ip];rfl
 have Y:ys.size=2:=by rw[<-di,Iq];rfl
 rw[Ip,Iq,Z,Y];show PySem.W.KatLex prog w A cf _ Q [(.str x.1 t,.str y.1 t'),(.ref c,.ref d)] 0 s;refine PySem.W.kat_cons (kO (y:=.str x.1) (x:=.str y.1) ⟨_,rfl⟩ ⟨_,rfl⟩ rfl rfl prog w _ _ ?_);unfold YS at h
 by_cases C:x.1=y.1
 .have U:gN (.str x.1) (.str y.1)=cf:=by rw[C];exact beq_self_eq_true y.1
  rw[U];rw[ah C]at h;refine PySem.W.kat_yes (PySem.W.kat_cons (wpAny_eqBool_tuple (x:=gn x) (y:=gn y) (by lia) G hd ?_))
  by_cases B:x.2=y.2
  .have O:gn x=gn y:=by unfold gn;rw[B]
   rw[cz O];rw[ah B]at h;exact PySem.W.kat_yes (PySem.W.kat_nil h)
  .have O:¬gn x=gn y:=λe=>by
    simp only[gn,OV,Sum.inr.injEq,and_true]at e;exact B (Prod.ext e.1 e.2)
   rw[df O];rw[ak B]at h;refine PySem.W.kat_no (PySem.W.kat_one _ _ ?_);have Ia:=G.typeIs;have UC:=hd.typeIs;exact wpAny_richCompare_same_room (op:=.Lt) Ia UC F.slot_tuple_lt (kg F.slot_tuple_lt Ia F.entry_tuple_lt (jW (p:=x.2) (q:=y.2) hT G hd ⟨_,rfl,(λe=>nomatch e),h⟩) (F.args_tuple_lt_2 _ _)) (by lia)
 .have U:gN (.str x.1) (.str y.1)=en:=(beq_eq_false_iff_ne.mpr C:(x.1==y.1)=en)
  rw[U];rw[ak C]at h;exact PySem.W.kat_no (oneLt_str h)
end L2
section
set_option genInjectivity false
namespace WL
open PySem L2
inductive D where
 | aE | bl (b:Bool) | int (i:Int) | str (x:Str) | tup (xs:List D) | lst (xs:List D) | ao (ks:List Key) (vs:List D) | b9 (ns:List Int) | aI (i:Nat)
inductive MO where
 | lst (xs:List D) | ao (ks:List Key) (vs:List D) | fd (ks:List FK)
abbrev Mem:=List MO
abbrev DS:=List (Option D)
mutual
noncomputable def D.beq:D->D->Bool
 | .aE,.aE=>cf
 | .bl a,.bl b=>a==b
 | .int a,.int b=>eH (a=b)
 | .str a,.str b=>eH (a=b)
 | .tup a,.tup b=>D.nu a b
 | .lst a,.lst b=>D.nu a b
 | .ao k a,.ao l b=>eH (k=l)&&D.nu a b
 | .b9 a,.b9 b=>eH (a=b)
 | .aI a,.aI b=>eH (a=b)
 | _,_=>en
noncomputable def D.nu:List D->List D->Bool
 | [],[]=>cf
 | a::r,b::q=>D.beq a b&&D.nu r q
 | _,_=>en
end
mutual
theorem D.eq_of_beq:∀{a b:D},D.beq a b=cf->a=b
 | .aE,b,h=>by cases b with
  | aE=>rfl
  | _=>cases (show en=cf from h)
 | .bl a,b,h=>by cases b with
  | bl c=>exact congrArg D.bl (LawfulBEq.eq_of_beq (show (a==c)=cf from h))
  | _=>cases (show en=cf from h)
 | .int a,b,h=>by cases b with
  | int c=>exact congrArg D.int (eW (show eH (a=c)=cf from h))
  | _=>cases (show en=cf from h)
 | .str a,b,h=>by cases b with
  | str c=>exact congrArg D.str (eW (show eH (a=c)=cf from h))
  | _=>cases (show en=cf from h)
 | .tup a,b,h=>by cases b with
  | tup c=>exact congrArg D.tup (D.xu (show D.nu a c=cf from h))
  | _=>cases (show en=cf from h)
 | .lst a,b,h=>by cases b with
  | lst c=>exact congrArg D.lst (D.xu (show D.nu a c=cf from h))
  | _=>cases (show en=cf from h)
 | .ao k a,b,h=>by cases b with
  | ao l c=>
   have h:(eH (k=l)&&D.nu a c)=cf:=h;rw[gS]at h;rw[eW h.1,D.xu h.2]
  | _=>cases (show en=cf from h)
 | .b9 a,b,h=>by cases b with
  | b9 c=>exact congrArg D.b9 (eW (show eH (a=c)=cf from h))
  | _=>cases (show en=cf from h)
 | .aI a,b,h=>by cases b with
  | aI c=>exact congrArg D.aI (eW (show eH (a=c)=cf from h))
  | _=>cases (show en=cf from h)
theorem D.xu:∀{a b:List D},D.nu a b=cf->a=b
 | [],b,h=>by cases b with
  | nil=>rfl
  | cons _ _=>cases (show en=cf from h)
 | a::r,b,h=>by cases b with
  | nil=>cases (show en=cf from h)
  | cons c q=>
   have h:(D.beq a c&&D.nu r q)=cf:=h;rw[gS]at h;rw[D.eq_of_beq h.1,D.xu h.2]
end
noncomputable def D.clean:D->Bool
 | .tup xs=>cK xs
 | .lst xs=>cK xs
 | .ao _ xs=>cK xs
 | .aI _=>en
 | _=>cf
where cK:List D->Bool
 | []=>cf
 | a::r=>D.clean a&&cK r
inductive Cq where | add | sub | mul | mod
inductive tu where | eq | ne | lt | le | gt | ge | isin | yT | is | sD
inductive B1 where
 | len | list (mu:Bool) | tuple | int | all | max | sorted (mu:Bool) | Bd (mu:Bool) | Bg (mu:Bool) | EG (mu:Bool) | Be (mu:Bool) | dict (mu:Bool) | Al (mu:Bool) | EH (mu:Bool) | ze (mu:Bool) | Br | group
 | yw | El (mu:Bool) | Bf (mu:Bool) | JU
inductive Tg where | nm (i:Nat) | tp (ts:List Tg)
mutual
inductive Ex where
 | var (i:Nat) | con (d:D) | bin (o:Cq) (a b:Ex) | cat (mu:Bool) (a b:Ex) | cmp (o:tu) (a b:Ex) | Cy (a b:Ex)
 | tup (as:jh) | lst (mu:Bool) (as:jh) | Hr (mu:Bool) (ks:List Key) (as:jh) | ix (a b:Ex) | qz (a b:Ex) | oT (a b:Ex) | sl (a:Ex) (lo hi:Oe)
 | call (f:String) (as:jh) | b1 (b:B1) (a:Ex) | max2 (a b:Ex) | get (d k z:Ex) | pop (a:Ex) | app (l a:Ex) | ext (l a:Ex)
 | index (l a:Ex) | join (s l:Ex) | comp (mu:Bool) (k:Nat) (g:Tg) (i:Ie) (t:Te) (e:Ex) | Jy (mu:Bool) (a b:Ex) | Hw | EB (a:Ex) | upd (d e:Ex) | zc (d k z:Ex) | A7 (a b:Ex)
inductive jh where | nil | cons (a:Ex) (r:jh)
inductive Te where | val (a:Ex) | and (a b:Te) | or (a b:Te) | not (a:Te) | tt
inductive Oe where | no | pt (a:Ex)
inductive Ie where | seq (a:Ex) | jx (a:Ex) | Bc (a b:Ex) | enum (a:Ex) | keys (a:Ex)
end
mutual
inductive Sm where
 | set (i:Nat) (a:Ex) | asg (g:Tg) (a:Ex) | put (d k v:Ex) | drop (a:Ex) | ret (a:Ex) | ite (t:Te) (a b:bz) | dA (t:Te) (b:bz) | fr (g:Tg) (i:Ie) (b:bz) | C2 (d k:Ex)
inductive bz where | nil | cons (s:Sm) (r:bz)
end
noncomputable def QF:D->Mem->Option (List D)
 | .tup xs,_=>aV xs
 | .lst xs,_=>aV xs
 | .b9 ns,_=>aV (ns.map .int)
 | .aI i,m=>match m[i]? with | some (.lst xs)=>aV xs | _=>a0
 | _,_=>a0
noncomputable def G4:D->Mem->Option (List D)
 | .lst xs,_=>aV xs
 | .b9 ns,_=>aV (ns.map .int)
 | .aI i,m=>match m[i]? with | some (.lst xs)=>aV xs | _=>a0
 | _,_=>a0
noncomputable def HF:D->Mem->Option (List Key×List D)
 | .ao ks vs,_=>aV (ks,vs)
 | .aI i,m=>match m[i]? with | some (.ao ks vs)=>aV (ks,vs) | _=>a0
 | _,_=>a0
noncomputable def bj(mu:Bool)(xs:List D)(m:Mem):D×Mem:=if mu then (.aI m.length,m++[.lst xs]) else (.lst xs,m)
noncomputable def iN(mu:Bool)(ks:List Key)(vs:List D)(m:Mem):D×Mem:=if mu then (.aI m.length,m++[.ao ks vs]) else (.ao ks vs,m)
noncomputable def N5:D->Option Key
 | .int i=>aV (.inl i)
 | .str x=>aV (.inr x)
 | _=>a0
noncomputable def G5:List Key->List D->Key->Option D
 | k::ks,v::vs,x=>if k=x then aV v else G5 ks vs x
 | _,_,_=>a0
noncomputable def jC:List Key->List D->Key->D->List D
 | k::ks,v::vs,x,y=>(if k=x then y else v)::jC ks vs x y
 | _,_,_,_=>[]
noncomputable def putD(ks:List Key)(vs:List D)(x:Key)(y:D):List Key×List D:=if ks.any λk=>eH (k=x) then (ks,jC ks vs x y) else (ks++[x],vs++[y])
mutual
noncomputable def o4:D->Option PyData
 | .aE=>aV .none
 | .bl b=>aV (.bool b)
 | .int i=>aV (.int i)
 | .str x=>aV (.str x)
 | .tup xs=>(bY xs).map .tuple
 | .lst xs=>(bY xs).map .list
 | _=>a0
noncomputable def bY:List D->Option (List PyData)
 | []=>aV []
 | a::r=>(o4 a).bind λx=>(bY r).map (x::·)
end
noncomputable def cR(a b:D):Option Bool:=(o4 a).bind λx=>(o4 b).bind λy=>if x.canLay0&&y.canLay0&&eH (min x.depth y.depth<=60) then aV (PyData.eqv x y) else a0
noncomputable def kj:D->D->Option Bool
 | .int a,.int b=>aV (eH (a=b))
 | .str a,.str b=>aV (eH (a=b))
 | a,b=>cR a b
noncomputable def D.sC:D->Bool
 | .aE=>cf
 | _=>en
noncomputable def D.uk(b:Bool):D->Bool
 | .bl c=>c==b
 | _=>en
noncomputable def D.flat:D->Bool
 | .int _=>cf
 | .str _=>cf
 | _=>en
noncomputable def inD(x:D)(xs:List D):Bool:=xs.any λy=>match x,y with
 | .int a,.int b=>eH (a=b)
 | .str a,.str b=>eH (a=b)
 | _,_=>en
noncomputable def eO:D->Mem->Option Bool
 | .aE,_=>aV en
 | .bl b,_=>aV b
 | .int i,_=>aV (i != 0)
 | .tup xs,_=>aV (!xs.isEmpty)
 | .lst xs,_=>aV (!xs.isEmpty)
 | .b9 ns,_=>aV (!ns.isEmpty)
 | .aI i,m=>match m[i]? with | some (.lst xs)=>aV (!xs.isEmpty) | some (.ao ks _)=>aV (!ks.isEmpty) | _=>a0
 | _,_=>a0
noncomputable def Z1:Cq->D->D->Mem->Option (D×Mem)
 | .add,.int a,.int b,m=>aV (.int (a+b),m)
 | .sub,.int a,.int b,m=>aV (.int (a-b),m)
 | .mul,.int a,.int b,m=>if (-(2 ^ 64)<a/\a<2 ^ 64)\/(-(2 ^ 64)<b/\b<2 ^ 64) then aV (.int (a*b),m) else a0
 | .mod,.int a,.int b,m=>if 0<b then aV (.int (a % b),m) else a0
 | .add,.str a,.str b,m=>if a.length+b.length<=1000 then aV (.str (a++b),m) else a0
 | .add,.tup a,.tup b,m=>if a.length+b.length<=10000 then aV (.tup (a++b),m) else a0
 | _,_,_,_=>a0
noncomputable def LC:tu->D->D->Option Bool
 | .eq,a,b=>kj a b
 | .ne,a,b=>(kj a b).map (!·)
 | .lt,.int a,.int b=>aV (eH (a<b))
 | .le,.int a,.int b=>aV (eH (a<=b))
 | .gt,.int a,.int b=>aV (eH (b<a))
 | .ge,.int a,.int b=>aV (eH (b<=a))
 | .isin,x,.tup xs=>if x.flat&&xs.all D.flat then aV (inD x xs) else a0
 | .isin,x,.lst xs=>if x.flat&&xs.all D.flat then aV (inD x xs) else a0
 | .yT,x,.tup xs=>if x.flat&&xs.all D.flat then aV (!inD x xs) else a0
 | .yT,x,.lst xs=>if x.flat&&xs.all D.flat then aV (!inD x xs) else a0
 | .is,x,.aE=>aV x.sC
 | .sD,x,.aE=>aV (!x.sC)
 | .is,x,.bl b=>aV (x.uk b)
 | .sD,x,.bl b=>aV (!x.uk b)
 | _,_,_=>a0
noncomputable def ke:D->D->Mem->Option D
 | .tup xs,.int i,_=>cy xs i
 | .lst xs,.int i,_=>cy xs i
 | .b9 ns,.int i,_=>(cy ns i).map .int
 | .str z,.int i,_=>if z.length<=1000 then (cy z.cps.toList i).map λc=>.str ⟨#[c]⟩ else a0
 | .aI r,.int i,m=>match m[r]? with | some (.lst xs)=>cy xs i | _=>a0
 | _,_,_=>a0
noncomputable def cutD(xs:List D)(lo hi:Option Int):List D:=(xs.drop (HT.bq xs.length 0 lo)).take (HT.bq xs.length xs.length hi-HT.bq xs.length 0 lo)
noncomputable def sP:D->Option Int->Option Int->Option D
 | .tup xs,lo,hi=>aV (.tup (cutD xs lo hi))
 | .lst xs,lo,hi=>aV (.lst (cutD xs lo hi))
 | .b9 ns,lo,hi=>aV (.lst (cutD (ns.map .int) lo hi))
 | .str z,lo,hi=>if z.length<=1000 then aV (.str (StrLaws.sliceText z lo hi)) else a0
 | _,_,_=>a0
noncomputable def d7:List D->Option (List Bool)
 | []=>aV []
 | .bl b::r=>(d7 r).map (b::·)
 | _=>a0
noncomputable def intsOf:List D->Option (List Int)
 | []=>aV []
 | .int b::r=>(intsOf r).map (b::·)
 | _=>a0
noncomputable def strsOf:List D->Option (List Str)
 | []=>aV []
 | .str b::r=>(strsOf r).map (b::·)
 | _=>a0
noncomputable def pairsOf:List D->Option (List Key×List D)
 | []=>aV ([],[])
 | .tup [k,v]::r=>match N5 k,pairsOf r with
  | some k,aV (ks,vs)=>aV (k::ks,v::vs)
  | _,_=>a0
 | _=>a0
noncomputable def FQ:List Key->List D->List Key->List D->List Key×List D
 | ks,vs,k::r,v::q=>FQ (putD ks vs k v).1 (putD ks vs k v).2 r q
 | ks,vs,_,_=>(ks,vs)
noncomputable def qY:List Int->Option Int
 | []=>a0
 | a::r=>aV (r.foldl (λx y=>if y > x then y else x) a)
noncomputable def findD(x:D):List D->Nat->Option Nat
 | [],_=>a0
 | y::r,i=>if inD x [y] then aV i else findD x r (i+1)
noncomputable def G6(a b:Str):Bool:=!decide (b.cps.toList<a.cps.toList)
noncomputable def CQ(l:List Str):List Str:=l.mergeSort G6
noncomputable def JH:List D->Option (List (Str×Int))
 | []=>aV []
 | .tup [.str a,.int b]::r=>(JH r).map ((a,b)::·)
 | _=>a0
noncomputable def J1(p:Str×Int):D:=.tup [.str p.1,.int p.2]
noncomputable def G9(ps:List (Str×Int)):List (Str×Int):=ps.mergeSort λp q=>G6 p.1 q.1
noncomputable def uniq:List Str->List Str
 | []=>[]
 | x::r=>if x∈r then uniq r else x::uniq r
noncomputable def eK:Key->D
 | .inl i=>.int i
 | .inr x=>.str x
noncomputable def fD(k:FK):D:=.tup [.str k.1,.tup [.str k.2.1,eK k.2.2]]
noncomputable def ml:D->Option FK
 | .tup [.str a,.tup [.str b,x]]=>(N5 x).map λk=>(a,b,k)
 | _=>a0
noncomputable def XR(ks:List FK)(k:FK):List FK:=if ks.any (λx=>eH (x=k)) then ks else ks++[k]
noncomputable def MP(k:FK):Bool:=match k.2.2 with
 | .inl _=>eH (k.2.1=fi "page")
 | .inr _=>!decide (k.2.1=fi "page")
noncomputable def X5(p q:FK):Bool:=!YS q p
noncomputable def HN(l:List FK):List FK:=l.mergeSort X5
noncomputable def JB:List FK->List FK
 | []=>[]
 | x::r=>if r.any (λy=>eH (y=x))=cf then JB r else x::JB r
noncomputable def QM:List D->Option (List FK)
 | []=>aV []
 | d::r=>(ml d).bind λk=>(QM r).map λks=>k::ks
abbrev i8:=List (Str×List (Str×Key))
noncomputable def GC(g:i8)(k:FK):i8:=if g.any (λp=>eH (p.1=k.1))=cf then g.map (λp=>if p.1=k.1 then (p.1,p.2++[k.2]) else p) else g++[(k.1,[k.2])]
noncomputable def JG(g:i8):D:=.ao (g.map λp=>.inr p.1) (g.map λp=>.lst (p.2.map λt=>.tup [.str t.1,eK t.2]))
noncomputable def cw:B1->D->Mem->Option (D×Mem)
 | .len,.str z,m=>if z.length<=1000 then aV (.int z.length,m) else a0
 | .len,d,m=>match QF d m,HF d m with
  | some xs,_=>aV (.int xs.length,m)
  | none,aV (ks,_)=>aV (.int ks.length,m)
  | none,a0=>a0
 | .list mu,d,m=>(QF d m).map λxs=>bj mu xs m
 | .tuple,.tup xs,m=>aV (.tup xs,m)
 | .tuple,d,m=>(G4 d m).map λxs=>(.tup xs,m)
 | .int,.int i,m=>aV (.int i,m)
 | .int,.bl b,m=>aV (.int (if b then 1 else 0),m)
 | .all,d,m=>(G4 d m).bind λxs=>(d7 xs).map λbs=>(.bl (bs.all id),m)
 | .max,d,m=>(G4 d m).bind λxs=>(intsOf xs).bind λns=>(qY ns).map λx=>(.int x,m)
 | .Bd mu,d,m=>(HF d m).bind λ(ks,_)=>if ks.length<64 then (strsOf (ks.map kD)).map λss=>bj mu ((CQ ss).map .str) m else a0
 | .sorted mu,d,m=>(G4 d m).bind λxs=>(JH xs).bind λps=>if xs.length<=4/\(ps.map (·.1)).Nodup then aV (bj mu ((G9 ps).map J1) m) else a0
 | .Bg mu,d,m=>(G4 d m).bind λxs=>(strsOf xs).bind λss=>if ss.length<=4000/\(uniq ss).length<64 then aV (bj mu ((CQ (uniq ss)).map .str) m) else a0
 | .EG mu,.aI i,m=>match m[i]? with
  | some (.fd ks)=>if ks.length<64/\ks.all MP=cf then aV (bj mu ((HN ks).map fD) m) else a0
  | _=>a0
 | .Be mu,d,m=>(QF d m).bind λxs=>(QM xs).bind λks=>if (JB ks).length<64/\ks.all MP=cf then aV (bj mu ((HN (JB ks)).map fD) m) else a0
 | .dict mu,.tup xs,m=>(pairsOf xs).bind λ(ks,vs)=>if ks.length<=1000 then aV (iN mu (FQ [] [] ks vs).1 (FQ [] [] ks vs).2 m) else a0
 | .Al mu,d,m=>(G4 d m).bind λxs=>(pairsOf xs).bind λ(ks,vs)=>if ks.length<=1000 then aV (iN mu (FQ [] [] ks vs).1 (FQ [] [] ks vs).2 m) else a0
 | .EH mu,d,m=>(HF d m).bind λ(ks,vs)=>(strsOf (ks.map kD)).bind λss=>(intsOf vs).bind λns=>if ss.length<=4/\ss.Nodup then aV (bj mu ((G9 (ss.zip ns)).map J1) m) else a0
 | .ze mu,d,m=>(G4 d m).bind λxs=>(intsOf xs).bind λns=>if ns.length<=4000/\ns.all (λn=>eH (0<=n/\n<=2))=cf then aV (bj mu ((([0,1,2]:List Int).filter λv=>eH (v∈ns)).map .int) m) else a0
 | .Br,d,m=>(G4 d m).bind λxs=>if xs.length<=1000 then aV (.tup xs.reverse,m) else a0
 | .group,.tup xs,m=>(QM xs).bind λks=>if ks.length<=1000 then aV (JG (ks.foldl GC []),m) else a0
 | .yw,.tup _,m=>aV (.bl cf,m)
 | .yw,.aI _,m=>a0
 | .yw,.ao _ _,m=>a0
 | .yw,_,m=>aV (.bl en,m)
 | .El mu,d,m=>(HF d m).bind λ(ks,_)=>if ks.length<=1000 then (strsOf (ks.map kD)).map λss=>bj mu (ss.map .str) m else a0
 | .Bf mu,.tup xs,m=>(JH xs).bind λps=>if ps.length<64/\(ps.map (·.1)).Nodup then aV (bj mu ((G9 ps).map J1) m) else a0
 | .JU,d,m=>(eO d m).map λc=>(.bl !c,m)
 | _,_,_=>a0
where kD:Key->D
 | .inl i=>.int i
 | .inr x=>.str x
mutual
noncomputable def JL:Tg->D->DS->Option DS
 | .nm i,d,σ=>aV (σ.set i (aV d))
 | .tp ts,.tup xs,σ=>if ts.length=xs.length then O5 ts xs σ else a0
 | _,_,_=>a0
noncomputable def O5:List Tg->List D->DS->Option DS
 | [],[],σ=>aV σ
 | t::ts,x::xs,σ=>(JL t x σ).bind λ B=>O5 ts xs B
 | _,_,_=>a0
end
noncomputable def mM(n:Nat):Tg->Bool
 | .nm i=>eH (n<=i)
 | .tp ts=>EA n ts
where EA (n:Nat):List Tg->Bool
 | []=>cf
 | t::r=>mM n t&&EA n r
structure Walk where
 xs:List D
 Tx:Option Nat:=a0
noncomputable def Walk.ok(w:Walk)(m:Mem):Bool:=match w.Tx with
 | none=>cf
 | some i=>match m[i]? with | some (.lst ys)=>D.nu w.xs ys | _=>en
noncomputable def pX:List D->List D->List D
 | a::r,b::q=>.tup [a,b]::pX r q
 | _,_=>[]
noncomputable def T5:List D->Nat->List D
 | [],_=>[]
 | a::r,n=>.tup [.int n,a]::T5 r (n+1)
noncomputable def T6(w:Walk)(f:D->Mem->Option (Option D×Mem)):List D->Mem->Option (List D×Mem)
 | [],m=>if w.ok m then aV ([],m) else a0
 | d::r,m=>if w.ok m then (f d m).bind λ(o,C)=>(T6 w f r C).bind λ(ys,B)=>aV (o.toList++ys,B) else a0
section
variable(C:String->List D->Mem->Option (D×Mem))
mutual
noncomputable def ev:Ex->DS->Mem->Option (D×Mem)
 | .var i,σ,m=>match σ[i]? with | some (aV d)=>aV (d,m) | _=>a0
 | .con d,_,m=>aV (d,m)
 | .bin o a b,σ,m=>(ev a σ m).bind λ(x,B)=>(ev b σ B).bind λ(y,G)=>Z1 o x y G
 | .cat mu a b,σ,m=>(ev a σ m).bind λ(x,B)=>(ev b σ B).bind λ(y,G)=>match x,y with
  | .lst xs,.lst ys=>if xs.length+ys.length<=10000 then aV (bj mu (xs++ys) G) else a0
  | _,_=>a0
 | .cmp o a b,σ,m=>(ev a σ m).bind λ(x,B)=>(ev b σ B).bind λ(y,G)=>(LC o x y).map λc=>(.bl c,G)
 | .Cy a b,σ,m=>(ev a σ m).bind λ(x,B)=>match x with | .bl cf=>ev b σ B | .bl en=>aV (.bl en,B) | _=>a0
 | .tup as,σ,m=>(jo as σ m).bind λ(xs,B)=>if xs.length<=1000 then aV (.tup xs,B) else a0
 | .lst mu as,σ,m=>(jo as σ m).bind λ(xs,B)=>if xs.length<=1000 then aV (bj mu xs B) else a0
 | .Hr mu ks as,σ,m=>(jo as σ m).bind λ(xs,B)=>if xs.length=ks.length/\ks.length<=15 then aV (iN mu (FQ [] [] ks xs).1 (FQ [] [] ks xs).2 B) else a0
 | .ix a b,σ,m=>(ev a σ m).bind λ(x,B)=>(ev b σ B).bind λ(y,G)=>(ke x y G).map λd=>(d,G)
 | .qz a b,σ,m=>(ev a σ m).bind λ(x,B)=>(ev b σ B).bind λ(y,G)=>(HF x G).bind λ(ks,vs)=>(N5 y).bind λk=>(G5 ks vs k).map λd=>(d,G)
 | .oT a b,σ,m=>(ev a σ m).bind λ(x,B)=>(ev b σ B).bind λ(y,G)=>(HF y G).bind λ(ks,vs)=>(N5 x).map λk=>(.bl (!(G5 ks vs k).isSome),G)
 | .sl a lo hi,σ,m=>(ev a σ m).bind λ(x,B)=>(eo lo σ B).bind λ(l,G)=>(eo hi σ G).bind λ(h,O)=>(sP x l h).map λd=>(d,O)
 | .call f as,σ,m=>(jo as σ m).bind λ(xs,B)=>C f xs B
 | .b1 b a,σ,m=>(ev a σ m).bind λ(x,B)=>cw b x B
 | .max2 a b,σ,m=>(ev a σ m).bind λ(x,B)=>(ev b σ B).bind λ(y,G)=>match x,y with | .int i,.int j=>aV (.int (if j > i then j else i),G) | _,_=>a0
 | .get d k z,σ,m=>(ev d σ m).bind λ(x,B)=>(HF x B).bind λ_=>(ev k σ B).bind λ(y,G)=>(ev z σ G).bind λ(u,O)=>(HF x O).bind λ(ks,vs)=>(N5 y).map λk=>((G5 ks vs k).getD u,O)
 | .pop a,σ,m=>(ev a σ m).bind λ(x,B)=>match x with
  | .aI i=>match B[i]? with
   | some (.lst xs)=>(xs[xs.length-1]?).map λd=>(d,B.set i (.lst xs.dropLast))
   | _=>a0
  | _=>a0
 | .app l a,σ,m=>(ev l σ m).bind λ(x,B)=>(G4 x B).bind λ_=>(ev a σ B).bind λ(y,G)=>match x with
  | .aI i=>match G[i]? with
   | some (.lst xs)=>if y.clean&&eH (xs.length<100000) then aV (.aE,G.set i (.lst (xs++[y]))) else a0
   | _=>a0
  | _=>a0
 | .ext l a,σ,m=>(ev l σ m).bind λ(x,B)=>(G4 x B).bind λ_=>(ev a σ B).bind λ(y,G)=>match x with
  | .aI i=>match G[i]?,y with
   | some (.lst xs),.lst ys=>if D.clean.cK ys&&eH (xs.length+ys.length<=100000) then aV (.aE,G.set i (.lst (xs++ys))) else a0
   | some (.lst xs),.tup ys=>if D.clean.cK ys&&eH (xs.length+ys.length<=100000) then aV (.aE,G.set i (.lst (xs++ys))) else a0
   | _,_=>a0
  | _=>a0
 | .index l a,σ,m=>(ev l σ m).bind λ(x,B)=>(G4 x B).bind λ_=>(ev a σ B).bind λ(y,G)=>(G4 x G).bind λxs=>if y.flat&&xs.all D.flat&&eH (xs.length<1000) then (findD y xs 0).map λ(k:Nat)=>(D.int (k:Int),G) else a0
 | .join s l,σ,m=>(ev s σ m).bind λ(x,B)=>(ev l σ B).bind λ(y,G)=>match x with
  | .str sep=>(G4 y G).bind λxs=>(strsOf xs).bind λys=>if (ys.map (·.length)).sum+ys.length*sep.length<=100000 then aV (.str (Txt.join sep ys),G) else a0
  | _=>a0
 | .comp mu k g i t e,σ,m=>if mM σ.length g then (ei i σ m).bind λ(w,B)=>(T6 w (λd m=>(JL g d (σ++i5 k a0)).bind λ U=>(et t U m).bind λ(c,G)=>if c then (ev e U G).map λ(y,O)=>(aV y,O) else aV (a0,G)) w.xs B).bind λ(ys,G)=>
   if ys.length<=1000 then aV (bj mu ys G) else a0
  else a0
 | .Jy mu a b,σ,m=>(ev a σ m).bind λ(x,B)=>(ev b σ B).bind λ(y,G)=>match x,y with
  | .lst xs,.lst ys=>if xs.length<=1000 then aV (bj mu (pX xs ys) G) else a0
  | _,_=>a0
 | .Hw,_,m=>aV (.aI m.length,m++[.fd []])
 | .EB a,σ,m=>(ev a σ m).bind λ(x,B)=>match x with
  | .aI i=>match B[i]? with
   | some (.lst (d::r))=>aV (d,B.set i (.lst r))
   | _=>a0
  | _=>a0
 | .upd d e,σ,m=>(ev d σ m).bind λ(x,B)=>(HF x B).bind λ_=>(ev e σ B).bind λ(y,G)=>match x,y with
  | .aI i,.ao ks vs=>match G[i]? with
   | some (.ao Y Z)=>if D.clean.cK vs&&eH (Y.length+ks.length<=1000) then aV (.aE,G.set i (.ao (FQ Y Z ks vs).1 (FQ Y Z ks vs).2)) else a0
   | _=>a0
  | _,_=>a0
 | .zc d k z,σ,m=>(ev d σ m).bind λ(x,B)=>(HF x B).bind λ_=>(ev k σ B).bind λ(y,G)=>(ev z σ G).bind λ(u,O)=>match x with
  | .aI i=>match O[i]?,N5 y with
   | some (.ao ks vs),aV k=>match G5 ks vs k with
    | some v=>aV (v,O)
    | none=>if u.clean&&eH (ks.length<10000) then aV (u,O.set i (.ao (putD ks vs k u).1 (putD ks vs k u).2)) else a0
   | _,_=>a0
  | _=>a0
 | .A7 a b,σ,m=>(ev a σ m).bind λ(x,B)=>(ev b σ B).bind λ(y,G)=>(ml x).bind λk=>(G4 y G).bind λxs=>(QM xs).map λks=>(.bl (!ks.any λz=>eH (z=k)),G)
noncomputable def jo:jh->DS->Mem->Option (List D×Mem)
 | .nil,_,m=>aV ([],m)
 | .cons a r,σ,m=>(ev a σ m).bind λ(x,C)=>(jo r σ C).map λ(xs,B)=>(x::xs,B)
noncomputable def et:Te->DS->Mem->Option (Bool×Mem)
 | .val a,σ,m=>(ev a σ m).bind λ(x,B)=>(eO x B).map λc=>(c,B)
 | .and a b,σ,m=>(et a σ m).bind λ(c,B)=>if c then et b σ B else aV (en,B)
 | .or a b,σ,m=>(et a σ m).bind λ(c,B)=>if c then aV (cf,B) else et b σ B
 | .not a,σ,m=>(et a σ m).map λ(c,B)=>(!c,B)
 | .tt,_,m=>aV (cf,m)
noncomputable def eo:Oe->DS->Mem->Option (Option Int×Mem)
 | .no,_,m=>aV (a0,m)
 | .pt a,σ,m=>(ev a σ m).bind λ(x,B)=>match x with | .int i=>aV (aV i,B) | _=>a0
noncomputable def ei:Ie->DS->Mem->Option (Walk×Mem)
 | .seq a,σ,m=>(ev a σ m).bind λ(x,B)=>(QF x B).map λxs=>(⟨xs,match x with | .aI i=>aV i | _=>a0⟩,B)
 | .jx a,σ,m=>(ev a σ m).bind λ(x,B)=>match x with | .int j=>if -(2 ^ 62)<=j/\j<2 ^ 62 then aV (⟨(iS j.toNat).map λ(i:Nat)=>.int i,a0⟩,B) else a0 | _=>a0
 | .Bc a b,σ,m=>(ev a σ m).bind λ(x,B)=>(ev b σ B).bind λ(y,C)=>match x,y with
  | .int i,.int j=>if -(2 ^ 62)<=i/\i<2 ^ 62/\-(2 ^ 62)<=j/\j<2 ^ 62 then aV (⟨(iS (j-i).toNat).map λ(n:Nat)=>.int (i+n),a0⟩,C) else a0
  | _,_=>a0
 | .enum a,σ,m=>(ev a σ m).bind λ(x,B)=>match x with | .lst xs=>aV (⟨T5 xs 0,a0⟩,B) | _=>a0
 | .keys a,σ,m=>(ev a σ m).bind λ(x,B)=>match x with | .ao ks _=>aV (⟨ks.map eK,a0⟩,B) | _=>a0
end
inductive Out where | nx (σ:DS) | rt (d:D)
noncomputable def RM(t:DS->Mem->Option (Bool×Mem))(b:DS->Mem->Option (Out×Mem)):Nat->DS->Mem->Option (Out×Mem)
 | 0,_,_=>a0
 | n+1,σ,m=>(t σ m).bind λ(c,G)=>if c then (b σ G).bind λ(o,C)=>match o with
  | .nx B=>RM t b n B C
  | .rt d=>aV (.rt d,C)
  else aV (.nx σ,G)
noncomputable def forL(w:Walk)(g:Tg)(b:DS->Mem->Option (Out×Mem)):List D->DS->Mem->Option (Out×Mem)
 | [],σ,m=>if w.ok m then aV (.nx σ,m) else a0
 | d::r,σ,m=>if w.ok m then (JL g d σ).bind λ B=>(b B m).bind λ(o,G)=>match o with
  | .nx C=>forL w g b r C G
  | .rt x=>aV (.rt x,G)
  else a0
variable(W:Nat)
mutual
noncomputable def ex:Sm->DS->Mem->Option (Out×Mem)
 | .set i a,σ,m=>(ev C a σ m).map λ(x,B)=>(.nx (σ.set i (aV x)),B)
 | .asg g a,σ,m=>(ev C a σ m).bind λ(x,B)=>(JL g x σ).map λ O=>(.nx O,B)
 | .put d k v,σ,m=>(ev C v σ m).bind λ(z,B)=>(ev C d σ B).bind λ(x,G)=>(ev C k σ G).bind λ(y,U)=>match x with
  | .aI i=>match U[i]?,N5 y with
   | some (.ao ks vs),aV k=>if z.clean&&eH (ks.length<10000) then aV (.nx σ,U.set i (.ao (putD ks vs k z).1 (putD ks vs k z).2)) else a0
   | _,_=>a0
  | _=>a0
 | .drop a,σ,m=>(ev C a σ m).map λ(_,B)=>(.nx σ,B)
 | .ret a,σ,m=>(ev C a σ m).map λ(x,B)=>(.rt x,B)
 | .ite t a b,σ,m=>(et C t σ m).bind λ(c,B)=>if c then aT a σ B else aT b σ B
 | .dA t b,σ,m=>RM (et C t) (λ σ m=>aT b σ m) W σ m
 | .fr g i b,σ,m=>(ei C i σ m).bind λ(w,B)=>forL w g (λ σ m=>aT b σ m) w.xs σ B
 | .C2 d k,σ,m=>(ev C d σ m).bind λ(x,B)=>(ev C k σ B).bind λ(y,G)=>match x with
  | .aI i=>match G[i]?,ml y with
   | some (.fd ks),aV k=>if ks.length<10000 then aV (.nx σ,G.set i (.fd (XR ks k))) else a0
   | _,_=>a0
  | _=>a0
noncomputable def aT:bz->DS->Mem->Option (Out×Mem)
 | .nil,σ,m=>aV (.nx σ,m)
 | .cons s r,σ,m=>(ex s σ m).bind λ(o,C)=>match o with
  | .nx B=>aT r B C
  | .rt d=>aV (.rt d,C)
end
end
noncomputable def outD(n:Nat)(m:Mem):D->Option D
 | .aI i=>if i<n then a0 else match m[i]? with
  | some (.lst xs)=>if D.clean.cK xs then aV (.lst xs) else a0
  | some (.ao ks vs)=>if D.clean.cK vs then aV (.ao ks vs) else a0
  | _=>a0
 | d=>if d.clean then aV d else a0
structure Fn where
 ps:Nat
 ns:Nat
 body:bz
noncomputable def BZ(W:Nat)(ae:String->Option Fn):Nat->String->List D->Mem->Option (D×Mem)
 | 0,_,_,_=>a0
 | n+1,f,xs,m=>(ae f).bind λF=>if xs.length=F.ps then
   (aT (BZ W ae n) W F.body (xs.map aV++i5 (F.ns-F.ps) a0) m).bind λ(o,B)=>match o with
    | .rt d=>(outD m.length B d).map λd=>(d,B.take m.length)
    | .nx _=>aV (.aE,B.take m.length)
   else a0
end WL
end
variable{C:String->List WL.D->WL.Mem->Option (WL.D×WL.Mem)}{d:WL.D}{ds:List WL.D}{g:WL.Tg}{ip:WL.Ie}{m:WL.Mem}{pa pb pc:WL.Ex}{ae:String->Option WL.Fn}
namespace WL
open PySem PySem.Spec PyProof.Rows L2
def m5(K:p5)(H:Hp)(a:Addr)(vs:List V):Prop:=∃o:Obj,o.cls=.type "tuple"/\o.dict=a0/\
 (H a=aV (.bp o (.tup vs))\/(K.lookup a=aV o/\∃(its:Array Value) (n:Nat),o.data=.seq its n/\its.size<=sizeLine/\Vals vs its.toList))
def rj(K:p5)(H:Hp)(a:Addr)(vs:List V):Prop:=(∃o,H a=aV (.bp o (.lst vs)))\/
  ∃(o:Obj) (its:Array Value) (n:Nat),K.lookup a=aV o/\o.cls=.type "list"/\o.dict=a0/\o.data=.seq its n/\its.size<=sizeLine/\Vals vs its.toList
theorem m5.sq{vs:List V}(h:m5 K H a vs):eP K H a vs:=by
 obtain⟨o,B,hd,h | ⟨hk,its,n,e,z,r⟩⟩:=h
 .exact .inl (.inr ⟨o,h⟩)
 .exact .inr ⟨o,its,n,hk,B,e,z,r⟩
theorem rj.sq{vs:List V}(h:rj K H a vs):cg K H a vs:=by
 rcases h with ⟨o,h⟩ | h
 .exact .inl (.inr ⟨o,h⟩)
 .exact .inr h
mutual
def At(K:p5)(ρ:List Addr)(H:Hp):D->V->Prop
 | .aE,v=>v=.aE
 | .bl b,v=>v=.bl b
 | .int i,v=>v=.int i
 | .str x,v=>v=.str x
 | .tup xs,v=>∃a vs,v=.ref a/\m5 K H a vs/\a7 K ρ H xs vs
 | .lst xs,v=>∃a o vs,v=.ref a/\H a=aV (.bp o (.lst vs))/\a7 K ρ H xs vs
 | .ao ks xs,v=>∃a o kvs,v=.ref a/\H a=aV (.bp o (.dK kvs))/\kvs.map (·.1)=ks/\a7 K ρ H xs (kvs.map (·.2))
 | .b9 ns,v=>∃a,v=.ref a/\rj K H a (ns.map V.int)
 | .aI i,v=>∃a,ρ[i]?=aV a/\v=.ref a
def a7(K:p5)(ρ:List Addr)(H:Hp):List D->List V->Prop
 | [],vs=>vs=[]
 | d::r,vs=>∃v B,vs=v::B/\At K ρ H d v/\a7 K ρ H r B
end
def HS(H aa:Hp):Prop:=∀a o u,H a=aV (.bp o u)->aa a=aV (.bp o u)
def jk(ρ ρ':List Addr):Prop:=∀(i:Nat) (a:Addr),ρ[i]?=aV a->ρ'[i]?=aV a
theorem jk.refl(ρ:List Addr):jk ρ ρ:=λ_ _ h=>h
theorem jk.pre(h:ρ <+: ρ'):jk ρ ρ':=λi a e=>by
 obtain⟨t,rfl⟩:=h;have hi:=(fx.mp e).1;rw[km hi];exact e
theorem jk.take(ρ:List Addr)(n:Nat):jk (ρ.take n) ρ:=jk.pre (List.take_prefix n ρ)
theorem m5.mono(B:HS H aa){vs:List V}:m5 K H a vs->m5 K aa a vs
 | ⟨o,c,d,.inl h⟩=>⟨o,c,d,.inl (B _ _ _ h)⟩
 | ⟨o,c,d,.inr h⟩=>⟨o,c,d,.inr h⟩
theorem rj.mono(B:HS H aa){vs:List V}:rj K H a vs->rj K aa a vs
 | .inl C=>by
  obtain⟨o,h⟩:=C;exact .inl ⟨o,B _ _ _ h⟩
 | .inr h=>.inr h
mutual
theorem At.dn(C:HS H aa)(G:jk ρ ρ'):∀{d:D} {v:V},At K ρ H d v->At K ρ' aa d v
 | .aE,_,h=>h
 | .bl _,_,h=>h
 | .int _,_,h=>h
 | .str _,_,h=>h
 | .tup _,_,B=>by
  obtain⟨a,vs,e,h,q⟩:=B;exact⟨a,vs,e,h.mono C,a7.dn C G q⟩
 | .lst _,_,B=>by
  obtain⟨a,o,vs,e,h,q⟩:=B;exact⟨a,o,vs,e,C _ _ _ h,a7.dn C G q⟩
 | .ao _ _,_,B=>by
  obtain⟨a,o,kvs,e,h,k,q⟩:=B;exact⟨a,o,kvs,e,C _ _ _ h,k,a7.dn C G q⟩
 | .b9 _,_,B=>by
  obtain⟨a,e,h⟩:=B;exact⟨a,e,h.mono C⟩
 | .aI _,_,B=>by
  obtain⟨a,h,e⟩:=B;exact⟨a,G _ _ h,e⟩
theorem a7.dn(C:HS H aa)(B:jk ρ ρ'):∀{d:List D} {v:List V},a7 K ρ H d v->a7 K ρ' aa d v
 | [],_,h=>h
 | _::_,_,G=>by
  obtain⟨a,b,e,p,q⟩:=G;exact⟨a,b,e,At.dn C B p,a7.dn C B q⟩
end
mutual
theorem At.clean(B:HS H aa):∀{d:D} {v:V},d.clean=cf->At K ρ H d v->At K ρ' aa d v
 | .aE,_,_,h=>h
 | .bl _,_,_,h=>h
 | .int _,_,_,h=>h
 | .str _,_,_,h=>h
 | .tup _,_,c,C=>by
  obtain⟨a,vs,e,h,q⟩:=C;exact⟨a,vs,e,h.mono B,a7.clean B c q⟩
 | .lst _,_,c,C=>by
  obtain⟨a,o,vs,e,h,q⟩:=C;exact⟨a,o,vs,e,B _ _ _ h,a7.clean B c q⟩
 | .ao _ _,_,c,C=>by
  obtain⟨a,o,kvs,e,h,k,q⟩:=C;exact⟨a,o,kvs,e,B _ _ _ h,k,a7.clean B c q⟩
 | .b9 _,_,_,C=>by
  obtain⟨a,e,h⟩:=C;exact⟨a,e,h.mono B⟩
 | .aI _,_,c,_=>nomatch c
theorem a7.clean(B:HS H aa):∀{d:List D} {v:List V},D.clean.cK d=cf->a7 K ρ H d v->a7 K ρ' aa d v
 | [],_,_,h=>h
 | _::_,_,c,G=>by
  obtain⟨a,b,e,p,q⟩:=G;have C:=Bool.and_eq_true_iff.mp c;exact⟨a,b,e,At.clean B C.1 p,a7.clean B C.2 q⟩
end
theorem a7.len:∀{ds:List D} {vs:List V},a7 K ρ H ds vs->vs.length=ds.length
 | [],_,h=>by cases (show _=[] from h);rfl
 | _::_,_,⟨_,_,e,_,q⟩=>by subst e;simp[a7.len q]
theorem a7.get:∀{ds:List D} {vs:List V} {i:Nat} {d:D},a7 K ρ H ds vs->ds[i]?=aV d->∃v,vs[i]?=aV v/\At K ρ H d v
 | [],_,_,_,_,e=>by simp at e
 | _::_,_,0,_,B,C=>by
  obtain⟨v,_,e,p,_⟩:=B;subst e;have:=b5 (by simpa using C);subst this;exact⟨v,rfl,p⟩
 | _::_,_,i+1,_,B,C=>by
  obtain⟨v,_,e,p,q⟩:=B;subst e;obtain⟨w,O,G⟩:=a7.get (i:=i) q (by simpa using C);exact⟨w,by simpa using O,G⟩
theorem a7.app:∀{as bs:List D} {vs us:List V},a7 K ρ H as vs->a7 K ρ H bs us->a7 K ρ H (as++bs) (vs++us)
 | [],_,_,_,h,h'=>by cases (show _=[] from h);exact h'
 | _::_,_,_,_,⟨v,r,e,p,q⟩,h'=>by subst e;exact⟨v,r++_,rfl,p,a7.app q h'⟩
theorem a7.one{v:V}(h:At K ρ H d v):a7 K ρ H [d] [v]:=⟨v,[],rfl,h,rfl⟩
theorem a7.snoc{vs:List V}{v:V}(h:a7 K ρ H ds vs)(h':At K ρ H d v):a7 K ρ H (ds++[d]) (vs++[v]):=h.app (.one h')
theorem a7.take:∀{ds:List D} {vs:List V} (n:Nat),a7 K ρ H ds vs->a7 K ρ H (ds.take n) (vs.take n)
 | [],_,n,h=>by cases (show _=[] from h);simp[a7]
 | _::_,_,0,_=>rfl
 | _::_,_,n+1,⟨v,r,e,p,q⟩=>by subst e;exact⟨v,r.take n,rfl,p,a7.take n q⟩
theorem a7.drop:∀{ds:List D} {vs:List V} (n:Nat),a7 K ρ H ds vs->a7 K ρ H (ds.drop n) (vs.drop n)
 | [],_,n,h=>by cases (show _=[] from h);simp[a7]
 | _::_,_,0,h=>h
 | _::_,_,n+1,⟨v,r,e,p,q⟩=>by subst e;exact a7.drop n q
theorem a7.rev:∀{ds:List D} {vs:List V},a7 K ρ H ds vs->a7 K ρ H ds.reverse vs.reverse
 | [],_,h=>by cases (show _=[] from h);rfl
 | _::_,_,B=>by
  obtain⟨v,r,e,p,q⟩:=B;subst e;rw[List.reverse_cons,List.reverse_cons];exact(a7.rev q).snoc p
theorem a7.ints:∀(ns:List Int),a7 K ρ H (ns.map D.int) (ns.map V.int)
 | []=>rfl
 | n::r=>⟨_,_,rfl,rfl,a7.ints r⟩
def oe(K:p5)(ρ:List Addr)(H:Hp)(a:Addr):MO->Prop
 | .lst xs=>∃vs,H a=aV (.lst vs)/\a7 K ρ H xs vs
 | .ao ks xs=>∃kvs,H a=aV (.dK kvs)/\kvs.map (·.1)=ks/\a7 K ρ H xs (kvs.map (·.2))
 | .fd ks=>∃xs:List (FK×Addr),H a=aV (.dF xs)/\xs.map (·.1)=ks/\∀x∈xs,At K ρ H (fD x.1) (.ref x.2)
structure bo(K:p5)(ρ:List Addr)(m:Mem)(H:Hp):Prop where
 len:ρ.length=m.length
 nd:ρ.Nodup
 at':∀(j:Nat) (a:Addr) (o:MO),ρ[j]?=aV a->m[j]?=aV o->oe K (ρ.take j) H a o
structure Go(ρ ρ':List Addr)(H aa:Hp):Prop where
 fr:∀b o,H b=aV o->b∉ρ->aa b=aV o
 ex:ρ <+: ρ'
 nw:∀b∈ρ',b∈ρ\/H b=a0
def eQ(K:p5)(ρ:List Addr)(H:Hp)(B:DS)(σ:L2.St):Prop:=B.length=σ.length/\∀(i:Nat) (d:D),B[i]?=aV (aV d)->∃v,σ[i]?=aV (aV v)/\At K ρ H d v
section
variable{aq cp:List Addr}{H1 H2:Hp}{af:Mem}
theorem oe.mono(G:HS H aa)(C:jk ρ ρ'):∀{o:MO},oe K ρ H a o->aa a=H a->oe K ρ' aa a o
 | .lst _,B,h=>by
  obtain⟨vs,e,q⟩:=B;exact⟨vs,h.trans e,q.dn G C⟩
 | .ao _ _,B,h=>by
  obtain⟨kvs,e,k,q⟩:=B;exact⟨kvs,h.trans e,k,q.dn G C⟩
 | .fd _,B,h=>by
  obtain⟨xs,e,k,q⟩:=B;exact⟨xs,h.trans e,k,λx O=>(q x O).dn G C⟩
theorem oe.ne:∀{o:MO},oe K ρ H a o->∃u,H a=aV u/\∀ob w,u≠.bp ob w
 | .lst _,⟨vs,e,_⟩=>⟨_,e,λ_ _ z=>nomatch z⟩
 | .ao _ _,⟨vs,e,_⟩=>⟨_,e,λ_ _ z=>nomatch z⟩
 | .fd _,⟨vs,e,_⟩=>⟨_,e,λ_ _ z=>nomatch z⟩
theorem bo.obj(M:bo K ρ m H)(h:a∈ρ):∃j o,ρ[j]?=aV a/\m[j]?=aV o/\oe K (ρ.take j) H a o:=by
 obtain⟨j,C,e⟩:=kR h;have G:ρ[j]?=aV a:=by rw[eg C,e]
 have B:j<m.length:=by rw[<-M.len];exact C
 exact⟨j,m[j],G,eg B,M.at' j a _ G (eg B)⟩
theorem bo.there(M:bo K ρ m H)(h:a∈ρ):∃u,H a=aV u/\∀ob w,u≠.bp ob w:=by
 obtain⟨j,o,_,_,q⟩:=M.obj h;exact q.ne
theorem bo.Xr(M:bo K ρ m H){o:Obj}{u:HO}(h:H a=aV (.bp o u)):a∉ρ:=λq=>by
 obtain⟨w,e,n⟩:=M.there q;rw[h]at e;exact n o u (b5 e).symm
theorem bo.fresh(M:bo K ρ m H)(h:H a=a0):a∉ρ:=λq=>by
 obtain⟨w,e,n⟩:=M.there q;rw[h]at e;cases e
theorem Go.fz(M:bo K ρ m H)(g:Go ρ ρ' H aa):HS H aa:=λa o u h=>g.fr a _ h (M.Xr h)
theorem Go.refl(ρ:List Addr)(H:Hp):Go ρ ρ H H:=⟨λ_ _ h _=>h,OW,λ_ h=>.inl h⟩
theorem Go.trans(a:Go ρ aq H H1)(b:Go aq cp H1 H2):Go ρ cp H H2 where
 fr:=λc o h n=>b.fr c o (a.fr c o h n) λz=>(a.nw c z).elim n λq=>by rw[h]at q;cases q
 ex:=a.ex.trans b.ex
 nw:=λc h=>by
  rcases b.nw c h with z | z
  .exact a.nw c z
  .by_cases B:c∈ρ
   .exact .inl B
   .cases q:H c with
    | none=>exact .inr rfl
    | some o=>rw[a.fr c o q B]at z;cases z
theorem At.mono(M:bo K ρ m H)(g:Go ρ ρ' H aa){v:V}(h:At K ρ H d v):At K ρ' aa d v:=h.dn (g.fz M) (.pre g.ex)
theorem a7.mono(M:bo K ρ m H)(g:Go ρ ρ' H aa){d:List D}{v:List V}(h:a7 K ρ H d v):a7 K ρ' aa d v:=h.dn (g.fz M) (.pre g.ex)
theorem eQ.dn(G:HS H aa)(C:jk ρ ρ'){B:DS}{σ:L2.St}(h:eQ K ρ H B σ):eQ K ρ' aa B σ:=⟨h.1,λi d e=>let ⟨v,O,a⟩:=h.2 i d e;⟨v,O,a.dn G C⟩⟩
theorem eQ.mono(M:bo K ρ m H)(g:Go ρ ρ' H aa){B:DS}{σ:L2.St}(h:eQ K ρ H B σ):eQ K ρ' aa B σ:=h.dn (g.fz M) (.pre g.ex)
theorem eQ.set{C:DS}{σ:L2.St}(h:eQ K ρ H C σ)(i:Nat){d:D}{v:V}(a:At K ρ H d v):eQ K ρ H (C.set i (aV d)) (σ.set i (aV v)):=by
 refine⟨by simpa using h.1,λj e q=>?_⟩
 by_cases B:i=j
 .subst B
  have hi:i<C.length:=by
   have:=(fx.mp q).1;simpa using this
  rw[lh hi]at q;have O:d=e:=b5 (b5 q);subst O;exact⟨v,lh (by rw[<-h.1];exact hi),a⟩
 .rw[k6 B]at q
  obtain⟨w,G,U⟩:=h.2 j e q;exact⟨w,by rw[k6 B];exact G,U⟩
theorem qC{p:Addr}{o:HO}(hp:H p=a0):HS H (upd H p o):=λa ob u h=>by rw[CJ (FZ h hp)];exact h
theorem Q9{p:Addr}{o:HO}(hp:H p=a0):Go ρ ρ H (upd H p o):=⟨λb ob h _=>by rw[CJ (FZ h hp)];exact h,OW,λ_ h=>.inl h⟩
theorem bo.keep(M:bo K ρ m H)(C:HS H aa)(h:∀a∈ρ,aa a=H a):bo K ρ m aa:=
 ⟨M.len,M.nd,λj a o B G=>(M.at' j a o B G).mono C (.refl _) (h a (gL B))⟩
theorem bo.new(M:bo K ρ m H){p:Addr}{o:HO}(hp:H p=a0):bo K ρ m (upd H p o):=
 M.keep (qC hp) λa B=>CJ λe=>M.fresh hp (e▸B)
theorem bo.push(M:bo K ρ m H){p:Addr}{o:HO}{q:MO}(hp:H p=a0)(h:oe K ρ (upd H p o) p q):bo K (ρ++[p]) (m++[q]) (upd H p o):=by
 have O:p∉ρ:=M.fresh hp;refine⟨by simp[M.len],qu.mpr ⟨M.nd,by simp,λa Z b Y=>?_⟩,λj a u B C=>?_⟩
 .have:b=p:=by simpa using Y
  subst this;exact λz=>O (z▸Z)
 .by_cases G:j<ρ.length
  .rw[km G]at B
   rw[km (by rw[<-M.len];exact G)]at C;rw[ym (mf G)];exact(M.at' j a u B C).mono (qC hp) (.refl _) (CJ λe=>O (e▸gL B))
  .have U:j=ρ.length:=by
    have:=(fx.mp B).1;simp at this;lia
   subst U;have CF:p=a:=by simpa using B
   rw[M.len]at C;have CH:q=u:=by simpa using C
   subst CF CH;rw[ym (a8 _),List.take_length];exact h
theorem jT(M:bo K ρ m H){p:Addr}{o:HO}(hp:H p=a0):Go ρ (ρ++[p]) H (upd H p o):=⟨λb ob h _=>by rw[CJ (FZ h hp)];exact h,List.prefix_append _ _,λb h=>by
 rcases dg h with h | h
 .exact .inl h
 .have:b=p:=by simpa using h
  subst this;exact .inr hp⟩
theorem bo.write(M:bo K ρ m H){o:HO}{q:MO}(B:ρ[j]?=aV a)(h:oe K (ρ.take j) (upd H a o) a q):bo K ρ (m.set j q) (upd H a o)/\Go ρ ρ H (upd H a o):=by
 have O:a∈ρ:=gL B;obtain⟨u,Y,U⟩:=M.there O;have hf:HS H (upd H a o):=λb ob w e=>by
  rw[CJ]
  .exact e
  .rintro rfl;rw[Y]at e;exact U ob w (b5 e)
 have Z:j<ρ.length:=(fx.mp B).1;refine⟨⟨by simpa using M.len,M.nd,λi b w G C=>?_⟩,λb ob e n=>by rw[CJ λz=>n (by rw[z];exact O)];exact e,OW,λ_ h=>.inl h⟩
 by_cases hi:j=i
 .subst hi
  rw[lh (by rw[<-M.len];exact Z)]at C;rw[B]at G;cases G;cases C;exact h
 .rw[k6 hi]at C
  refine(M.at' i b w G C).mono hf (.refl _) (CJ ?_);rintro rfl;obtain⟨h1,e3⟩:=fx.mp B;obtain⟨h2,e4⟩:=fx.mp G;exact hi ((List.getElem_inj M.nd).mp (e3.trans e4.symm))
theorem bo.cut(M:bo K ρ m H)(n:Nat):bo K (ρ.take n) (m.take n) H:=by
 refine⟨by simp[M.len],M.nd.sublist (List.take_sublist n ρ),λj a o B G=>?_⟩;have C:j<n:=by
  have:=(fx.mp B).1;simp at this;lia
 rw[List.getElem?_take_of_lt C]at B G;rw[List.take_take,Nat.min_eq_left (mf C)];exact M.at' j a o B G
end
def gW:HO->Prop
 | .lst _=>True
 | .dK _=>True
 | _=>False
section
variable{σ:L2.St}
theorem freeze(I:Inv X pi σ H s){u:HO}(h:H a=aV u)(C:gW u):∃o,Inv X pi σ (upd H a (.bp o u)) s:=by
 obtain⟨o,Y⟩:∃o,s.heap.get? a=aV o:=by
  have q:=I.aS a u h;cases u with
  | lst xs=>obtain⟨_,_,_,_,e⟩:=q;exact⟨_,e⟩
  | dK kvs=>obtain⟨_,_,_,_,o,_,_,e,_⟩:=q;exact⟨o,e⟩
  | _=>exact False.elim C
 have nn:∀b,H b=a0->b≠a:=λb n z=>by subst z;rw[h]at n;cases n
 have B:∀b w,H b=aV w->¬gW w->b≠a:=λb w n c z=>by subst z;rw[h]at n;cases n;exact c C
 refine⟨o,I.ok,I.os,I.bare,⟨I.base.keep,I.base.slot,λb ob e n U=>?_,I.base.there,λb xs e=>?_,λb ob w e=>?_,λb ps e=>?_⟩,I.loc,I.cell,?_,λx c e=>?_,λp hp=>?_,λb w e=>?_,I.len⟩
 .have q:=I.base.free b ob e n U
  rw[CJ (nn b q)];exact q
 .have q:=I.base.mT b xs e
  rw[CJ (B b _ q λz=>z)];exact q
 .have q:=I.base.nB b ob w e
  rw[CJ (B b _ q λz=>z)];exact q
 .obtain⟨more,q⟩:=I.base.o6 b ps e
  exact⟨more,by rw[CJ (B b _ q λz=>z)];exact q⟩
 .rw[CJ (nn _ I.free)];exact I.free
 .rw[CJ (nn _ (I.mq x c e))];exact I.mq x c e
 .obtain⟨e1,O,Z⟩:=I.pin p hp
  exact⟨e1,by rw[CJ (nn _ O)];exact O,Z⟩
 .have st:∀{c:Addr} {x:HO},dS X.prog X.w H s.heap c x->dS X.prog X.w (upd H a (.bp o u)) s.heap c x:=λ {c x} q=>
   q.ig (λ_ _ _ z=>z) (λd z=>by rw[CJ (B d _ z λz=>z)];exact z) λd xs z=>by rw[CJ (B d _ z λz=>z)];exact z
  by_cases G:b=a
  .subst G
   rw[CT]at e;cases e;exact⟨Y,st (I.aS b u h)⟩
  .rw[CJ G]at e
   exact st (I.aS b w e)
def Fz(Q:VK):VK:=λv H=>Q v H\/∃a u,v=.ref a/\H a=aV u/\gW u/\∀o,Q v (upd H a (.bp o u))
theorem _root_.L2.EP.fz{Q:VK}(h:EP X pi σ (Fz Q) u s):EP X pi σ Q u s:=by
 obtain⟨v,aa,I,r,q | ⟨a,w,e,C,c,q⟩⟩:=h
 .exact⟨v,aa,I,r,q⟩
 .obtain⟨o,B⟩:=freeze I C c
  exact⟨v,_,B,r,q o⟩
end
section
variable{t t':TE}
theorem _root_.L2.PE.fz(h:PE X e t):PE X e (λ σ H Q=>t σ H (Fz Q)):=λpi s σ H Q I q=>a9 (h pi s σ H _ I q) λ_ _ z=>L2.EP.fz z
theorem _root_.L2.PE.imp(h:PE X e t)(hi:∀σ H Q,t' σ H Q->t σ H Q):PE X e t':=λpi s σ H Q I q=>h pi s σ H Q I (hi σ H Q q)
theorem _root_.L2.PE.sA(h:PE X e t)(hi:∀σ H Q,t' σ H Q->t σ H (Fz Q)):PE X e t':=h.fz.imp hi
theorem _root_.L2.PT.imp{t t':TT}(h:PT X e t)(hi:∀σ H Q,t' σ H Q->t σ H Q):PT X e t':=λpi s σ H Q I q=>h pi s σ H Q I (hi σ H Q q)
theorem _root_.L2.PW.imp{t t':TT}(h:PW X e t)(hi:∀σ H Q,t' σ H Q->t σ H Q):PW X e t':=λw pi s σ H Q I q=>h w pi s σ H Q I (hi σ H Q q)
theorem _root_.L2.PA.imp{t t':TA}(h:PA X es t)(hi:∀σ H Q,t' σ H Q->t σ H Q):PA X es t':=λpos pi s σ H Q I q=>h pos pi s σ H Q I (hi σ H Q q)
theorem _root_.L2.PO.imp{e:Option Expr}{t t':TO}(h:PO X e t)(hi:∀σ H Q,t' σ H Q->t σ H Q):PO X e t':=λpi s σ H Q I q=>h pi s σ H Q I (hi σ H Q q)
theorem _root_.L2.PS.imp{t t':TS}(h:PS X st t)(hi:∀D σ H,t' D σ H->t D σ H):PS X st t':=λpi s σ H D I q=>h pi s σ H D I (hi D σ H q)
theorem _root_.L2.eM.imp{st:List Stmt}{t t':TS}(h:eM X st t)(hi:∀D σ H,t' D σ H->t D σ H):eM X st t':=λpi s σ H D I q=>h pi s σ H D I (hi D σ H q)
end
section
variable(C:String->List D->Mem->Option (D×Mem))(W:Nat)(K:p5)
def eA(ρ:List Addr)(H:Hp)(d:D)(B:Mem)(Q:VK):Prop:=∀v aa ρ',Go ρ ρ' H aa->bo K ρ' B aa->At K ρ' aa d v->Q v aa
def tD(p:Ex):TE:=λ σ H Q=>∃B m ρ d G,eQ K ρ H B σ/\bo K ρ m H/\ev C p B m=aV (d,G)/\eA K ρ H d G Q
def uz(p:jh):TA:=λ σ H Q=>∃B m ρ ds G,eQ K ρ H B σ/\bo K ρ m H/\jo C p B m=aV (ds,G)/\∀vs aa ρ',Go ρ ρ' H aa->bo K ρ' G aa->a7 K ρ' aa ds vs->Q vs aa
def gb(p:Te):TT:=λ σ H Q=>∃B m ρ c G,eQ K ρ H B σ/\bo K ρ m H/\et C p B m=aV (c,G)/\∀aa ρ',Go ρ ρ' H aa->bo K ρ' G aa->Q c aa
def Bo(p:Oe):TO:=λ σ H Q=>∃B m ρ c G,eQ K ρ H B σ/\bo K ρ m H/\eo C p B m=aV (c,G)/\∀aa ρ',Go ρ ρ' H aa->bo K ρ' G aa->Q c aa
def o5(g:Tg):TG:=λv σ H Q=>∃G ρ d C,eQ K ρ H G σ/\At K ρ H d v/\JL g d G=aV C/\∀B,eQ K ρ H C B->Q B H
noncomputable def zp(O:List Tg):qa:=λvs σ H Q=>∃G ρ ds C,eQ K ρ H G σ/\a7 K ρ H ds vs/\O5 O ds G=aV C/\∀B,eQ K ρ H C B->Q B H
def zS(ρ:List Addr)(H:Hp)(o:Out)(G:Mem)(E:Ends):Prop:=∀aa ρ',Go ρ ρ' H aa->bo K ρ' G aa->match o with
 | .nx C=>∀B,eQ K ρ' aa C B->E.nx B aa
 | .rt d=>∀v,At K ρ' aa d v->E.rt v aa
def mP(p:Sm):TS:=λE σ H=>∃B m ρ o G,eQ K ρ H B σ/\bo K ρ m H/\ex C W p B m=aV (o,G)/\zS K ρ H o G E
def YD(p:bz):TS:=λE σ H=>∃B m ρ o G,eQ K ρ H B σ/\bo K ρ m H/\aT C W p B m=aV (o,G)/\zS K ρ H o G E
end
section
variable{aq:List Addr}{H1:Hp}{m1 af:Mem}{Q:VK}
theorem eA.go(h:eA K ρ H d af Q)(g:Go ρ aq H H1):eA K aq H1 d af Q:=λv aa ρ' B M A=>h v aa ρ' (g.trans B) M A
theorem eA.here(h:eA K ρ H d m1 Q)(M:bo K ρ m1 H){v:V}(A:At K ρ H d v):Q v H:=h v H ρ (.refl _ _) M A
theorem eA.tup{xs:List D}{vs:List V}(h:eA K ρ H (.tup xs) m1 Q)(M:bo K ρ m1 H)(A:a7 K ρ H xs vs){p:Addr}(hp:H p=a0){o:Obj}(B:o.cls=.type "tuple")(hd:o.dict=a0):Q (.ref p) (upd H p (.bp o (.tup vs))):=
 h _ _ ρ (Q9 hp) (M.new hp) ⟨p,vs,rfl,⟨o,B,hd,.inl CT⟩,A.mono M (Q9 hp)⟩
theorem eA.lst{mu:Bool}{xs:List D}{vs:List V}(h:eA K ρ H (bj mu xs m1).1 (bj mu xs m1).2 Q)(M:bo K ρ m1 H)(A:a7 K ρ H xs vs){p:Addr}(hp:H p=a0):Fz Q (.ref p) (upd H p (.lst vs)):=by
 have KI:a7 K ρ (upd H p (.lst vs)) xs vs:=A.mono M (Q9 hp);cases mu with
 | true=>
  refine .inl (h _ _ (ρ++[p]) (jT M hp) (M.push hp ⟨vs,CT,KI⟩) ⟨p,?_,rfl⟩);rw[<-M.len];simp
 | false=>
  refine .inr ⟨p,_,rfl,CT,trivial,λo=>?_⟩;rw[tR];exact h _ _ ρ (Q9 hp) (M.new hp) ⟨p,o,vs,rfl,CT,A.mono M (Q9 hp)⟩
theorem eA.ao{xs:List D}(h:eA K ρ H (iN mu ks xs m1).1 (iN mu ks xs m1).2 Q)(M:bo K ρ m1 H)(hk:kvs.map (·.1)=ks)(A:a7 K ρ H xs (kvs.map (·.2))){p:Addr}(hp:H p=a0):
  Fz Q (.ref p) (upd H p (.dK kvs)):=by
 cases mu with
 | true=>
  refine .inl (h _ _ (ρ++[p]) (jT M hp) (M.push hp ⟨kvs,CT,hk,A.mono M (Q9 hp)⟩) ⟨p,?_,rfl⟩);rw[<-M.len];simp
 | false=>
  refine .inr ⟨p,_,rfl,CT,trivial,λo=>?_⟩;rw[tR];exact h _ _ ρ (Q9 hp) (M.new hp) ⟨p,o,kvs,rfl,CT,hk,A.mono M (Q9 hp)⟩
end
noncomputable def zv(sc:Scope)(x:Str):Bool:=match sc.names.lookup x with | some .local=>cf | some .cell=>cf | _=>en
noncomputable def Cc(sc:Scope)(x:Str):Bool:=match sc.names.lookup x with | some .local=>cf | some .cell=>cf | some .free=>cf | _=>en
noncomputable def C1(X:Cx)(x:Str):Bool:=X.fn x||(match X.env.scope.names.lookup x with | some .local=>cf | _=>en)
theorem Fl{sc:Scope}(h:zv sc x=cf):Loc sc x:=by unfold zv at h;split at h<;>first | exact Or.inl (by assumption) | exact Or.inr (by assumption) | cases h
theorem Pf{sc:Scope}(h:Cc sc x=cf):Ak sc x:=by unfold Cc at h;split at h<;>first | exact Or.inl (by assumption) | exact Or.inr (Or.inl (by assumption)) | exact Or.inr (Or.inr (by assumption)) | cases h
theorem vH(h:C1 X x=cf):X.fn x=cf\/X.env.scope.names.lookup x=aV .local:=by
 rcases Bool.or_eq_true_iff.mp h with h | h
 .exact .inl h
 .split at h<;>first | exact .inr (by assumption) | cases h
theorem BJ(i:Nat)(O:X.N[i]?=aV x:=by kernel_rfl)(G:Cc X.env.scope x=cf:=by kernel_rfl)(hd:(x==("__debug__" : Str))=en:=by decide)(B:(x==("__classdict__" : Str))=en:=by decide):PE X (.Name x pos) (tD C X.K (.var i)):=(O2 O (Pf G) hd B).imp λ σ H Q Z=>by
 obtain⟨Y,m,ρ,d,af,S,M,e,q⟩:=Z;change (match Y[i]? with | some (aV d)=>aV (d,m) | _=>a0)=_ at e;split at e
 .rename_i d' hd
  cases e;obtain⟨v,U,a⟩:=S.2 i _ hd;exact⟨v,U,q.here M a⟩
 .cases e
theorem YJ{v:V}(h:PE X e (tC v))(a:∀ρ H,At X.K ρ H d v):PE X e (tD C X.K (.con d)):=h.imp λ σ H Q B=>by
 obtain⟨O,m,ρ,G,U,S,M,e,q⟩:=B;cases e;exact q.here M (a ρ H)
theorem BP{i:Int}{j pos}:PE X (.Constant (.int i) j pos) (tD C X.K (.con (.int i))):=YJ qW λ_ _=>rfl
theorem W7{i:Bool}{j pos}:PE X (.Constant (.bool i) j pos) (tD C X.K (.con (.bl i))):=YJ F8 λ_ _=>rfl
theorem DG{i:Str}{j pos}:PE X (.Constant (.str i) j pos) (tD C X.K (.con (.str i))):=YJ Qc λ_ _=>rfl
theorem j9{j pos}:PE X (.Constant .none j pos) (tD C X.K (.con .aE)):=YJ Qe λ_ _=>rfl
theorem BR:PA X [] (uz C X.K .nil):=(JC (X:=X)).imp λ σ H Q B=>by
 obtain⟨G,m,ρ,ds,O,S,M,e,q⟩:=B;cases e;exact q [] H ρ (.refl _ _) M rfl
theorem BK{p:Ex}{ps:jh}(Z:PE X e (tD C X.K p))(Y:PA X es (uz C X.K ps))(hs:gm (e::es) X.env=(en,eval e X.env)::gm es X.env:=by kernel_rfl):PA X (e::es) (uz C X.K (.cons p ps)):=
 (GK Z Y hs).imp λ σ H Q ai=>by
 obtain⟨U,m,ρ,ds,af,S,M,e,q⟩:=ai;obtain⟨⟨x,B⟩,e1,e⟩:=az e;obtain⟨⟨xs,m2⟩,e2,e⟩:=bX e;cases e;refine⟨U,m,ρ,x,B,S,M,e1,λv H1 aq O M1 A1=>⟨U,B,aq,xs,af,S.mono M O,M1,e2,λvs H2 cp G M2 A2=>q _ H2 cp (O.trans G) M2 ⟨v,vs,rfl,A1.mono M1 G,A2⟩⟩⟩
def zG(K:p5)(f:D->D->Mem->Option (D×Mem))(r:R2):Prop:=∀(ρ:List Addr) (m G:Mem) (H:Hp) (C B d:D) (x y:V) (Q:VK),
 bo K ρ m H->At K ρ H C x->At K ρ H B y->f C B m=aV (d,G)->eA K ρ H d G Q->r x y H (Fz Q)
theorem Fz.of{Q:VK}{v:V}(h:Q v H):Fz Q v H:=.inl h
theorem S5{p:Ex}{r:R2}{f:D->D->Mem->Option (D×Mem)}(h:PE X e (uA r (tD C X.K pa) (tD C X.K pb)))(Z:zG X.K f r)(he:∀σ m,ev C p σ m=(ev C pa σ m).bind λz=>(ev C pb σ z.2).bind λy=>f z.1 y.1 y.2):PE X e (tD C X.K p):=
 h.sA λ σ H Q ai=>by
 obtain⟨Y,m,ρ,d,af,S,M,e,q⟩:=ai;rw[he]at e;obtain⟨⟨x,G⟩,e1,e⟩:=az e;obtain⟨⟨y,B⟩,e2,e⟩:=az e;exact⟨Y,m,ρ,x,G,S,M,e1,λv H1 aq U M1 A1=>⟨Y,G,aq,y,B,S.mono M U,M1,e2,λw H2 cp O M2 A2=>Z cp B af H2 x y d v w Q M2 (A1.mono M1 O) A2 e (q.go (U.trans O))⟩⟩
def GN(K:p5)(f:D->Mem->Option (D×Mem))(r:V->Hp->VK->Prop):Prop:=∀(ρ:List Addr) (m C:Mem) (H:Hp) (B d:D) (x:V) (Q:VK),
 bo K ρ m H->At K ρ H B x->f B m=aV (d,C)->eA K ρ H d C Q->r x H (Fz Q)
theorem V9{p:Ex}{r:V->Hp->VK->Prop}{f:D->Mem->Option (D×Mem)}(h:PE X e (λ σ H Q=>tD C X.K pa σ H λx B=>r x B Q))(O:GN X.K f r)(U:∀σ m,ev C p σ m=(ev C pa σ m).bind λz=>f z.1 z.2):PE X e (tD C X.K p):=
 h.sA λ σ H Q ai=>by
 obtain⟨aj,m,ρ,d,af,S,M,e,q⟩:=ai;rw[U]at e;obtain⟨⟨x,G⟩,Z,e⟩:=az e;exact⟨aj,m,ρ,x,G,S,M,Z,λv B aq Y M1 A1=>O aq G af B x d v Q M1 A1 e (q.go Y)⟩
section
theorem J3(h:n<=100000):n<=sizeLine:=fN h (by rw[fS];decide)
def BF(K:p5):R2:=λx y H Q=>∃a b xs ys,x=.ref a/\y=.ref b/\m5 K H a xs/\m5 K H b ys/\xs.length+ys.length<=sizeLine/\
 (xs=[]->Q (.ref b) H)/\(xs≠[]->ys=[]->Q (.ref a) H)/\(xs≠[]->ys≠[]->∀p o,H p=a0->o.cls=.type "tuple"->o.dict=a0->Q (.ref p) (upd H p (.bp o (.tup (xs++ys)))))
theorem NF:eB X (binaryOp .Add) (BF X.K):=by
 intro pi s σ H x y v u Q I rx ry h;obtain⟨a,b,xs,ys,rfl,rfl,ha,hb,Z,q0,q1,q2⟩:=h;cases rx;cases ry;obtain⟨its,O,p1,_⟩:=I.tuple ha.sq;obtain⟨gT,G,p2,_⟩:=I.tuple hb.sq
 by_cases B:xs=[]
 .have hi:its=[]:=O.A6.mpr B
  obtain⟨⟨cls,dd,data,sl⟩,ho,hc,n,hd⟩:=id p1;obtain⟨⟨Hq,ot,data2,rh⟩,Y,U,n2,C⟩:=id p2;simp only at hc hd U C;subst hc hd U C;exact concat_meets ⟨_,ho,rfl⟩ ⟨_,Y,rfl⟩ noFill_tuple_add seq_tuple_add PySem.F.slot_tuple_add PySem.F.entry_tuple_add (PySem.F.args_tuple_add_2 _ _)
   (tuple_addW0 a b its.toArray gT.toArray n n2 dd ot sl rh (by simp[hi])) ⟨ho,Y,⟨.ref b,H,I,rfl,q0 B⟩⟩
 .refine HT.TM p1 p2 (λz=>B (O.A6.mp z)) (λz=>⟨.ref a,H,I,rfl,q1 B (G.A6.mp z)⟩) (λz=>?_) (by rw[<-O.length,<-G.length];exact Z)
  refine⟨.ref s.heap.objs.size,_,I.laid (t':=s.toks) (o:=.bp { cls:=.type "tuple",data:=.seq (its++gT).toArray } (.tup (xs++ys))) (λb ob q=>cx _ q) (a8 _) ?_,rfl,q2 B (λw=>z (G.A6.mpr w)) _ _ (I.aS.fresh (a8 _)) rfl rfl⟩;exact⟨dm _ rfl,by rw[fA];exact Z,_,O.append G,IsTup.new _ _⟩
theorem NG:eB X (binaryOp .Add) (λx y H Q=>mN (λi j=>.int (i+j)) x y H Q\/(∃i j,x=.str i/\y=.str j/\i.length+j.length<=sizeLine/\Q (.str (i++j)) H)\/BF X.K x y H Q):=Xy.or (Xz.or NF)
theorem My:zG X.K (Z1 .add) (λx y H Q=>mN (λi j=>.int (i+j)) x y H Q\/(∃i j,x=.str i/\y=.str j/\i.length+j.length<=sizeLine/\Q (.str (i++j)) H)\/BF X.K x y H Q):=by
 intro ρ m B H dx C d x y Q M O G e q;cases dx with
 | int i=>
  cases C with
  | int j=>
   cases (show aV (D.int (i+j),m)=aV (d,B) from e);cases O;cases G;exact .inl ⟨_,_,rfl,rfl,.of (q.here M rfl)⟩
  | _=>cases (show (a0:Option (D×Mem))=aV (d,B) from e)
 | str i=>
  cases C with
  | str j=>
   have e:(if i.length+j.length<=1000 then aV (D.str (i++j),m) else a0)=aV (d,B):=e
   by_cases hl:i.length+j.length<=1000
   .rw[ah hl]at e
    cases e;cases O;cases G;exact .inr (.inl ⟨_,_,rfl,rfl,J3 (by lia),.of (q.here M rfl)⟩)
   .rw[ak hl]at e
    cases e
  | _=>cases (show (a0:Option (D×Mem))=aV (d,B) from e)
 | tup xs=>
  cases C with
  | tup ys=>
   have e:(if xs.length+ys.length<=10000 then aV (D.tup (xs++ys),m) else a0)=aV (d,B):=e
   by_cases hl:xs.length+ys.length<=10000
   .rw[ah hl]at e
    cases e;obtain⟨a,vs,rfl,Y,as⟩:=O;obtain⟨b,us,rfl,U,bs⟩:=G;have l1:=as.len;have Z:=bs.len;refine .inr (.inr ⟨a,b,vs,us,rfl,rfl,Y,U,J3 (by lia),λz=>.of ?_,λ_ z=>.of ?_,λ_ _ p o hp hc hd=>.of (q.tup M (as.app bs) hp hc hd)⟩)
    .have:xs=[]:=sa (by rw[<-l1,z];rfl)
     subst this;exact q.here M ⟨b,us,rfl,U,bs⟩
    .have:ys=[]:=sa (by rw[<-Z,z];rfl)
     subst this;rw[vm]at q;exact q.here M ⟨a,vs,rfl,Y,as⟩
   .rw[ak hl]at e
    cases e
  | _=>cases (show (a0:Option (D×Mem))=aV (d,B) from e)
 | _=>cases (show (a0:Option (D×Mem))=aV (d,B) from e)
theorem Mr:zG X.K (Z1 .sub) (mN λi j=>.int (i-j)):=by
 intro ρ m B H G C d x y Q M U O e q;cases G with
 | int i=>
  cases C with
  | int j=>
   cases (show aV (D.int (i-j),m)=aV (d,B) from e);cases U;cases O;exact⟨_,_,rfl,rfl,.of (q.here M rfl)⟩
  | _=>cases (show (a0:Option (D×Mem))=aV (d,B) from e)
 | _=>cases (show (a0:Option (D×Mem))=aV (d,B) from e)
theorem Ms:zG X.K (Z1 .mul) (rI Aa λi j=>.int (i*j)):=by
 intro ρ m B H G C d x y Q M U O e q;cases G with
 | int i=>
  cases C with
  | int j=>
   have e:(if (-(2 ^ 64)<i/\i<2 ^ 64)\/(-(2 ^ 64)<j/\j<2 ^ 64) then aV (D.int (i*j),m) else a0)=aV (d,B):=e
   by_cases h:(-(2 ^ 64)<i/\i<2 ^ 64)\/(-(2 ^ 64)<j/\j<2 ^ 64)
   .rw[ah h]at e
    cases e;cases U;cases O;exact⟨_,_,rfl,rfl,h,.of (q.here M rfl)⟩
   .rw[ak h]at e
    cases e
  | _=>cases (show (a0:Option (D×Mem))=aV (d,B) from e)
 | _=>cases (show (a0:Option (D×Mem))=aV (d,B) from e)
theorem Mt:zG X.K (Z1 .mod) (rI (λ_ j=>0<j) λi j=>.int (i % j)):=by
 intro ρ m B H G C d x y Q M U O e q;cases G with
 | int i=>
  cases C with
  | int j=>
   have e:(if 0<j then aV (D.int (i % j),m) else a0)=aV (d,B):=e
   by_cases h:0<j
   .rw[ah h]at e
    cases e;cases U;cases O;exact⟨_,_,rfl,rfl,h,.of (q.here M rfl)⟩
   .rw[ak h]at e
    cases e
  | _=>cases (show (a0:Option (D×Mem))=aV (d,B) from e)
 | _=>cases (show (a0:Option (D×Mem))=aV (d,B) from e)
variable{a:Expr}
theorem HB(G:PE X a (tD C X.K pa))(B:PE X b (tD C X.K pb)):PE X (.BinOp a .Add b pos) (tD C X.K (.bin .add pa pb)):=S5 (nU NG G B) My λ_ _=>rfl
theorem YG(G:PE X a (tD C X.K pa))(B:PE X b (tD C X.K pb)):PE X (.BinOp a .Sub b pos) (tD C X.K (.bin .sub pa pb)):=S5 (nU Qj G B) Mr λ_ _=>rfl
theorem KC(G:PE X a (tD C X.K pa))(B:PE X b (tD C X.K pb)):PE X (.BinOp a .Mult b pos) (tD C X.K (.bin .mul pa pb)):=S5 (nU Qk G B) Ms λ_ _=>rfl
theorem S6(G:PE X a (tD C X.K pa))(B:PE X b (tD C X.K pb)):PE X (.BinOp a .Mod b pos) (tD C X.K (.bin .mod pa pb)):=S5 (nU Ql G B) Mt λ_ _=>rfl
def RE:R2:=λx y H Q=>∃l b xs B,x=.ref l/\y=.ref b/\Rd H l (.lst xs)/\Rd H b (.lst B)/\xs.length+B.length<=sizeLine/\∀p,H p=a0->Q (.ref p) (upd H p (.lst (xs++B)))
theorem ND:eB X (binaryOp .Add) RE:=by
 intro pi s σ H x y v u Q I O G h;obtain⟨l,b,xs,zs,rfl,rfl,U,Y,hz,q⟩:=h;cases O;cases G;obtain⟨z,its,n,r,e⟩:=U.ok I.aS;obtain⟨z2,C,n2,B,e2⟩:=Y.ok I.aS;have hl:=r.length;have lS:=B.length;refine PySem.P.add_list e e2 ?_ (by rw[dw,dw];omega);have Z:its.toArray++C.toArray=(its++C).toArray:=by simp
 rw[Z];exact⟨.ref _,_,I.Jw (t':=s.toks) (r.append B) (by rw[fA];omega),rfl,q _ I.fresh⟩
theorem S8(G:PE X a (tD C X.K pa))(B:PE X b (tD C X.K pb))(mu:Bool:=en):PE X (.BinOp a .Add b pos) (tD C X.K (.cat mu pa pb)):=
 S5 (f:=λx y O=>match x,y with | .lst xs,.lst ys=>if xs.length+ys.length<=10000 then aV (bj mu (xs++ys) O) else a0 | _,_=>a0) (nU ND G B) (by
  intro ρ m af H Y U d x y Q M ax ay e q;cases Y<;>cases U<;>simp only at e<;>try (cases e;done)
  split at e
  .rename_i xs ys hl
   obtain⟨a,o,vs,rfl,G,as⟩:=ax;obtain⟨b,bt,us,rfl,B,bs⟩:=ay;have l1:=as.len;have l2:=bs.len;have au:=b5 e;have Z:eA X.K ρ H (bj mu (xs++ys) m).1 (bj mu (xs++ys) m).2 Q:=by rw[au];exact q
   exact⟨a,b,vs,us,rfl,rfl,.inr ⟨o,G⟩,.inr ⟨bt,B⟩,J3 (by lia),λp hp=>Z.lst M (as.app bs) hp⟩
  .cases e) λ_ _=>rfl
end
end WL
namespace L2
open PySem PySem.Spec PyProof.Rows
theorem cI{M:Model}{v:Value}{b:Bool}(B:∀i,v≠.builtin i)(h:Q (.bool (!(v==.bool b))) s):fj M A (sh .IsNot v (.bool b)) Q E s:=by
 cases v<;>first | exact ag h | exact absurd rfl (B _)
theorem NA:eB X (sh .IsNot) (λx y H Q=>∃b,y=.bl b/\Q (.bl (!decide (x=.bl b))) H):=by
 intro pi s σ H x y v u Q I B C h;obtain⟨b,rfl,q⟩:=h;cases C;refine cI (λi e=>?_) (G7 I q ?_)
 .subst e
  cases x<;>first
   | (cases B;done)
   | (obtain⟨t,h⟩:=B;cases h;done)
 cases x<;>first
  | (cases B;rfl)
  | (obtain⟨t,rfl⟩:=B;rfl)
  | (cases B;cases b<;>(rename_i c;cases c<;>rfl))
end L2
namespace WL
open PySem PySem.Spec PyProof.Rows L2
section
variable{σ:L2.St}
mutual
theorem SJ(I:Inv X pi σ H s):∀{d:D} {x:V} {u:Value} {p:PyData},At X.K ρ H d x->o4 d=aV p->RelV x u->∃as,Reads s.heap u p as
 | .aE,_,_,_,a,e,r=>by cases a;cases e;cases r;exact⟨_,.none⟩
 | .bl b,_,_,_,a,e,r=>by cases a;cases e;cases r;exact⟨_,.bool b⟩
 | .int i,_,_,_,a,e,r=>by cases a;cases e;obtain⟨t,rfl⟩:=r;exact⟨_,.int i t⟩
 | .str i,_,_,_,a,e,r=>by cases a;cases e;obtain⟨t,rfl⟩:=r;exact⟨_,.str i t⟩
 | .tup xs,_,_,_,U,e,r=>by
  obtain⟨a,vs,ex,h,as⟩:=U;subst ex;cases r;obtain⟨ps,O,rfl⟩:=bX (show (bY xs).map PyData.tuple=aV _ from e);obtain⟨its,B,⟨o,C,G,n,hd⟩,_⟩:=I.tuple h.sq;obtain⟨bs,q⟩:=SM I as O B;exact⟨_,.tuple C G hd (by simpa using q)⟩
 | .lst xs,_,_,_,U,e,r=>by
  obtain⟨a,o,vs,ex,h,as⟩:=U;subst ex;cases r;obtain⟨ps,O,rfl⟩:=bX (show (bY xs).map PyData.list=aV _ from e);obtain⟨its,B,⟨o,n,C,G,_,hd⟩,_⟩:=I.list (X:=X) (.inl (.inr ⟨o,h⟩));obtain⟨bs,q⟩:=SM I as O B;exact⟨_,.list C G hd (by simpa using q)⟩
 | .ao _ _,_,_,_,_,e,_=>nomatch e
 | .b9 _,_,_,_,_,e,_=>nomatch e
 | .aI _,_,_,_,_,e,_=>nomatch e
theorem SM(I:Inv X pi σ H s):∀{ds:List D} {xs:List V} {us:List Value} {ps:List PyData},a7 X.K ρ H ds xs->bY ds=aV ps->Vals xs us->∃as,ReadsAll s.heap us ps as
 | [],_,_,_,a,e,r=>by
  cases (show _=[] from a);cases e;cases r;exact⟨_,.nil⟩
 | d::ds,_,_,_,U,e,r=>by
  obtain⟨v,Y,ex,a,as⟩:=U;subst ex;obtain⟨p,O,e⟩:=az (show (o4 d).bind _=aV _ from e);obtain⟨ps,G,rfl⟩:=bX e;cases r with
  | cons C B=>
   obtain⟨ZN,q1⟩:=SJ I a O C;obtain⟨Z,q2⟩:=SM I as G B;exact⟨_,.cons q1 q2⟩
end
end
section
def GU(K:p5)(o:tu)(r:R2):Prop:=∀(ρ:List Addr) (m:Mem) (H:Hp) (C B:D) (x y:V) (c:Bool) (Q:VK),bo K ρ m H->At K ρ H C x->At K ρ H B y->LC o C B=aV c->Q (.bl c) H->r x y H Q
def RL(X:Cx)(o:tu)(op:CmpOp):Prop:=∃r,eB X (sh op) r/\GU X.K o r
def BE(K:p5)(neg:Bool):R2:=λx y H Q=>∃ρ O G C B,At K ρ H O x/\At K ρ H G y/\o4 O=aV C/\o4 G=aV B/\C.canLay0=cf/\B.canLay0=cf/\min C.depth B.depth<=60/\Q (.bl (if neg then !PyData.eqv C B else PyData.eqv C B)) H
theorem NC(hu:X.A.units+64<cLine):eB X (sh .Eq) (BE X.K en):=by
 intro pi s σ H x y v u Q I C B h;obtain⟨ρ,dx,dy,Y,U,ax,ay,ex,ey,lx,Z,hd,q⟩:=h;obtain⟨as,O⟩:=SJ I ax ex C;obtain⟨bs,G⟩:=SJ I ay ey B;exact SeqAt.eqOverData X.prog X.w X.A X.xe s v u Y U as bs _ O G lx Z (by lia) ⟨.bl _,H,I,rfl,q⟩
theorem Ll(hu:X.A.units+64<cLine):eB X (sh .NotEq) (BE X.K cf):=by
 intro pi s σ H x y v u Q I C B h;obtain⟨ρ,dx,dy,Y,U,ax,ay,ex,ey,lx,Z,hd,q⟩:=h;obtain⟨as,O⟩:=SJ I ax ex C;obtain⟨bs,G⟩:=SJ I ay ey B;exact SeqAt.neOverData X.prog X.w X.A X.xe s v u Y U as bs _ O G lx Z (by lia) ⟨.bl _,H,I,rfl,q⟩
theorem vQ{C B:D}{x:V}{c:Bool}(neg:Bool){Q:VK}(ax:At K ρ H C x)(Z:At K ρ H B y)(e:cR C B=aV c)(q:Q (.bl (if neg then !c else c)) H):BE K neg x y H Q:=by
 unfold cR at e;obtain⟨O,Y,e⟩:=az e;obtain⟨G,U,e⟩:=az e;split at e
 .rename_i h
  have au:=b5 e;rw[gS,gS,decide_eq_true_eq]at h;exact⟨ρ,C,B,O,G,ax,Z,Y,U,h.1.1,h.1.2,h.2,by rw[au];exact q⟩
 .cases e
theorem FF{a b:Int}:eH (V.int a=V.int b)=eH (a=b):=by simp
theorem FE{a b:Str}:eH (V.str a=V.str b)=eH (a=b):=by simp
theorem JT(G:X.A.units+64<cLine:=by assumption):RL X .eq .Eq:=by
 refine⟨_,XA.or (NC G),λ ρ m H U O x y c Q M C B e q=>?_⟩;have e:kj U O=aV c:=e;unfold kj at e;split at e
 .cases C;cases B;cases e
  exact .inl ⟨rfl,by rw[FF];exact q⟩
 .cases C;cases B;cases e
  exact .inl ⟨rfl,by rw[FE];exact q⟩
 .exact .inr (vQ en C B e q)
theorem gU(U:X.A.units+64<cLine:=by assumption):RL X .ne .NotEq:=by
 refine⟨_,XB.or (Ll U),λ ρ m H O G x y c Q M C B e q=>?_⟩;obtain⟨k,Y,rfl⟩:=bX (show (kj O G).map (!·)=aV c from e);clear e
 rename kj O G=aV k=>e
 unfold kj at e;split at e
 .cases C;cases B;cases e
  exact .inl ⟨rfl,by rw[FF];exact q⟩
 .cases C;cases B;cases e
  exact .inl ⟨rfl,by rw[FE];exact q⟩
 .exact .inr (vQ cf C B e q)
theorem lB{o:tu}{g:Int->Int->Bool}(h:eB X (sh op) (mN λi j=>.bl (g i j)))(G:∀C B c,LC o C B=aV c->∃i j,C=.int i/\B=.int j/\c=g i j):RL X o op:=
 ⟨_,h,λ ρ m H C B x y c Q M U O e q=>by
  obtain⟨i,j,rfl,rfl,rfl⟩:=G C B c e;cases U;cases O;exact⟨i,j,rfl,rfl,q⟩⟩
theorem XD:RL X .lt .Lt:=lB RY λC B c e=>by
 cases C with
 | int i=>
  cases B with
  | int j=>
   cases (show aV (eH (i<j))=aV c from e);exact⟨_,_,rfl,rfl,rfl⟩
  | _=>cases (show (a0:Option Bool)=aV c from e)
 | _=>cases (show (a0:Option Bool)=aV c from e)
theorem Sx:RL X .le .LtE:=lB R1 λC B c e=>by
 cases C with
 | int i=>
  cases B with
  | int j=>
   cases (show aV (eH (i<=j))=aV c from e);exact⟨_,_,rfl,rfl,rfl⟩
  | _=>cases (show (a0:Option Bool)=aV c from e)
 | _=>cases (show (a0:Option Bool)=aV c from e)
theorem vY:RL X .gt .Gt:=lB Sd λC B c e=>by
 cases C with
 | int i=>
  cases B with
  | int j=>
   cases (show aV (eH (j<i))=aV c from e);exact⟨_,_,rfl,rfl,rfl⟩
  | _=>cases (show (a0:Option Bool)=aV c from e)
 | _=>cases (show (a0:Option Bool)=aV c from e)
theorem Sy:RL X .ge .GtE:=lB Se λC B c e=>by
 cases C with
 | int i=>
  cases B with
  | int j=>
   cases (show aV (eH (j<=i))=aV c from e);exact⟨_,_,rfl,rfl,rfl⟩
  | _=>cases (show (a0:Option Bool)=aV c from e)
 | _=>cases (show (a0:Option Bool)=aV c from e)
theorem Rj{x:V}(a:At K ρ H d x):eH (x=.aE)=d.sC:=by
 cases d with
 | aE=>cases a;rfl
 | bl _=>cases a;rfl
 | int _=>cases a;rfl
 | str _=>cases a;rfl
 | tup _=>obtain⟨_,_,rfl,_⟩:=a;rfl
 | lst _=>obtain⟨_,_,_,rfl,_⟩:=a;rfl
 | ao _ _=>obtain⟨_,_,_,rfl,_⟩:=a;rfl
 | b9 _=>obtain⟨_,rfl,_⟩:=a;rfl
 | aI _=>obtain⟨_,_,rfl⟩:=a;rfl
theorem SD{x:V}{b:Bool}(a:At K ρ H d x):eH (x=.bl b)=d.uk b:=by
 cases d with
 | aE=>cases a;rfl
 | bl c=>cases a;cases b<;>cases c<;>rfl
 | int _=>cases a;rfl
 | str _=>cases a;rfl
 | tup _=>obtain⟨_,_,rfl,_⟩:=a;rfl
 | lst _=>obtain⟨_,_,_,rfl,_⟩:=a;rfl
 | ao _ _=>obtain⟨_,_,_,rfl,_⟩:=a;rfl
 | b9 _=>obtain⟨_,rfl,_⟩:=a;rfl
 | aI _=>obtain⟨_,_,rfl⟩:=a;rfl
theorem Lk:eB X (sh .IsNot) (λx y H Q=>(y=.aE/\Q (.bl (!decide (x=.aE))) H)\/∃b,y=.bl b/\Q (.bl (!decide (x=.bl b))) H):=by
 intro pi s σ H x y v u Q I C B h;rcases h with h | h
 .exact Nz _ _ _ _ _ _ _ _ _ I C B h
 .exact NA _ _ _ _ _ _ _ _ _ I C B h
theorem p7:RL X .sD .IsNot:=by
 refine⟨_,Lk,λ ρ m H C U x y c Q M O G e q=>?_⟩;cases U with
 | aE=>
  cases G;have B:(!C.sC)=c:=b5 (show aV _=aV c from e);exact Or.inl ⟨rfl,by rw[Rj O,B];exact q⟩
 | bl b=>
  cases G;have B:(!C.uk b)=c:=b5 (show aV _=aV c from e);exact Or.inr ⟨b,rfl,by rw[SD O,B];exact q⟩
 | _=>cases e
theorem U7{x:V}(f:d.flat=cf)(a:At K ρ H d x):RB x=cf/\∀{d':D} {y:V},d'.flat=cf->At K ρ H d' y->gN y x=inD d [d']:=by
 cases d<;>cases f
 .cases a
  refine⟨rfl,λ {d' y} C B=>?_⟩;cases d'<;>cases C<;>cases B
  .simp[gN,inD,Bool.beq_eq_decide_eq,eq_comm]
  .simp[gN,inD]
 .cases a
  refine⟨rfl,λ {d' y} C B=>?_⟩;cases d'<;>cases C<;>cases B
  .simp[gN,inD]
  .simp[gN,inD,Bool.beq_eq_decide_eq,eq_comm]
theorem LD(x y:D)(r:List D):inD x (y::r)=(inD x [y]||inD x r):=by simp[inD]
theorem X6{K:p5}{ρ:List Addr}{H:Hp}{d:D}{x:V}(f:d.flat=cf)(a:At K ρ H d x):∀{ds:List D} {vs:List V},ds.all D.flat=cf->a7 K ρ H ds vs->vs.all RB=cf/\uj x vs=inD d ds
 | [],_,_,as=>by cases (show _=[] from as);exact⟨rfl,rfl⟩
 | e::r,_,fs,O=>by
  obtain⟨v,U,ev,B,as⟩:=O;subst ev;rw[List.all_cons,gS]at fs;obtain⟨G,C⟩:=X6 f a fs.2 as;refine⟨by rw[List.all_cons,(U7 fs.1 B).1,G];rfl,?_⟩;rw[LD,<-C,<-(U7 f a).2 fs.1 B];rfl
theorem j7{B U:D}{x:V}{c:Bool}(neg:Bool){Q:VK}(hs:U=.tup ds\/U=.lst ds)(C:At K ρ H B x)(Y:At K ρ H U y)(e:(if B.flat&&ds.all D.flat then aV (if neg then !inD B ds else inD B ds) else a0)=aV c)(q:Q (.bl c) H):EC K neg x y H Q:=by
 split at e
 .rename_i h
  rw[gS]at h;have Z:=b5 e;rcases hs with rfl | rfl
  .obtain⟨a,vs,rfl,G,as⟩:=Y
   obtain⟨O,i2⟩:=X6 h.1 C h.2 as;exact⟨a,vs,rfl,.inr G.sq,(U7 h.1 C).1,O,by rw[i2,Z];exact q⟩
  .obtain⟨a,o,vs,rfl,G,as⟩:=Y
   obtain⟨O,i2⟩:=X6 h.1 C h.2 as;exact⟨a,vs,rfl,.inl (.inl (.inr ⟨o,G⟩)),(U7 h.1 C).1,O,by rw[i2,Z];exact q⟩
 .cases e
theorem vX:RL X .isin .In:=⟨_,xU,λ ρ m H O G x y c Q M C B e q=>by
 cases G with
 | tup ds=>exact j7 en (.inl rfl) C B e q
 | lst ds=>exact j7 en (.inr rfl) C B e q
 | _=>cases e⟩
theorem LV:RL X .yT .NotIn:=⟨_,jM,λ ρ m H O G x y c Q M C B e q=>by
 cases G with
 | tup ds=>exact j7 cf (.inl rfl) C B e q
 | lst ds=>exact j7 cf (.inr rfl) C B e q
 | _=>cases e⟩
variable{a:Expr}{o bt:tu}{aaQ:CmpOp}
theorem FI{r:R2}(hr:GU X.K o r){σ:L2.St}{Q:VK}(h:tD C X.K (.cmp o pa pb) σ H Q):uA r (tD C X.K pa) (tD C X.K pb) σ H Q:=by
 obtain⟨Y,m,ρ,d,Z,S,M,e,q⟩:=h;obtain⟨⟨x,B⟩,e1,e⟩:=az e;obtain⟨⟨y,m2⟩,e2,e⟩:=az e;obtain⟨k,e3,e⟩:=bX e;cases e;exact⟨Y,m,ρ,x,B,S,M,e1,λv H1 aq O M1 A1=>⟨Y,B,aq,y,Z,S.mono M O,M1,e2,λw H2 U G M2 A2=>hr U Z H2 x y v w k Q M2 (A1.mono M1 G) A2 e3 (q _ _ U (O.trans G) M2 rfl)⟩⟩
theorem YK(k:RL X o op)(U:PE X a (tD C X.K pa))(O:PE X b (tD C X.K pb))(G:behindInMarks op b=en:=by kernel_rfl):PE X (.Compare a [op] [b] pos) (tD C X.K (.cmp o pa pb)):=by
 obtain⟨r,h,B⟩:=k;exact(Nu h U O G).imp λ σ H Q q=>FI B q
theorem DR(k:RL X o op)(Z:PE X a (tD C X.K pa))(Y:PE X b (tD C X.K pb))(U:behindInMarks op b=en:=by kernel_rfl):PT X (.Compare a [op] [b] pos) (gb C X.K (.val (.cmp o pa pb))):=by
 obtain⟨r,h,O⟩:=k;refine(uP h Z Y U).imp λ σ H Q ai=>?_
 obtain⟨aj,m,ρ,c,af,S,M,e,q⟩:=ai;refine FI O ?_;obtain⟨⟨x,m1⟩,B,e⟩:=az e;obtain⟨k,e2,e⟩:=bX e;cases e;have G:∃z,x=.bl z:=by
  obtain⟨_,_,B⟩:=az B;obtain⟨_,_,B⟩:=az B;obtain⟨z,_,B⟩:=bX B;cases B;exact⟨z,rfl⟩
 obtain⟨z,rfl⟩:=G;cases e2;exact⟨aj,m,ρ,_,af,S,M,B,λv H1 aq g1 M1 A1=>⟨_,A1,q H1 aq g1 M1⟩⟩
theorem zX{x:V}{c:Bool}(M:bo K ρ m H)(A:At K ρ H d x)(e:eO d m=aV c):zy K x H c:=by
 cases d with
 | aE=>cases A;cases e;rfl
 | bl b=>cases A;cases e;rfl
 | int i=>cases A;cases e;rfl
 | str x=>cases e
 | ao _ _=>cases e
 | tup xs=>
  obtain⟨a,vs,rfl,h,as⟩:=A;cases e;refine .inr (.inl ⟨vs,h.sq,?_⟩);have:=as.len;cases xs<;>cases vs<;>simp_all
 | lst xs=>
  obtain⟨a,o,vs,rfl,h,as⟩:=A;cases e;refine .inl ⟨vs,.inl (.inr ⟨o,h⟩),?_⟩;have:=as.len;cases xs<;>cases vs<;>simp_all
 | b9 ns=>
  obtain⟨a,rfl,h⟩:=A;cases e;refine .inl ⟨_,h.sq,?_⟩;cases ns<;>rfl
 | aI i=>
  obtain⟨a,hi,rfl⟩:=A;have e:(match m[i]? with | some (.lst xs)=>aV (!xs.isEmpty) | some (.ao ks _)=>aV (!ks.isEmpty) | _=>a0)=aV c:=e;split at e
  .rename_i xs C
   cases e;obtain⟨vs,B,as⟩:=M.at' i a _ hi C;refine .inl ⟨vs,.of B,?_⟩;have:=as.len;cases xs<;>cases vs<;>simp_all
  .rename_i ks us C
   cases e;obtain⟨kvs,B,hk,as⟩:=M.at' i a _ hi C;refine .inr (.inr ⟨kvs,B,?_⟩);subst hk;cases kvs<;>rfl
  .cases e
theorem K7(O:PE X a (tD C X.K pa))(G:∀B,isTrue a X.env B=(do let v <-B;standAt a.pos;holding [v] (truthy v)):=by intro _;kernel_rfl):PT X a (gb C X.K (.val pa)):=
 (Le O G).imp λ σ H Q ai=>by
 obtain⟨aj,m,ρ,c,af,S,M,e,q⟩:=ai;obtain⟨⟨x,m1⟩,Z,e⟩:=az e;obtain⟨k,Y,e⟩:=bX e;cases e;exact⟨aj,m,ρ,x,af,S,M,Z,λv H1 aq U M1 A1=>⟨_,zX M1 A1 Y,q H1 aq U M1⟩⟩
variable{ta tb:Te}{rest:List Expr}
theorem V7(B:PT X a (gb C X.K ta)):PT X (.UnaryOp .Not a pos) (gb C X.K (.not ta)):=(P6 B).imp λ σ H Q U=>by
 obtain⟨O,m,ρ,c,Y,S,M,e,q⟩:=U;obtain⟨⟨k,Z⟩,G,e⟩:=bX e;cases e;exact⟨O,m,ρ,k,Y,S,M,G,q⟩
theorem QZ(B:PT X a (gb C X.K ta)):PW X (.BoolOp .And [a] pos) (gb C X.K ta):=MY B
theorem RV(B:PT X a (gb C X.K ta)):PW X (.BoolOp .Or [a] pos) (gb C X.K ta):=P1 B
theorem R0(Z:PT X a (gb C X.K ta))(Y:PW X (.BoolOp .And (b::rest) pos) (gb C X.K tb)):PW X (.BoolOp .And (a::b::rest) pos) (gb C X.K (.and ta tb)):=(P4 Z Y).imp λ σ H Q ai=>by
 obtain⟨U,m,ρ,c,af,S,M,e,q⟩:=ai;obtain⟨⟨k,G⟩,e1,e⟩:=az e;refine⟨U,m,ρ,k,G,S,M,e1,λH1 O B M1=>?_⟩;cases k with
 | false=>
  try dsimp only at e
  rw[ak eJ]at e ⊢;cases e;exact q H1 O B M1
 | true=>
  try dsimp only at e
  rw[ah rfl]at e ⊢;exact⟨U,G,O,c,af,S.mono M B,M1,e,λH2 cp g2 M2=>q H2 cp (B.trans g2) M2⟩
theorem RW(Z:PT X a (gb C X.K ta))(Y:PW X (.BoolOp .Or (b::rest) pos) (gb C X.K tb)):PW X (.BoolOp .Or (a::b::rest) pos) (gb C X.K (.or ta tb)):=(RF Z Y).imp λ σ H Q ai=>by
 obtain⟨U,m,ρ,c,af,S,M,e,q⟩:=ai;obtain⟨⟨k,G⟩,e1,e⟩:=az e;refine⟨U,m,ρ,k,G,S,M,e1,λH1 O B M1=>?_⟩;cases k with
 | true=>
  try dsimp only at e
  rw[ah rfl]at e ⊢;cases e;exact q H1 O B M1
 | false=>
  try dsimp only at e
  rw[ak eJ]at e ⊢;exact⟨U,G,O,c,af,S.mono M B,M1,e,λH2 cp g2 M2=>q H2 cp (B.trans g2) M2⟩
theorem MM{TB:BoolOp}(B:PE X a (tD C X.K pa)):PE X (.BoolOp TB [a] pos) (tD C X.K pa):=Qd B
theorem PF(Z:PE X a (tD C X.K pa))(Y:PE X (.BoolOp .And (b::rest) pos) (tD C X.K pb)):PE X (.BoolOp .And (a::b::rest) pos) (tD C X.K (.Cy pa pb)):=(Qh Z Y).imp λ σ H Q ai=>by
 obtain⟨U,m,ρ,d,af,S,M,e,q⟩:=ai;obtain⟨⟨x,G⟩,e1,e⟩:=az e;refine⟨U,m,ρ,x,G,S,M,e1,λv H1 O B M1 A1=>?_⟩;cases x with
 | bl k=>
  cases A1;refine⟨k,rfl,?_⟩;cases k with
  | false=>
   rw[ak eJ];cases e;exact q _ H1 O B M1 rfl
  | true=>
   rw[ah rfl];exact⟨U,G,O,d,af,S.mono M B,M1,e,q.go B⟩
 | _=>cases e
end
def ee(K:p5)(ρ:List Addr)(H:Hp)(ks:List Key)(ds:List D)(kvs:List (Key×V)):Prop:=kvs.map (·.1)=ks/\a7 K ρ H ds (kvs.map (·.2))
theorem ee.look:∀{kvs:List (Key×V)} {ks:List Key} {ds:List D} (k:Key),ee K ρ H ks ds kvs->(∀d,G5 ks ds k=aV d->∃v,JV kvs k=aV v/\At K ρ H d v)/\(G5 ks ds k=a0->JV kvs k=a0)
 | [],_,ds,k,B=>by
  obtain⟨e,a⟩:=B;subst e;cases ds with
  | nil=>exact⟨λd h=>by simp[G5]at h,λ_=>rfl⟩
  | cons d r=>obtain⟨_,_,e,_⟩:=a;simp at e
 | p::r,_,ds,k,B=>by
  obtain⟨e,a⟩:=B;subst e;cases ds with
  | nil=>exact absurd (show List.map (·.2) (p::r)=[] from a) (by simp)
  | cons d ds=>
   obtain⟨v,Y,e,U,O⟩:=a;simp only[cj,OV]at e;obtain⟨rfl,rfl⟩:=e;have C:=ee.look (kvs:=r) k ⟨rfl,O⟩
   by_cases hk:p.1=k
   .refine⟨λG h=>?_,λh=>?_⟩
    .simp only[cj,G5,ah hk,Option.some.injEq]at h
     subst h;exact⟨_,J7 hk,U⟩
    .simp[cj,G5,ah hk]at h
   .refine⟨λG h=>?_,λh=>?_⟩
    .simp only[cj,G5,ak hk]at h
     rw[IK hk];exact C.1 G h
    .simp only[cj,G5,ak hk]at h
     rw[IK hk];exact C.2 h
theorem ee.rep{k:Key}{d:D}{v:V}(a:At K ρ H d v):∀{kvs:List (Key×V)} {ks:List Key} {ds:List D},ee K ρ H ks ds kvs->ee K ρ H ks (jC ks ds k d) (kvs.map λB=>if B.1=k then (B.1,v) else B)
 | [],_,ds,C=>by
  obtain⟨e,b⟩:=C;subst e;refine⟨rfl,?_⟩;simp[jC,a7]
 | p::r,_,ds,C=>by
  obtain⟨e,b⟩:=C;subst e;cases ds with
  | nil=>exact absurd (show List.map (·.2) (p::r)=[] from b) (by simp)
  | cons x ds=>
   obtain⟨w,Z,e,Y,U⟩:=b;simp only[cj,OV]at e;obtain⟨rfl,rfl⟩:=e;obtain⟨O,G⟩:=ee.rep a (kvs:=r) (ds:=ds) ⟨rfl,U⟩;refine⟨?_,?_⟩
   .simp only[cj]
    rw[O];congr 1;split<;>rfl
   .simp only[cj,jC]
    refine⟨_,_,rfl,?_,G⟩
    by_cases hk:p.1=k
    .simp only[ah hk];exact a
    .simp only[ak hk];exact Y
theorem ee.put{k:Key}{v:V}(a:At K ρ H d v)(h:ee K ρ H ks ds kvs):ee K ρ H (putD ks ds k d).1 (putD ks ds k d).2 (putK kvs k v):=by
 have e:(ks.any λx=>eH (x=k))=kvs.any λB=>eH (B.1=k):=by rw[<-h.1,List.any_map];rfl
 unfold putD putK;rw[e];split
 .exact h.rep a
 .exact⟨by rw[gi,h.1];rfl,by rw[gi];exact h.2.snoc a⟩
theorem ee.Bb:∀{more:List (Key×V)} {C:List Key} {B:List D} {kvs:List (Key×V)} {ks:List Key} {ds:List D},ee K ρ H ks ds kvs->ee K ρ H C B more->ee K ρ H (FQ ks ds C B).1 (FQ ks ds C B).2 (JN kvs more)
 | [],_,B,kvs,ks,ds,h,G=>by
  obtain⟨e,a⟩:=G;subst e;have:FQ ks ds [] B=(ks,ds):=by cases B<;>simp[FQ]
  rw[List.map_nil,this];exact h
 | p::r,_,B,kvs,ks,ds,h,G=>by
  obtain⟨e,a⟩:=G;subst e;cases B with
  | nil=>exact absurd (show List.map (·.2) (p::r)=[] from a) (by simp)
  | cons x B=>
   obtain⟨w,Y,e,U,O⟩:=a;simp only[cj,OV]at e;obtain⟨rfl,rfl⟩:=e;rw[cj];unfold FQ;exact ee.Bb (more:=r) (h.put U) ⟨rfl,O⟩
theorem ee.nil:ee K ρ H [] [] []:=⟨rfl,rfl⟩
theorem ee.dn{aa:Hp}{ρ':List Addr}(C:HS H aa)(B:jk ρ ρ'){ks:List Key}{ds:List D}{kvs:List (Key×V)}(h:ee K ρ H ks ds kvs):ee K ρ' aa ks ds kvs:=⟨h.1,h.2.dn C B⟩
theorem Z7{x:V}{k:Key}(a:At K ρ H d x)(e:N5 d=aV k):x=kV k:=by
 cases d<;>simp only[N5]at e<;>cases e<;>cases a<;>rfl
theorem QB(M:bo K ρ m H){x:V}(a:At K ρ H d x)(e:HF d m=aV (ks,ds)):∃p kvs,x=.ref p/\Rd H p (.dK kvs)/\ee K ρ H ks ds kvs:=by
 cases d with
 | ao C vs=>
  cases e;obtain⟨p,o,kvs,rfl,h,hk,as⟩:=a;exact⟨p,kvs,rfl,.inr ⟨o,h⟩,hk,as⟩
 | aI i=>
  obtain⟨p,hi,rfl⟩:=a;have e:(match m[i]? with | some (.ao ks vs)=>aV (ks,vs) | _=>a0)=aV (ks,ds):=e;split at e
  .rename_i B
   cases e;obtain⟨kvs,h,hk,as⟩:=M.at' i p _ hi B;exact⟨p,kvs,rfl,.inl h,hk,as.dn (λ_ _ _ z=>z) (.take ρ i)⟩
  .cases e
 | _=>cases e
theorem IV(M:bo K ρ m H){x:V}(a:At K ρ H d x)(e:G4 d m=aV ds):∃p vs,x=.ref p/\cg K H p vs/\a7 K ρ H ds vs:=by
 cases d with
 | lst xs=>
  cases e;obtain⟨p,o,vs,rfl,h,as⟩:=a;exact⟨p,vs,rfl,.inl (.inr ⟨o,h⟩),as⟩
 | b9 ns=>
  cases e;obtain⟨p,rfl,h⟩:=a;exact⟨p,_,rfl,h.sq,.ints ns⟩
 | aI i=>
  obtain⟨p,hi,rfl⟩:=a;have e:(match m[i]? with | some (.lst xs)=>aV xs | _=>a0)=aV ds:=e;split at e
  .rename_i B
   cases e;obtain⟨vs,h,as⟩:=M.at' i p _ hi B;exact⟨p,vs,rfl,.of h,as.dn (λ_ _ _ z=>z) (.take ρ i)⟩
  .cases e
 | _=>cases e
theorem qM(M:bo K ρ m H){x:V}(a:At K ρ H d x)(e:QF d m=aV ds):∃p vs,x=.ref p/\(cg K H p vs\/eP K H p vs)/\a7 K ρ H ds vs:=by
 cases d with
 | tup xs=>
  cases e;obtain⟨p,vs,rfl,h,as⟩:=a;exact⟨p,vs,rfl,.inr h.sq,as⟩
 | lst xs=>obtain⟨p,vs,e,h,as⟩:=IV M a (show G4 (.lst xs) m=aV ds from e);exact⟨p,vs,e,.inl h,as⟩
 | b9 xs=>obtain⟨p,vs,e,h,as⟩:=IV M a (show G4 (.b9 xs) m=aV ds from e);exact⟨p,vs,e,.inl h,as⟩
 | aI xs=>obtain⟨p,vs,e,h,as⟩:=IV M a (show G4 (.aI xs) m=aV ds from e);exact⟨p,vs,e,.inl h,as⟩
 | _=>cases e
theorem a7.cy{ds:List D}{vs:List V}{i:Int}{d:D}(h:a7 K ρ H ds vs)(e:cy ds i=aV d):∃v,L2.cy vs i=aV v/\At K ρ H d v:=by
 unfold L2.cy at e ⊢;obtain⟨j,G,C⟩:=az e;obtain⟨v,B,a⟩:=h.get C;exact⟨v,by rw[h.len,G];exact B,a⟩
section
variable{a:Expr}{ps:jh}
def Rm(t:TA):TE:=λ σ H Q=>t σ H λxs B=>xs.length<=sizeLine/\∀p o,B p=a0->o.cls=.type "tuple"->o.dict=a0->Q (.ref p) (upd B p (.bp o (.tup xs)))
theorem Nl{G}{t:TA}(h:PA X es t):PE X (.Tuple es G pos) (Rm t):=by
 intro pi s σ H Q I O;refine wpAny_Tuple_spliced (a9 (h pos pi s σ H _ I O) λus s1 ⟨xs,C,B,r,z,q⟩=>⟨by rw[<-r.length];exact z,?_⟩);have U:C s1.heap.objs.size=a0:=B.aS.fresh (a8 _);refine⟨.ref s1.heap.objs.size,upd C s1.heap.objs.size (.bp { cls:=.type "tuple",data:=.seq us.toArray } (.tup xs)),B.laid (t':=s1.toks) (λb u e=>cx _ e) (a8 _) ?_,rfl,q _ _ U rfl rfl⟩;exact⟨dm _ rfl,z,us,r,⟨_,dm _ rfl,rfl,_,rfl⟩⟩
theorem DY{G}(h:PA X es (uz C X.K ps)):PE X (.Tuple es G pos) (tD C X.K (.tup ps)):=(Nl h).imp λ σ H Q ai=>by
 obtain⟨Z,m,ρ,d,af,S,M,e,q⟩:=ai;obtain⟨⟨xs,m1⟩,Y,e⟩:=az e;dsimp only at e;split at e
 .rename_i hl
  cases e;exact⟨Z,m,ρ,xs,af,S,M,Y,λvs H1 aq U M1 B=>⟨J3 (by rw[B.len];lia),λp o hp O hd=>(q.go U).tup M1 B hp O hd⟩⟩
 .cases e
theorem Q7(h:PA X es (uz C X.K ps))(mu:Bool:=en):PE X (.List es pos) (tD C X.K (.lst mu ps)):=(Fh h).sA λ σ H Q ai=>by
 obtain⟨aj,m,ρ,d,af,S,M,e,q⟩:=ai;obtain⟨⟨xs,B⟩,U,e⟩:=az e;dsimp only at e;split at e
 .rename_i hl
  have Z:=b5 e;have Y:eA X.K ρ H (bj mu xs B).1 (bj mu xs B).2 Q:=by rw[Z];exact q
  exact⟨aj,m,ρ,xs,B,S,M,U,λvs H1 aq O M1 G=>⟨J3 (by rw[G.len];lia),λp hp=>(Y.go O).lst M1 G hp⟩⟩
 .cases e
theorem MT(mu:Bool:=en):PE X (.Dict [] [] pos) (tD C X.K (.Hr mu [] .nil)):=(nW (X:=X)).sA λ σ H Q O=>by
 obtain⟨Y,m,ρ,d,U,S,M,e,q⟩:=O;have G:iN mu [] [] m=(d,U):=b5 (show aV _=aV _ from e);intro p hp;have B:eA X.K ρ H (iN mu [] [] m).1 (iN mu [] [] m).2 Q:=by rw[G];exact q
 exact B.ao M (kvs:=[]) rfl rfl hp
theorem Po:zG X.K (λx y m=>(ke x y m).map λd=>(d,m)) (Ki X.K):=by
 intro ρ m af H U Y d x y Q M O ay e q;obtain⟨d',G,au⟩:=bX e;clear e;cases au
 rename ke U Y m=aV d=>e
 cases Y with
 | int i=>
  cases ay;cases U with
  | tup xs=>
   obtain⟨p,vs,rfl,h,as⟩:=O;obtain⟨v,B,C⟩:=as.cy (show cy xs i=aV d from e);exact .inr (.inl ⟨p,vs,i,v,rfl,rfl,h.sq,B,.of (q.here M C)⟩)
  | lst xs=>
   obtain⟨p,vs,rfl,h,as⟩:=IV M O (show G4 (.lst xs) m=aV xs from rfl);obtain⟨v,B,C⟩:=as.cy (show cy xs i=aV d from e);exact .inl ⟨p,vs,i,v,rfl,rfl,h,B,.of (q.here M C)⟩
  | b9 ns=>
   obtain⟨p,vs,rfl,h,as⟩:=IV M O (show G4 (.b9 ns) m=aV (ns.map .int) from rfl);obtain⟨n,G,CD⟩:=bX (show (cy ns i).map D.int=aV d from e);subst CD;have e2:cy (ns.map D.int) i=aV (.int n):=by
    unfold cy at G ⊢;obtain⟨j,e3,e4⟩:=az G;rw[a6,e3];show (ns.map D.int)[j]?=_;rw[fc,e4];rfl
   obtain⟨v,B,C⟩:=as.cy e2;exact .inl ⟨p,vs,i,v,rfl,rfl,h,B,.of (q.here M C)⟩
  | str z=>
   cases O;have e:(if z.length<=1000 then (cy z.cps.toList i).map λc=>D.str ⟨#[c]⟩ else a0)=aV d:=e;split at e
   .rename_i hl
    obtain⟨c,G,CD⟩:=bX e;subst CD;exact .inr (.inr ⟨z,i,c,rfl,rfl,J3 (by lia),G,.of (q.here M rfl)⟩)
   .cases e
  | aI r=>
   have e:(match m[r]? with | some (.lst xs)=>cy xs i | _=>a0)=aV d:=e;split at e
   .rename_i xs Z
    obtain⟨p,vs,rfl,h,as⟩:=IV M O (show G4 (.aI r) m=aV xs by show (match m[r]? with | some (.lst xs)=>aV xs | _=>a0)=aV xs;rw[Z]);obtain⟨v,B,C⟩:=as.cy e;exact .inl ⟨p,vs,i,v,rfl,rfl,h,B,.of (q.here M C)⟩
   .cases e
  | _=>cases e
 | _=>cases U<;>cases e
theorem CP(G:PE X a (tD C X.K pa))(B:PE X b (tD C X.K pb))(hs:lU b:=by unfold lU;intro _ _;kernel_rfl):PE X (.Subscript a b pos) (tD C X.K (.ix pa pb)):=S5 (RO QA G B hs) Po λ_ _=>rfl
theorem S7(Z:PE X a (tD C X.K pa))(Y:PE X b (tD C X.K pb))(O:X.A.units+1<cLine:=by assumption)(hs:zC b:=by unfold zC;intro _ _;kernel_rfl):PE X (.Subscript a b pos) (tD C X.K (.qz pa pb)):=
 S5 (r:=λx y H Q=>∃a v,x=.ref a/\kN H a y (aV v)/\Q v H) (f:=λx y B=>(HF x B).bind λz=>(N5 y).bind λk=>(G5 z.1 z.2 k).map λd=>(d,B)) (uX O Z Y hs) (by
  intro ρ m af H dx dy d x y Q M ax ay e q;obtain⟨⟨ks,ds⟩,e1,e⟩:=az e;obtain⟨k,e2,e⟩:=az e;obtain⟨d',e3,e⟩:=bX e;cases e;obtain⟨p,kvs,rfl,U,G⟩:=QB M ax e1;obtain⟨v,e4,a4⟩:=(G.look k).1 _ e3;exact⟨p,v,rfl,.inl ⟨kvs,k,U,Z7 ay e2,e4.symm⟩,.of (q.here M a4)⟩) λ_ _=>rfl
def Cj(K:p5):V->Option Int->Option Int->Hp->VK->Prop:=λx lo hi H Q=>∃a xs,x=.ref a/\m5 K H a xs/\
 ((HT.bq xs.length 0 lo=0/\HT.bq xs.length xs.length hi=xs.length)->Q (.ref a) H)/\(¬(HT.bq xs.length 0 lo=0/\HT.bq xs.length xs.length hi=xs.length)->∀p o,H p=a0->o.cls=.type "tuple"->o.dict=a0->Q (.ref p) (upd H p (.bp o (.tup (oV xs lo hi)))))
end
section
variable{a:Expr}{ps:jh}{id:String}
def eY(X:Cx)(k:B1)(r:List V->Hp->VK->Prop):Prop:=GN X.K (cw k) (λx H Q=>r [x] H Q)
theorem fQ{k:B1}(hc:gc X (.builtin id) r)(hs:eY X k r)(O:bootBuiltins x=aV (.builtin id))(Z:Gl X x)(Y:X.mg x=a0)(ha:PE X a (tD C X.K pa))(U:x≠"__name__":=by decide)(G:(x==("__debug__" : Str))=en:=by decide)(B:gm [a] X.env=[(en,eval a X.env)]:=by rfl):PE X (.Call (.Name x p) [a] [] pos) (tD C X.K (.b1 k pa)):=
 V9 (r:=λx H Q=>r [x] H Q) (cB hc Z Y O (GK ha JC B) U G B rfl) hs λ_ _=>rfl
theorem fP{k:B1}(hc:gc X (.type id) r)(hs:eY X k r)(O:bootBuiltins x=aV (.type id))(Z:Gl X x)(Y:X.mg x=a0)(ha:PE X a (tD C X.K pa))(U:x≠"__name__":=by decide)(G:(x==("__debug__" : Str))=en:=by decide)(B:gm [a] X.env=[(en,eval a X.env)]:=by rfl):PE X (.Call (.Name x p) [a] [] pos) (tD C X.K (.b1 k pa)):=
 V9 (r:=λx H Q=>r [x] H Q) (xR hc Z Y O (GK ha JC B) U G B rfl) hs λ_ _=>rfl
theorem Z6(h:ee K ρ H ks ds kvs):ks.length=kvs.length:=by rw[<-h.1,a6]
def Ck(K:p5):List V->Hp->VK->Prop:=λxs H Q=>(∃x n,xs=[x]/\GO K x H n/\Q (.int n) H)\/∃a kvs,xs=[V.ref a]/\Rd H a (.dK kvs)/\Q (.int kvs.length) H
theorem yQ:gc X (.builtin "len") (Ck X.K):=by
 refine TK.or ?_;intro pi s σ H xs us Q I r h;obtain⟨a,kvs,rfl,G,q⟩:=h;obtain⟨u,rfl,B⟩:=vals1 r;cases B;exact Sw I G λt O C=>⟨.int kvs.length,H,C,⟨t,rfl⟩,q⟩
theorem Mv:eY X .len (Ck X.K):=by
 intro ρ m G H B d x Q M C e q;have gen:∀{B:D},At X.K ρ H B x->(match QF B m,HF B m with
  | some xs,_=>aV (D.int xs.length,m)
  | none,aV (ks,_)=>aV (.int ks.length,m)
  | none,a0=>a0)=aV (d,G)->Ck X.K [x] H (Fz Q):=λ {B} C e=>by
  split at e
  .rename_i xs hs
   cases e;obtain⟨p,vs,rfl,h,as⟩:=qM M C hs;refine .inl ⟨_,vs.length,rfl,?_,.of (q.here M (by rw[as.len];rfl))⟩;rcases h with h | h
   .exact .inl ⟨vs,h,rfl⟩
   .exact .inr ⟨vs,h,rfl⟩
  .rename_i ks ds _ hs
   cases e;obtain⟨p,kvs,rfl,h,O⟩:=QB M C hs;exact .inr ⟨p,kvs,rfl,h,.of (q.here M (by rw[Z6 O];rfl))⟩
  .cases e
 cases B with
 | str z=>
  cases C;have e:(if z.length<=1000 then aV (D.int z.length,m) else a0)=aV (d,G):=e;split at e
  .rename_i hl
   cases e;exact .inl ⟨_,z.length,rfl,⟨J3 (by lia),rfl⟩,.of (q.here M rfl)⟩
  .cases e
 | _=>exact gen C e
theorem VB(U:PE X a (tD C X.K pa))(G:Gl X "len":=by kernel_rfl)(B:X.mg "len" = a0:=by assumption)(O:gm [a] X.env=[(en,eval a X.env)]:=by kernel_rfl):PE X (.Call (.Name "len" p) [a] [] pos) (tD C X.K (.b1 .len pa)):=fQ yQ Mv PySem.boot_len G B U (by decide) (by decide) O
theorem K2:eY X (.list mu) (λxs H Q=>∃p ys,xs=[.ref p]/\(cg X.K H p ys\/eP X.K H p ys)/\∀l,H l=a0->Q (.ref l) (upd H l (.lst ys))):=by
 intro ρ m U H C d x Q M O e q;obtain⟨xs,B,e⟩:=bX (show (QF C m).map (λxs=>bj mu xs m)=aV (d,U) from e);obtain⟨p,vs,rfl,h,as⟩:=qM M O B;have G:eA X.K ρ H (bj mu xs m).1 (bj mu xs m).2 Q:=by rw[e];exact q
 exact⟨p,vs,rfl,h,λl hl=>G.lst M as hl⟩
theorem W6(U:PE X a (tD C X.K pa))(mu:Bool:=en)(G:Gl X "list":=by kernel_rfl)(B:X.mg "list" = a0:=by assumption)(O:gm [a] X.env=[(en,eval a X.env)]:=by kernel_rfl):PE X (.Call (.Name "list" p) [a] [] pos) (tD C X.K (.b1 (.list mu) pa)):=fP lG K2 PyProof.Rows.boot_list G B U (by decide) (by decide) O
def qR(K:p5):List V->Hp->VK->Prop:=λxs H Q=>(∃p ys,xs=[.ref p]/\cg K H p ys/\∀l o,H l=a0->o.cls=.type "tuple"->o.dict=a0->Q (.ref l) (upd H l (.bp o (.tup ys))))\/∃a ys,xs=[.ref a]/\eP K H a ys/\Q (.ref a) H
theorem pA:gc X (.type "tuple") (qR X.K):=TL.or pB
theorem wY:eY X .tuple (qR X.K):=by
 intro ρ m U H B d x Q M C e q;have gen:∀{B:D},At X.K ρ H B x->((G4 B m).map λxs=>(D.tup xs,m))=aV (d,U)->qR X.K [x] H (Fz Q):=λ {B} C e=>by
  obtain⟨xs,O,e⟩:=bX e;cases e;obtain⟨p,vs,rfl,h,as⟩:=IV M C O;exact .inl ⟨p,vs,rfl,h,λl o hl G hd=>.of (q.tup M as hl G hd)⟩
 cases B with
 | tup xs=>
  cases e;obtain⟨p,vs,rfl,h,as⟩:=C;exact .inr ⟨p,vs,rfl,h.sq,.of (q.here M ⟨p,vs,rfl,h,as⟩)⟩
 | _=>exact gen C e
theorem QG(U:PE X a (tD C X.K pa))(G:Gl X "tuple":=by kernel_rfl)(B:X.mg "tuple" = a0:=by assumption)(O:gm [a] X.env=[(en,eval a X.env)]:=by kernel_rfl):PE X (.Call (.Name "tuple" p) [a] [] pos) (tD C X.K (.b1 .tuple pa)):=fP pA wY PyProof.Rows.boot_tuple G B U (by decide) (by decide) O
theorem Mw:eY X .int (λxs H Q=>(∃i,xs=[.int i]/\Q (.int i) H)\/∃k,xs=[.bl k]/\Q (.int (if k then 1 else 0)) H):=by
 intro ρ m G H C d x Q M B e q;cases C with
 | int i=>cases e;cases B;exact .inl ⟨i,rfl,.of (q.here M rfl)⟩
 | bl k=>cases e;cases B;exact .inr ⟨k,rfl,.of (q.here M (by cases k<;>rfl))⟩
 | _=>cases e
theorem MR(U:PE X a (tD C X.K pa))(G:Gl X "int":=by kernel_rfl)(B:X.mg "int" = a0:=by assumption)(O:gm [a] X.env=[(en,eval a X.env)]:=by kernel_rfl):PE X (.Call (.Name "int" p) [a] [] pos) (tD C X.K (.b1 .int pa)):=fP yR Mw PyProof.Rows.boot_int G B U (by decide) (by decide) O
theorem dI{K:p5}{ρ:List Addr}{H:Hp}:∀{ds:List D} {vs:List V} {ns:List Int},intsOf ds=aV ns->a7 K ρ H ds vs->vs=ns.map V.int/\ds.length=ns.length
 | [],_,_,e,a=>by cases e;cases (show _=[] from a);exact⟨rfl,rfl⟩
 | d::r,_,_,e,O=>by
  obtain⟨v,Y,ev,U,as⟩:=O;subst ev;cases d with
  | int i=>
   obtain⟨Z,G,rfl⟩:=bX (show (intsOf r).map (i::·)=aV _ from e);cases U;obtain⟨C,B⟩:=dI G as;exact⟨by rw[C];rfl,by simp[B]⟩
  | _=>cases e
theorem NO{x:Int}(h:qY ns=aV x){y:Int}(Z:y∈ns)(hm:∀a∈ns,a<=y):y=x:=by
 have O:∀(r:List Int) (a:Int),(r.foldl (λx y=>if y > x then y else x) a∈a::r)/\∀z∈a::r,z<=r.foldl (λx y=>if y > x then y else x) a:=by
  intro r
  induction r with
  | nil=>intro a;exact⟨by simp,λz B=>by simp at B;subst B;exact oq _⟩
  | cons b r Y=>
   intro a;rw[As];obtain⟨C,G⟩:=Y (if b > a then b else a);refine⟨?_,λz B=>?_⟩
   .rcases cq C with C | C
    .rw[C];split<;>simp
    .exact bx _ (bx _ C)
   .have U:=G _ bw
    rcases cq B with rfl | B
    .refine Int.le_trans ?_ U;split<;>lia
    .rcases cq B with rfl | B
     .refine Int.le_trans ?_ U;split<;>lia
     .exact G z (bx _ B)
 cases ns with
 | nil=>cases h
 | cons a r=>
  have e:r.foldl (λx y=>if y > x then y else x) a=x:=b5 h;obtain⟨C,G⟩:=O r a;rw[e]at C G;have:=G y Z;have:=hm x C;lia
theorem Mu:eY X .max (λxs H Q=>∃(a:Addr) (ns:List Int),xs=[.ref a]/\cg X.K H a (ns.map V.int)/\0<ns.length/\∀M,M∈ns->(∀a,a∈ns->a<=M)->Q (.int M) H):=by
 intro ρ m af H Y d x Q M Z e q;obtain⟨xs,U,e⟩:=az (show ((G4 Y m).bind λxs=>(intsOf xs).bind λns=>(qY ns).map λx=>(D.int x,m))=aV (d,af) from e);obtain⟨ns,O,e⟩:=az e;obtain⟨y,B,e⟩:=bX e;cases e;obtain⟨p,vs,rfl,h,as⟩:=IV M Z U;obtain⟨rfl,_⟩:=dI O as;refine⟨p,ns,rfl,h,?_,λz C G=>.of (q.here M (by rw[NO B C G];rfl))⟩;cases ns with
 | nil=>cases B
 | cons _ _=>exact Nat.succ_pos _
theorem Py(Y:PE X a (tD C X.K pa))(U:X.calm=cf:=by kernel_rfl)(G:Gl X "max":=by kernel_rfl)(B:X.mg "max" = a0:=by assumption)(O:gm [a] X.env=[(en,eval a X.env)]:=by kernel_rfl):PE X (.Call (.Name "max" p) [a] [] pos) (tD C X.K (.b1 .max pa)):=fQ (eV U) Mu PyProof.Rows.boot_max G B Y (by decide) (by decide) O
theorem jA(ha:PE X a (tD C X.K pa))(hb:PE X b (tD C X.K pb))(Z:X.calm=cf:=by kernel_rfl)(Y:Gl X "max":=by kernel_rfl)(U:X.mg "max" = a0:=by assumption)(G:gm [a,b] X.env=[(en,eval a X.env),(en,eval b X.env)]:=by kernel_rfl)(B:gm [b] X.env=[(en,eval b X.env)]:=by kernel_rfl):
  PE X (.Call (.Name "max" p) [a,b] [] pos) (tD C X.K (.max2 pa pb)):=
 S5 (r:=λx y H Q=>∃i j,[x,y]=[.int i,.int j]/\Q (.int (if j > i then j else i)) H) (f:=λx y O=>match x,y with | .int i,.int j=>aV (.int (if j > i then j else i),O) | _,_=>a0)
  (cB (yP Z) Y U PyProof.Rows.boot_max (GK ha (GK hb JC B) (by rw[G,B])) (by decide) (by decide) (by rw[G,B]) (by rw[B];rfl)) (by
  intro ρ m af H dx dy d x y Q M ax ay e q;cases dx<;>cases dy<;>simp only at e<;>try (cases e;done)
  cases e;cases ax;cases ay;exact⟨_,_,rfl,.of (q.here M rfl)⟩) λ_ _=>rfl
theorem QK{K:p5}{ρ:List Addr}{H:Hp}:∀{ds:List D} {vs:List V} {ks:List Key} {us:List D},pairsOf ds=aV (ks,us)->a7 K ρ H ds vs->∃kvs,zH K H vs kvs/\ee K ρ H ks us kvs
 | [],_,_,_,e,a=>by
  cases e;cases (show _=[] from a);exact⟨[],.nil,ee.nil⟩
 | d::r,_,ks,us,e,Y=>by
  obtain⟨v,vr,ev,a1,as⟩:=Y;subst ev;unfold pairsOf at e;split at e
  .rename_i hd;cases hd
  .rename_i k u de hd
   cases hd;split at e
   .rename_i cb dk uB hk G
    cases e;obtain⟨kvs,U,B⟩:=QK G as;obtain⟨p,ws,rfl,C,aw⟩:=a1;obtain⟨x,xr,rfl,ax,y,yr,rfl,Z,O⟩:=aw;cases (show _=[] from O);refine⟨(cb,y)::kvs,.cons ⟨p,rfl,?_⟩ U,by rw[cj,B.1],by rw[cj];exact⟨y,_,rfl,Z,B.2⟩⟩;have:=Z7 ax hk;subst this;exact C.sq
   .cases e
  .cases e
theorem La:eY X (.dict mu) (λxs H Q=>∃a o vs kvs,xs=[.ref a]/\(H a=aV (.bp o (.tup vs))\/(X.K.lookup a=aV o/\∃(its:Array Value) (n:Nat),o.data=.seq its n/\its.size<=sizeLine/\Vals vs its.toList))/\o.cls=.type "tuple"/\o.dict=a0/\zH X.K H vs kvs/\kvs.length<=1000/\∀p,H p=a0->Q (.ref p) (upd H p (.dK (JN [] kvs)))):=by
 intro ρ m af H Z d x Q M ax e q;cases Z with
 | tup xs=>
  obtain⟨⟨ks,us⟩,Y,e⟩:=az (show ((pairsOf xs).bind λz=>if z.1.length<=1000 then aV (iN mu (FQ [] [] z.1 z.2).1 (FQ [] [] z.1 z.2).2 m) else a0)=aV (d,af) from e);split at e
  .rename_i hl
   have au:=b5 e;obtain⟨p,vs,rfl,⟨o,O,hd,G⟩,as⟩:=ax;obtain⟨kvs,U,C⟩:=QK Y as;have c9:eA X.K ρ H (iN mu (FQ [] [] ks us).1 (FQ [] [] ks us).2 m).1 (iN mu (FQ [] [] ks us).1 (FQ [] [] ks us).2 m).2 Q:=by rw[au];exact q
   have B:=ee.Bb (ee.nil (K:=X.K) (ρ:=ρ) (H:=H)) C;exact⟨p,o,vs,kvs,rfl,G,O,hd,U,by rw[<-Z6 C];exact hl,λl hl=>c9.ao M B.1 B.2 hl⟩
  .cases e
 | _=>cases e
theorem rZ(hc:X.calm=cf):gc X (.type "dict") (λxs H Q=>∃a o vs kvs,xs=[.ref a]/\(H a=aV (.bp o (.tup vs))\/(X.K.lookup a=aV o/\∃(its:Array Value) (n:Nat),o.data=.seq its n/\its.size<=sizeLine/\Vals vs its.toList))/\o.cls=.type "tuple"/\o.dict=a0/\zH X.K H vs kvs/\kvs.length<=1000/\∀p,H p=a0->Q (.ref p) (upd H p (.dK (JN [] kvs)))):=by
 intro pi s σ H xs us Q I r h;obtain⟨a,o,vs,kvs,rfl,O,d6,hd,hp,hz,q⟩:=h;obtain⟨u,rfl,Z⟩:=vals1 r;cases Z;have G:∃(its:List Value) (m:Nat),s.heap.get? a=aV o/\Vals vs its/\o.data=.seq its.toArray m:=by
  rcases O with O | ⟨hk,its,n,C,_,B⟩
  .obtain⟨e,z,its,B,bt,U,dh,m,C⟩:=I.aS a _ O
   rw[e]at U;cases U;exact⟨its,m,e,B,C⟩
  .exact⟨its.toList,n,I.k9 a o hk,B,by simpa using C⟩
 obtain⟨its,m,e,B,C⟩:=G;obtain⟨ps,DD,D3⟩:=Fe I hp B;have hl:its.length=kvs.length:=by rw[<-B.length];exact Paired.length hp
 refine OB (I.ok.hd hc) e d6 hd C D3 (by lia) I.big λh' Y hD hk=>?_
 have I2:Inv X pi σ (upd H s.heap.objs.size (.dK (JN [] kvs))) { s with heap:=h',toks:=Y }:=I.laid (λb ob e=>hk b ob e) (a8 _) ?_
 .exact⟨.ref _,_,I2,rfl,q _ (I.aS.fresh (a8 _))⟩
 .refine cV ?_ ?_ (ZX kvs (P:=X.prog) (w:=X.w) DD .nil) hD
  .have:=KJ kvs []
   simp only[List.length_nil]at this;rw[fS];lia
  .have:=I.big
   simp only[beq_eq_false_iff_ne];exact iz this
theorem MJ(Y:PE X a (tD C X.K pa))(mu:Bool:=en)(U:X.calm=cf:=by kernel_rfl)(G:Gl X "dict":=by kernel_rfl)(B:X.mg "dict" = a0:=by assumption)(O:gm [a] X.env=[(en,eval a X.env)]:=by kernel_rfl):PE X (.Call (.Name "dict" p) [a] [] pos) (tD C X.K (.b1 (.dict mu) pa)):=fP (rZ U) La PyProof.Rows.boot_dict G B Y (by decide) (by decide) O
end
theorem GD(i:Nat)(G:X.N.Nodup:=by assumption)(hi:X.N[i]?=aV x:=by kernel_rfl)(B:zv X.env.scope x=cf:=by kernel_rfl)(C:C1 X x=cf:=by kernel_rfl):PG X (.Name x pos) (o5 X.K (.nm i)):=by
 intro pi s σ H v u Q I r h;obtain⟨U,ρ,d,O,S,a,e,q⟩:=h;cases e;exact jL G hi (Fl B) (vH C) pi s σ H v u Q I r (q _ (S.set i a))
theorem _root_.L2.PG.imp{t t':TG}(h:PG X tg t)(hi:∀v σ H Q,t' v σ H Q->t v σ H Q):PG X tg t':=λpi s σ H v u Q I r q=>h pi s σ H v u Q I r (hi v σ H Q q)
theorem uD(h:vf H aa):Go ρ ρ H aa:=⟨λb o e _=>h b o e,OW,λ_ e=>.inl e⟩
theorem bo.same(M:bo K ρ m H)(h:vf H aa):bo K ρ m aa:=M.keep (λa o u e=>h a _ e) λa B=>by
 obtain⟨u,e,_⟩:=M.there B;rw[e,h a u e]
def WalkAt(K:p5)(w:Walk)(J:It)(ρ:List Addr)(H:Hp):Prop:=∀(i:Nat) (ρ':List Addr) (C:Mem) (aa:Hp),HS H aa->jk ρ ρ'->bo K ρ' C aa->w.ok C=cf->
 (∀d,w.xs[i]?=aV d->J.go i aa/\∀x B,J.zo i aa x B->vf aa B/\At K ρ' B d x)/\(w.xs.length<=i->J.stop i aa)
def l7(C:String->List D->Mem->Option (D×Mem))(K:p5)(p:Ie):TI:=λ σ H R=>∃B m ρ w G,eQ K ρ H B σ/\bo K ρ m H/\ei C p B m=aV (w,G)/\∀J aa ρ',Go ρ ρ' H aa->bo K ρ' G aa->WalkAt K w J ρ' aa->R J aa
section
variable{a:Expr}
theorem _root_.L2.PI.imp{Kz:TI}(h:PI X tg a wi)(hi:∀σ H R,Kz σ H R->wi σ H R):PI X tg a Kz:=λpi s σ H R I q=>h pi s σ H R I (hi σ H R q)
def Ta(K:p5)(tl:TE):TI:=λ σ H R=>tl σ H λx B=>∃a,x=.ref a/\(((∃xs,cg K B a xs)/\R (Cr K a) B)\/((∃xs,eP K B a xs)/\R (Ad K a) B))
theorem Qb{l:Expr}{tl:TE}(hl:PE X l tl):PI X tg l (Ta X.K tl):=by
 intro pi s σ H R I h;refine a9 (hl pi s σ H _ I h) λv s1 ai=>?_
 obtain⟨x,O,B,Y,q1⟩:=ai;obtain⟨a,e,q1⟩:=q1;subst e;cases Y;have C:∀b∈[s1.heap.objs.size],O7 X pi O b:=λb hb=>by
  have e:b=s1.heap.objs.size:=by simpa using hb
  subst e;exact B.qj (a8 _) (B.aS.fresh (a8 _))
 rcases q1 with ⟨⟨xs,G⟩,q⟩ | ⟨⟨xs,G⟩,q⟩
 .obtain⟨its,U,p,Z⟩:=B.list G
  refine wpAny_pyIter_list p.isList ?_;exact⟨s1.heap.objs.size,[s1.heap.objs.size],_,_,O,rfl,B.kept (t':=s1.toks) λb o e=>cx _ e,wR a _,⟨_,dm _ rfl,rfl,rfl⟩,C,q⟩
 .obtain⟨its,U,p,Z⟩:=B.tuple G
  refine wpAny_pyIter_tuple (show s1.heap.IsTuple a its.toArray from p) ?_;exact⟨s1.heap.objs.size,[s1.heap.objs.size],_,_,O,rfl,B.kept (t':=s1.toks) λb o e=>cx _ e,bH a _,⟨_,dm _ rfl,rfl,rfl⟩,C,q⟩
theorem pZ{w:Walk}{a:Addr}(h:∀ρ' B aa,HS H aa->jk ρ ρ'->bo K ρ' B aa->w.ok B=cf->∃vs,cg K aa a vs/\a7 K ρ' aa w.xs vs):WalkAt K w (Cr K a) ρ H:=by
 intro i ρ' B aa O G M ok;obtain⟨vs,hs,as⟩:=h ρ' B aa O G M ok;refine⟨λd e=>?_,λhl=>⟨vs,hs,by rw[as.len];exact hl⟩⟩;obtain⟨v,C,U⟩:=as.get e;refine⟨⟨vs,v,hs,C⟩,λx Y y=>?_⟩;obtain⟨rfl,y⟩:=y;have:=y vs hs;rw[C]at this;cases this;exact⟨.refl _,U⟩
theorem Pe{w:Walk}{a:Addr}(h:∀ρ' B aa,HS H aa->jk ρ ρ'->bo K ρ' B aa->w.ok B=cf->∃vs,eP K aa a vs/\a7 K ρ' aa w.xs vs):WalkAt K w (Ad K a) ρ H:=by
 intro i ρ' B aa O G M ok;obtain⟨vs,hs,as⟩:=h ρ' B aa O G M ok;refine⟨λd e=>?_,λhl=>⟨vs,hs,by rw[as.len];exact hl⟩⟩;obtain⟨v,C,U⟩:=as.get e;refine⟨⟨vs,v,hs,C⟩,λx Y y=>?_⟩;obtain⟨rfl,y⟩:=y;have:=y vs hs;rw[C]at this;cases this;exact⟨.refl _,U⟩
theorem J8(ha:PE X a (tD C X.K pa)):PI X tg a (l7 C X.K (.seq pa)):=(Qb ha).imp λ σ H R ai=>by
 obtain⟨aj,m,ρ,w,af,S,M,e,q⟩:=ai;obtain⟨⟨x,m1⟩,e1,e⟩:=az e;obtain⟨xs,O,e⟩:=bX e;cases e;refine⟨aj,m,ρ,x,af,S,M,e1,λv H1 aq g1 M1 U=>?_⟩;cases x with
 | tup ys=>
  cases O;obtain⟨p,vs,rfl,h,as⟩:=U;exact⟨p,rfl,.inr ⟨⟨vs,h.sq⟩,q _ H1 aq g1 M1 (Pe λ ρ' Y aa B G Z _=>⟨vs,(h.mono B).sq,as.dn B G⟩)⟩⟩
 | lst ys=>
  cases O;obtain⟨p,o,vs,rfl,h,as⟩:=U;exact⟨p,rfl,.inl ⟨⟨vs,.inl (.inr ⟨o,h⟩)⟩,q _ H1 aq g1 M1 (pZ λ ρ' Y aa B G Z _=>⟨vs,.inl (.inr ⟨o,B _ _ _ h⟩),as.dn B G⟩)⟩⟩
 | b9 ns=>
  cases O;obtain⟨p,rfl,h⟩:=U;exact⟨p,rfl,.inl ⟨⟨_,h.sq⟩,q _ H1 aq g1 M1 (pZ λ ρ' Y aa B G Z _=>⟨_,(h.mono B).sq,.ints ns⟩)⟩⟩
 | aI i=>
  obtain⟨p,vs,e,h,as⟩:=IV M1 U (show G4 (.aI i) af=aV xs from O);subst e;obtain⟨fm,hi,e⟩:=U;cases e;refine⟨p,rfl,.inl ⟨⟨vs,h⟩,q _ H1 aq g1 M1 (pZ λ ρ' Y aa B G Z ok=>?_)⟩⟩;have ok:(match Y[i]? with | some (.lst ys)=>D.nu xs ys | _=>en)=cf:=ok;split at ok
  .rename_i ys hm
   have:=D.xu ok;subst this;obtain⟨us,hu,bs⟩:=Z.at' i p _ (G _ _ hi) hm;exact⟨us,.of hu,bs.dn (λ_ _ _ z=>z) (.take ρ' i)⟩
  .cases ok
 | _=>cases O
theorem YF(Z:PE X a (tD C X.K pa))(Y:Gl X "range":=by kernel_rfl)(U:X.mg "range" = a0:=by assumption)(hs:gm [a] X.env=[(en,eval a X.env)]:=by kernel_rfl):PI X tg (.Call (.Name "range" p) [a] [] pos) (l7 C X.K (.jx pa)):=
 (xO Y U (GK Z JC hs) hs).imp λ σ H R ai=>by
 obtain⟨aj,m,ρ,w,G,S,M,e,q⟩:=ai;obtain⟨⟨x,O⟩,e1,e⟩:=az e;cases x with
 | int j=>
  have e:(if -(2 ^ 62)<=j/\j<2 ^ 62 then aV ((⟨(iS j.toNat).map λ(i:Nat)=>.int i,a0⟩:Walk),O) else a0)=aV (w,G):=e;split at e
  .rename_i B
   cases e;refine⟨aj,m,ρ,_,G,S,M,e1,λv H1 aq g1 M1 A1=>?_⟩;cases A1;refine⟨j,rfl,B.1,B.2,q _ H1 aq g1 M1 λi ρ' uo aa hf hr i9 ok=>⟨λd e=>?_,λhl=>?_⟩⟩
   .have hi:i<j.toNat:=by
     have:=(fx.mp e).1;simpa using this
    have ed:d=.int i:=by
     have:((iS j.toNat).map λ(i:Nat)=>D.int i)[i]?=aV d:=e;rw[fc,List.getElem?_range hi]at this;exact(b5 this).symm
    subst ed;refine⟨hi,λx H2 y=>?_⟩;obtain⟨rfl,rfl⟩:=y;exact⟨.refl _,by rw[Int.zero_add];rfl⟩
   .show j.toNat<=i
    simpa using hl
  .cases e
 | _=>cases e
theorem MA(ha:PE X a (tD C X.K pa))(hb:PE X b (tD C X.K pb))(hg:Gl X "range":=by kernel_rfl)(hm:X.mg "range" = a0:=by assumption)(hs:gm [a,b] X.env=[(en,eval a X.env),(en,eval b X.env)]:=by kernel_rfl)(B:gm [b] X.env=[(en,eval b X.env)]:=by kernel_rfl):
  PI X tg (.Call (.Name "range" p) [a,b] [] pos) (l7 C X.K (.Bc pa pb)):=
 (xM hg hm (GK ha (GK hb JC B) (by rw[hs,B])) hs B).imp λ σ H R ai=>by
 obtain⟨U,m,ρ,w,Y,S,M,e,q⟩:=ai;obtain⟨⟨x,G⟩,e1,e⟩:=az e;obtain⟨⟨y,m2⟩,e2,e⟩:=az e;cases x with
 | int k=>
  cases y with
  | int j=>
   have e:(if -(2 ^ 62)<=k/\k<2 ^ 62/\-(2 ^ 62)<=j/\j<2 ^ 62 then aV ((⟨(iS (j-k).toNat).map λ(n:Nat)=>.int (k+n),a0⟩:Walk),m2) else a0)=aV (w,Y):=e;split at e
   .rename_i hj
    cases e;refine⟨U,m,ρ,_,G,S,M,e1,λv H1 aq O M1 A1=>⟨U,G,aq,_,Y,S.mono M O,M1,e2,λu Z cp g2 M2 A2=>?_⟩⟩;cases A1;cases A2;refine⟨k,j,rfl,hj,q _ Z cp (O.trans g2) M2 λi ρ' uo aa hf hr i9 ok=>⟨λd e=>?_,λhl=>?_⟩⟩
    .have hi:i<(j-k).toNat:=by
      have:=(fx.mp e).1;simpa using this
     have ed:d=.int (k+i):=by
      have:((iS (j-k).toNat).map λ(i:Nat)=>D.int (k+i))[i]?=aV d:=e;rw[fc,List.getElem?_range hi]at this;exact(b5 this).symm
     subst ed;refine⟨hi,λx Z y=>?_⟩;obtain⟨rfl,rfl⟩:=y;exact⟨.refl _,rfl⟩
    .show (j-k).toNat<=i
     simpa using hl
   .cases e
  | _=>cases e
 | _=>cases e
theorem gM:∀(xs:List D) (n i:Nat),(T5 xs n)[i]?=(xs[i]?).map λd=>.tup [.int ((n+i:Nat):Int),d]
 | [],n,i=>by simp[T5]
 | x::r,n,0=>by simp[T5]
 | x::r,n,i+1=>by
  simp only[T5,List.getElem?_cons_succ];rw[gM r (n+1) i,show n+1+i=n+(i+1) by lia]
theorem gK:∀(xs:List D) (n:Nat),(T5 xs n).length=xs.length
 | [],_=>rfl
 | _::r,n=>by simp[T5,gK r (n+1)]
theorem MC{k:Nat}{pt:Pos}(ha:PE X a (tD C X.K pa))(hg:Gl X "enumerate":=by kernel_rfl)(Z:X.mg "enumerate" = a0:=by assumption)(hs:gm [a] X.env=[(en,eval a X.env)]:=by kernel_rfl):PI X (.Tuple elts k pt) (.Call (.Name "enumerate" p) [a] [] pos) (l7 C X.K (.enum pa)):=
 (Nk hg Z (GK ha JC hs) hs).imp λ σ H R ai=>by
 obtain⟨aj,m,ρ,w,af,S,M,e,q⟩:=ai;obtain⟨⟨x,m1⟩,e1,e⟩:=az e;cases x with
 | lst xs=>
  cases e;refine⟨aj,m,ρ,_,af,S,M,e1,λv H1 aq g1 M1 A1=>?_⟩;obtain⟨p,o,vs,rfl,h,as⟩:=A1;refine⟨p,rfl,⟨vs,.inl (.inr ⟨o,h⟩)⟩,q _ H1 aq g1 M1 λi ρ' uo aa B Y i9 ok=>?_⟩;have h':cg X.K aa p vs:=.inl (.inr ⟨o,B _ _ _ h⟩);have Tv:=as.dn (ρ':=ρ') B Y;refine⟨λd e=>?_,λhl=>⟨vs,h',by rw[as.len];rw[gK]at hl;exact hl⟩⟩;have e:(T5 xs 0)[i]?=aV d:=e;rw[gM]at e;obtain⟨d',au,rfl⟩:=bX e;obtain⟨v,G,a3⟩:=Tv.get au;refine⟨⟨vs,v,h',G⟩,λx H2 y=>?_⟩;obtain⟨l,y,hl,rfl,⟨ob,hc,hd,rfl⟩,U⟩:=y;have:=U vs h';rw[G]at this;cases this;have O:vf aa (upd aa l (.bp ob (.tup [.int i,v]))):=λb u z=>by rw[CJ (FZ z hl)];exact z
  have AB:HS aa (upd aa l (.bp ob (.tup [.int i,v]))):=qC hl;exact⟨O,l,_,rfl,⟨ob,hc,hd,.inl CT⟩,_,_,rfl,by rw[Nat.zero_add];rfl,_,_,rfl,a3.dn AB (.refl _),rfl⟩
 | _=>cases e
end
section
variable{a i v:Expr}{pd pk pv:Ex}{rest:List Stmt}{s:Sm}{r:bz}
theorem BX:eM X [] (YD C W X.K .nil):=(uQ (X:=X)).imp λE σ H B=>by
 obtain⟨G,m,ρ,o,O,S,M,e,q⟩:=B;cases e;exact q H ρ (.refl _ _) M σ S
theorem L1{B:DS}{o:Out}{m1 G:Mem}{E:Ends}{r:bz}(e:aT C W r B m1=aV (o,G))(q:zS K ρ H o G E):zS K ρ H (.nx B) m1 { E with nx:=λ σ' aa=>YD C W K r E σ' aa }:=λH1 aq Y M1 O S1=>⟨B,m1,aq,o,G,S1,M1,e,λH2 Z U M2=>q H2 Z (Y.trans U) M2⟩
theorem BL(Y:PS X st (mP C W X.K s))(U:eM X rest (YD C W X.K r)):eM X (st::rest) (YD C W X.K (.cons s r)):=(WK Y U).imp λE σ H ai=>by
 obtain⟨aj,m,ρ,o,af,S,M,e,q⟩:=ai;obtain⟨⟨B,O⟩,Z,e⟩:=az e;refine⟨aj,m,ρ,B,O,S,M,Z,?_⟩;cases B with
 | nx G=>exact L1 e q
 | rt d=>
  cases e;exact q
theorem DN(i:Nat)(U:PE X a (tD C X.K pa))(Y:X.N.Nodup:=by assumption)(hi:X.N[i]?=aV x:=by kernel_rfl)(G:zv X.env.scope x=cf:=by kernel_rfl)(hs:swapsWith a (aV (.Name x pos')) pos.line X.env=pure en:=by kernel_rfl)(O:C1 X x=cf:=by kernel_rfl):
  PS X (.Assign [.Name x pos'] a pos) (mP C W X.K (.set i pa)):=(Fb Y hi (Fl G) U hs (vH O)).imp λE σ H ai=>by
 obtain⟨aj,m,ρ,o,af,S,M,e,q⟩:=ai;obtain⟨⟨d,m1⟩,Z,e⟩:=bX e;cases e;exact⟨aj,m,ρ,d,af,S,M,Z,λv H1 aq B M1 A1=>q H1 aq B M1 _ ((S.mono M B).set i A1)⟩
theorem J2(G:PE X a (tD C X.K pa))(hs:swapsWith a a0 pos.line X.env=pure en:=by kernel_rfl):PS X (.Expr a pos) (mP C W X.K (.drop pa)):=(uR G hs).imp λE σ H Z=>by
 obtain⟨Y,m,ρ,o,af,S,M,e,q⟩:=Z;obtain⟨⟨d,m1⟩,O,e⟩:=bX e;cases e;exact⟨Y,m,ρ,d,af,S,M,O,λv H1 U B M1 A1=>q H1 U B M1 _ (S.mono M B)⟩
theorem DK(B:PE X a (tD C X.K pa)):PS X (.Return (aV a) pos) (mP C W X.K (.ret pa)):=(Fc B).imp λE σ H Z=>by
 obtain⟨Y,m,ρ,o,af,S,M,e,q⟩:=Z;obtain⟨⟨d,m1⟩,O,e⟩:=bX e;cases e;exact⟨Y,m,ρ,d,af,S,M,O,λv H1 U G M1 A1=>q H1 U G M1 _ A1⟩
variable{t:Te}{ba bb:List Stmt}{ra rb:bz}
theorem GQ(hc:PT X c (gb C X.K t))(ha:eM X ba (YD C W X.K ra))(hb:eM X bb (YD C W X.K rb)):PS X (.If c ba bb pos) (mP C W X.K (.ite t ra rb)):=(F7 hc ha hb).imp λE σ H ai=>by
 obtain⟨Y,m,ρ,o,af,S,M,e,q⟩:=ai;obtain⟨⟨k,G⟩,e1,e⟩:=az e;refine⟨Y,m,ρ,k,G,S,M,e1,λH1 aq B M1=>?_⟩;cases k with
 | true=>
  try dsimp only at e
  rw[ah rfl]at e ⊢;exact⟨Y,G,aq,o,af,S.mono M B,M1,e,λZ U O M2=>q Z U (B.trans O) M2⟩
 | false=>
  try dsimp only at e
  rw[ak eJ]at e ⊢;exact⟨Y,G,aq,o,af,S.mono M B,M1,e,λZ U O M2=>q Z U (B.trans O) M2⟩
theorem bK(hc:PT X c (gb C X.K t))(hb:eM X bb (YD C W X.K rb))(hp:PassesOwn (gx X.prog X.w) X.A X.env X.xe:=by assumption):PS X (.While c bb [] pos) (mP C W X.K (.dA t rb)):=(Lf hp hc hb).imp λE σ H ai=>by
 obtain⟨aj,m,ρ,o,af,S,M,e,q⟩:=ai;refine⟨λk O H1=>∃G Y B,eQ X.K B H1 G O/\bo X.K B Y H1/\Go ρ B H H1/\RM (et C t) (λ σ m=>aT C W rb σ m) k G Y=aV (o,af),⟨W,aj,m,ρ,S,M,.refl _ _,e⟩,?_⟩;rintro k O H1 ⟨G,Y,B,S1,M1,g1,e⟩;cases k with
 | zero=>cases e
 | succ k=>
  unfold RM at e;obtain⟨⟨z,m2⟩,e1,e⟩:=az e;refine⟨G,Y,B,z,m2,S1,M1,e1,λH2 cp Z M2=>?_⟩;cases z with
  | false=>
   try dsimp only at e
   rw[ak eJ]at e ⊢;cases e;exact q H2 cp (g1.trans Z) M2 O (S1.mono M1 Z)
  | true=>
   try dsimp only at e
   rw[ah rfl]at e ⊢;obtain⟨⟨o2,m3⟩,e2,e⟩:=az e;refine⟨λ U aa=>∃G Y B,eQ X.K B aa G U/\bo X.K B Y aa/\Go ρ B H aa/\RM (et C t) (λ σ m=>aT C W rb σ m) k G Y=aV (o,af),λ U aa h=>⟨k,qd k,h⟩,G,m2,cp,o2,m3,S1.mono M1 Z,M2,e2,?_⟩;cases o2 with
   | nx iP=>exact λH3 gk g3 M3 U S3=>⟨iP,m3,gk,S3,M3,g1.trans (Z.trans g3),e⟩
   | rt d=>
    cases e;exact λH3 gk g3 M3 v A=>q H3 gk (g1.trans (Z.trans g3)) M3 v A
theorem M7(hi:PI X tg iter (l7 C X.K ip))(hg:PG X tg (o5 X.K g))(hb:eM X bb (YD C W X.K rb))(hp:PassesOwn (gx X.prog X.w) X.A X.env X.xe:=by assumption)(hc:X.calm=cf:=by kernel_rfl)(hs:∀x,I0 iter X.env x=pure x:=by intro _;kernel_rfl):
  PS X (.For tg iter bb [] pos) (mP C W X.K (.fr g ip rb)):=(Fd hp hc hi hg hb hs).imp λE σ H ai=>by
 obtain⟨aj,m,ρ,o,af,S,M,e,q⟩:=ai;obtain⟨⟨w,G⟩,e1,e⟩:=az e;refine⟨aj,m,ρ,w,G,S,M,e1,λJ H0 uC g0 M0 wk=>?_⟩;refine⟨λi k U O=>k=w.xs.length-i/\i<=w.xs.length/\∃Z G B,eQ X.K B O Z U/\bo X.K B G O/\Go uC B H0 O/\forL w g (λ σ m=>aT C W rb σ m) (w.xs.drop i) Z G=aV (o,af),⟨_,rfl,eC _,aj,G,uC,S.mono M g0,M0,.refl _ _,e⟩,?_⟩;rintro i k U O ⟨rfl,su,Z,m2,B,S1,M1,g1,e⟩
 by_cases b8:i<w.xs.length
 .have hd:w.xs.drop i=w.xs[i]::w.xs.drop (i+1):=List.drop_eq_getElem_cons b8
  rw[hd]at e;unfold forL at e;split at e
  .rename_i ok
   obtain⟨pw,e2,e⟩:=az e;obtain⟨⟨o3,m3⟩,e3,e⟩:=az e;obtain⟨k1,k2⟩:=(wk i B m2 O (g1.fz M0) (.pre g1.ex) M1 ok).1 _ (eg b8);refine .inr ⟨k1,λ Y aa=>∃Z G B,eQ X.K B aa Z Y/\bo X.K B G aa/\Go uC B H0 aa/\forL w g (λ σ m=>aT C W rb σ m) (w.xs.drop (i+1)) Z G=aV (o,af),λ Y aa h=>⟨_,by omega,rfl,b8,h⟩,λx H2 y=>?_⟩;obtain⟨oQ,ax⟩:=k2 x H2 y;have g2:Go B B O H2:=uD oQ;have M2:=M1.same oQ;refine⟨Z,B,_,pw,S1.mono M1 g2,ax,e2,λiP S2=>⟨pw,m2,B,o3,m3,S2,M2,e3,?_⟩⟩;cases o3 with
   | nx ma=>exact λH3 gk g3 M3 Y S3=>⟨ma,m3,gk,S3,M3,g1.trans (g2.trans g3),e⟩
   | rt d=>
    cases e;exact λH3 gk g3 M3 v A=>q H3 gk (g0.trans (g1.trans (g2.trans g3))) M3 v A
  .cases e
 .have lL:w.xs.drop i=[]:=List.drop_eq_nil_of_le (by omega)
  rw[lL]at e;unfold forL at e;split at e
  .rename_i ok
   cases e;exact .inl ⟨(wk i B af O (g1.fz M0) (.pre g1.ex) M1 ok).2 (by omega),q O B (g0.trans g1) M1 U S1⟩
  .cases e
end
section
variable{gs:List Tg}{a:Expr}
theorem _root_.L2.ng.imp{t t':qa}(h:ng X es t)(hi:∀v σ H Q,t' v σ H Q->t v σ H Q):ng X es t':=λpi s σ H v u Q I r q=>h pi s σ H v u Q I r (hi v σ H Q q)
theorem U3:ng X [] (zp X.K []):=(uW (X:=X)).imp λvs σ H Q B=>by
 obtain⟨G,ρ,ds,C,S,as,e,q⟩:=B;cases ds with
 | nil=>
  cases e;cases (show _=[] from as);exact⟨rfl,q σ S⟩
 | cons _ _=>cases e
theorem J9(Z:PG X e (o5 X.K g))(Y:ng X es (zp X.K gs))(hs:(assignEach (e::es) X.env).map (·.2)=assign e X.env::(assignEach es X.env).map (·.2):=by kernel_rfl):ng X (e::es) (zp X.K (g::gs)):=
 (cA Z Y hs).imp λvs σ H Q ai=>by
 obtain⟨aj,ρ,ds,U,S,as,e,q⟩:=ai;cases ds with
 | nil=>cases e
 | cons d ds=>
  obtain⟨v,G,rfl,a1,as⟩:=as;unfold O5 at e;obtain⟨B,e1,e⟩:=az e;exact⟨v,G,rfl,aj,ρ,d,B,S,a1,e1,λ C O=>⟨B,ρ,ds,U,O,as,e,q⟩⟩
theorem fO{k:Nat}(h:ng X es (zp X.K gs))(Y:X.calm=cf:=by kernel_rfl)(U:(assignEach es X.env).length=gs.length:=by kernel_rfl)(G:(assignEach es X.env).findIdx? (·.1)=a0:=by kernel_rfl):PG X (.Tuple es k pos) (o5 X.K (.tp gs)):=
 (Fg Y h U G).imp λv σ H Q Z=>by
 obtain⟨C,ρ,d,B,S,a,e,q⟩:=Z;cases d with
 | tup xs=>
  obtain⟨p,vs,rfl,O,as⟩:=a;have e:(if gs.length=xs.length then O5 gs xs C else a0)=aV B:=e;split at e
  .rename_i hl
   exact⟨p,vs,rfl,O.sq,by rw[as.len,hl],C,ρ,xs,B,S,as,e,q⟩
  .cases e
 | _=>cases e
theorem Pm(he:PE X a (tD C X.K pa))(hg:PG X tg (o5 X.K g))(hs:swapsWithSole [tg] a pos.line X.env=pure en:=by kernel_rfl)(hw:swappedStores [tg] a X.env=pure a0:=by kernel_rfl)(h1:(assignEach [tg] X.env).map (·.2)=[assign tg X.env]:=by kernel_rfl):
  PS X (.Assign [tg] a pos) (mP C W X.K (.asg g pa)):=(P8 he hg hs hw h1).imp λE σ H ai=>by
 obtain⟨Y,m,ρ,o,af,S,M,e,q⟩:=ai;obtain⟨⟨d,m1⟩,e1,e⟩:=az e;obtain⟨B,e2,e⟩:=bX e;cases e;exact⟨Y,m,ρ,d,af,S,M,e1,λv H1 U O M1 A1=>⟨Y,U,d,B,S.mono M O,A1,e2,λ G Z=>q H1 U O M1 G Z⟩⟩
end
section
variable{a:Expr}
theorem iY(ho:PE X a (tD C X.K pa))(hi:PE X b (tD C X.K pb))(hv:PE X c (tD C X.K pc))(hu:X.A.units+1<cLine:=by assumption)(hs:swapsWith c (aV (.Subscript a b pos')) pos.line X.env=pure en:=by kernel_rfl):
  PS X (.Assign [.Subscript a b pos'] c pos) (mP C W X.K (.put pa pb pc)):=(uT hu ho hi hv hs).imp λE σ H ai=>by
 obtain⟨Y,m,ρ,o,af,S,M,e,q⟩:=ai;obtain⟨⟨z,m1⟩,e1,e⟩:=az e;obtain⟨⟨x,m2⟩,e2,e⟩:=az e;obtain⟨⟨y,m3⟩,e3,e⟩:=az e;refine⟨Y,m,ρ,z,m1,S,M,e1,λv H1 aq U M1 A1=>⟨Y,m1,aq,x,m2,S.mono M U,M1,e2,λu H2 cp O M2 A2=>⟨Y,m2,cp,y,m3,(S.mono M U).mono M1 O,M2,e3,λw Z B G M3 A3=>?_⟩⟩⟩;have lj:=(A1.mono M1 O).mono M2 G;have BG:=A2.mono M2 G;have S3:=((S.mono M U).mono M1 O).mono M2 G;cases x with
 | aI i=>
  obtain⟨p,hi,rfl⟩:=BG;have e:(match m3[i]?,N5 y with
   | some (.ao ks vs),aV k=>if z.clean&&eH (ks.length<10000) then aV (Out.nx Y,m3.set i (.ao (putD ks vs k z).1 (putD ks vs k z).2)) else a0
   | _,_=>a0)=aV (o,af):=e
  split at e
  .rename_i ks vs k hm hk
   split at e
   .rename_i hz
    rw[gS,decide_eq_true_eq]at hz;cases e;obtain⟨kvs,hp,ka⟩:=M3.at' i p _ hi hm;have hy:=Z7 A3 hk;subst hy;have eI:HS Z (upd Z p (.dK (putK kvs k v))):=λil bt iu bE=>by
     rw[CJ]
     .exact bE
     .rintro rfl;rw[hp]at bE;cases bE
    have kp:=ee.put (K:=X.K) (ρ:=B.take i) (H:=upd Z p (.dK (putK kvs k v))) (k:=k) (lj.clean (ρ':=B.take i) eI hz.1) (ee.dn eI (.refl _) ka);obtain⟨M4,g4⟩:=M3.write (o:=.dK (putK kvs k v)) (q:=.ao (putD ks vs k z).1 (putD ks vs k z).2) hi ⟨_,CT,kp⟩;have hlen:=Z6 (K:=X.K) (ρ:=B.take i) (H:=Z) ka;exact⟨p,_,rfl,xc.k hp (iq (by lia:kvs.length<100000) (J3 (a8 _))),q _ B (U.trans (O.trans (G.trans g4))) M4 σ (S3.mono M3 g4)⟩
   .cases e
  .cases e
 | _=>cases e
theorem bR(ho:PE X a (tD C X.K pa))(he:PE X b (tD C X.K pb))(hf:PE X c (tD C X.K pc))(hu:X.A.units+1<cLine:=by assumption)(mm:M2 X a "get" apos b c bP:=by constructor<;>kernel_rfl):PE X (.Call (.Attribute a "get" apos) [b,c] [] bP) (tD C X.K (.get pa pb pc)):=
 (Li hu ho he hf mm).imp λ σ H Q ai=>by
 obtain⟨U,m,ρ,d,af,S,M,e,q⟩:=ai;obtain⟨⟨x,Z⟩,e1,e⟩:=az e;obtain⟨⟨iL,Hs⟩,e0,e⟩:=az e;obtain⟨⟨y,Y⟩,e2,e⟩:=az e;obtain⟨⟨z,m3⟩,e3,e⟩:=az e;obtain⟨⟨ks,ds⟩,e4,e⟩:=az e;obtain⟨k,e5,e⟩:=bX e;cases e;refine⟨U,m,ρ,x,Z,S,M,e1,λv H1 aq O M1 A1=>?_⟩;obtain⟨p,yy,rfl,yk,_⟩:=QB M1 A1 e0;refine⟨p,rfl,.inl ⟨yy,yk⟩,U,Z,aq,y,Y,S.mono M O,M1,e2,λu H2 cp G M2 A2=>⟨U,Y,cp,z,af,(S.mono M O).mono M1 G,M2,e3,λw H3 gk B M3 A3=>?_⟩⟩;obtain⟨fm,kvs,e6,hr,ka⟩:=QB M3 ((A1.mono M1 G).mono M2 B) e4;cases e6;have hy:=Z7 (A2.mono M2 B) e5;refine⟨JV kvs k,.inl ⟨kvs,k,hr,hy,rfl⟩,q _ H3 gk (O.trans (G.trans B)) M3 ?_⟩;cases hl:G5 ks ds k with
 | none=>
  rw[(ka.look k).2 hl];exact A3
 | some d'=>
  obtain⟨wx,vi,Cz⟩:=(ka.look k).1 d' hl;rw[vi];exact Cz
theorem Pw(ho:PE X a (tD C X.K pa))(Z:vb a "pop" X.env (eval a X.env)=eval a X.env:=by kernel_rfl)(i4:(apos.endLine==bP.line)=cf:=by kernel_rfl):PE X (.Call (.Attribute a "pop" apos) [] [] bP) (tD C X.K (.pop pa)):=
 (Qg zB PySem.F.slot_list_pop PySem.F.type_list_pop Qp ho Z i4).imp λ σ H Q ai=>by
 obtain⟨aj,m,ρ,d,af,S,M,e,q⟩:=ai;obtain⟨⟨x,B⟩,e1,e⟩:=az e;refine⟨aj,m,ρ,x,B,S,M,e1,λv U O g1 M1 A1=>?_⟩;cases x with
 | aI i=>
  obtain⟨p,hi,rfl⟩:=A1;have e:(match B[i]? with
   | some (.lst xs)=>(xs[xs.length-1]?).map λd=>(d,B.set i (.lst xs.dropLast))
   | _=>a0)=aV (d,af):=e
  split at e
  .rename_i xs hm
   obtain⟨d',e2,e⟩:=bX e;cases e;obtain⟨vs,hp,as⟩:=M1.at' i p _ hi hm;obtain⟨y,e3,a3⟩:=as.get e2;have eI:HS U (upd U p (.lst vs.dropLast)):=λil bt iu G=>by
    rw[CJ]
    .exact G
    .rintro rfl;rw[hp]at G;cases G
   have hd:a7 X.K (O.take i) U xs.dropLast vs.dropLast:=by
    rw[List.dropLast_eq_take,List.dropLast_eq_take,as.len];exact as.take _
   obtain⟨M4,Y⟩:=M1.write (o:=.lst vs.dropLast) (q:=.lst xs.dropLast) hi ⟨_,CT,hd.dn eI (.refl _)⟩;exact⟨.inl ⟨rfl,vs,.of hp⟩,p,vs,y,rfl,rfl,hp,by rw[as.len];exact e3,q _ _ O (g1.trans Y) M4 ((a3.dn (λ_ _ _ z=>z) (.take O i)).mono M1 Y)⟩
  .cases e
 | _=>cases e
section
variable(iE:vb a "append" X.env (eval a X.env)=eval a X.env)
end
theorem E3(ho:PE X a (tD C X.K pa))(hb:PE X b (tD C X.K pb))(iE:vb a "append" X.env (eval a X.env)=eval a X.env:=by kernel_rfl)(nS:((backTo bP (gm [b] X.env)).all (λx=>!x.1)&&(backToKw bP (keywordEach [] X.env)).all (λx=>x.1.isSome)
   &&eH (([b]:List Expr).length+([]:List Keyword).length+(if ([]:List Keyword).isEmpty then 0 else 1)<30))=cf:=by kernel_rfl)(i4:(apos.endLine==bP.line)=cf:=by kernel_rfl)(hs:gm [b] X.env=[(en,eval b X.env)]:=by kernel_rfl):PE X (.Call (.Attribute a "append" apos) [b] [] bP) (tD C X.K (.app pa pb)):=
 (fX zB PySem.F.slot_list_append PySem.F.type_list_append YQ ho (GK hb JC hs) iE nS i4 hs rfl).imp λ σ H Q ai=>by
 obtain⟨aj,m,ρ,d,af,S,M,e,q⟩:=ai;obtain⟨⟨x,U⟩,e1,e⟩:=az e;obtain⟨KG,e0,e⟩:=az e;obtain⟨⟨y,B⟩,e2,e⟩:=az e;refine⟨aj,m,ρ,x,U,S,M,e1,λv H1 aq Z M1 A1=>?_⟩;obtain⟨p,i6,rfl,h0,_⟩:=IV M1 A1 e0;refine⟨.inl ⟨rfl,i6,h0⟩,aj,U,aq,y,B,S.mono M Z,M1,e2,λu H2 cp Y M2 A2=>?_⟩;have lj:=A1.mono M1 Y;cases x with
 | aI i=>
  obtain⟨fm,hi,e6⟩:=lj;cases e6;have e:(match B[i]? with
   | some (.lst xs)=>if y.clean&&eH (xs.length<100000) then aV (D.aE,B.set i (.lst (xs++[y]))) else a0
   | _=>a0)=aV (d,af):=e
  split at e
  .rename_i xs hm
   split at e
   .rename_i G
    rw[gS,decide_eq_true_eq]at G;cases e;obtain⟨vs,hp,as⟩:=M2.at' i p _ hi hm;have eI:HS H2 (upd H2 p (.lst (vs++[u]))):=λil bt iu O=>by
     rw[CJ]
     .exact O
     .rintro rfl;rw[hp]at O;cases O
    obtain⟨M4,g4⟩:=M2.write (o:=.lst (vs++[u])) (q:=.lst (xs++[y])) hi ⟨_,CT,(as.dn eI (.refl _)).snoc (A2.clean eI G.1)⟩;exact⟨p,vs,u,rfl,rfl,hp,iq (by rw[as.len];exact G.2) (J3 (a8 _)),q _ _ cp (Z.trans (Y.trans g4)) M4 rfl⟩
   .cases e
  .cases e
 | _=>cases e
def F5(K:p5):V->List V->Hp->VK->Prop:=λx vs H Q=>∃l b xs B,x=.ref l/\vs=[.ref b]/\H l=aV (.lst xs)/\(Rd H b (.lst B)\/m5 K H b B)/\xs.length+B.length<=100000/\Q .aE (upd H l (.lst (xs++B)))
theorem VH(l:Addr)(items:Array Value)(n:Nat)(b:Addr)(B:Array Value)(G:Nat)(C:Option Addr)(rh:Array (Option Value))(Wh:¬(!items.isEmpty&&Builtin.List.listTooLong (items.size+B.size))=cf)(Y:items.size<=sizeLine)(Z:items.size+B.size<=sizeLine+1):
  Meets (Builtin.«list.extend» ⟨[.ref l,.ref b],[]⟩) (λ_ R s=>s.heap.get? l=aV { cls:=.type "list",dict:=a0,data:=.seq items n,slots:=#[] }/\s.heap.get? b=aV { cls:=.type "tuple",dict:=C,data:=.seq B G,slots:=rh }/\R (.ok (.ret ye)) { s with heap:=s.heap.update l (sX λx=>x++B),toks:=s.toks }):=
 .of_wp λprog w A R s h=>by
  obtain⟨hp,g,d,tk,os⟩:=s;obtain⟨hl,U,h⟩:=h;have f1:=AutoSeq1.idx_int;have f2:=AutoSeq1.sub_tuple_tuple;have f3:=AutoSeq1.sub_list_list;have f4:=AutoSeq1.sub_tuple_list;have f5:=AutoSeq1.sub_list_tuple;have O:(items++B).size<=sizeLine+1:=by rw[Array.size_append];exact Z
  wp_walk using (wpAny_updateSeq hl rfl (hz:=Y) (_hz':=O)),wpAny_loadPart' hl,wpAny_loadPart' U;exact⟨_,rfl,h⟩
theorem NM:Ae X "list.extend" (F5 X.K):=by
 intro pi s σ H x vs v us Q I rx rv h;obtain⟨l,b,xs,zs,rfl,rfl,hH,Y,hz,q⟩:=h;cases rx;obtain⟨u,rfl,ru⟩:=rv.one;cases ru;obtain⟨z,its,n,r,hl,e⟩:=I.AY hH;have aaz:=J3 (a8 100000);have O:∀B:List Value,Vals zs B->its.toArray.size+B.toArray.size<=sizeLine/\¬(!its.toArray.isEmpty&&Builtin.List.listTooLong (its.toArray.size+B.toArray.size))=cf:=λB C=>by
  have lS:=C.length;have G:its.toArray.size+B.toArray.size<=sizeLine:=by rw[dw,dw];lia
  refine⟨G,?_⟩;rw[Lm G,Bool.and_false];exact eJ
 have Z:∀B:List Value,Vals zs B->EP X pi σ Q .none { s with heap:=s.heap.update l (sX λx=>x++B.toArray),toks:=s.toks }:=λB C=>by
  refine⟨.aE,_,I.AX (its':=its++B) hH e (by simp) (r.append C) ?_,rfl,q⟩;rw[fA];lia
 rcases Y with Y | Y
 .obtain⟨z2,B,n2,C,e2⟩:=Y.ok I.aS
  obtain⟨G,DH⟩:=O B C;exact call_meets F.slot_list_extend ⟨_,e,rfl⟩ F.entry_list_extend (F.args_list_extend_2 _ _)
   (AutoSeq1.list_extend_list_list_0 l its.toArray n b B.toArray n2 DH (by rw[dw];lia) (by lia)) ⟨e,e2,Z B C⟩
 .obtain⟨B,C,⟨⟨Hq,ot,data2,rh⟩,qq,si,n2,U⟩,_⟩:=I.tuple Y.sq
  simp only at si U;subst si U;obtain⟨G,DH⟩:=O B C;exact call_meets F.slot_list_extend ⟨_,e,rfl⟩ F.entry_list_extend (F.args_list_extend_2 _ _)
   (VH l its.toArray n b B.toArray n2 ot rh DH (by rw[dw];lia) (by lia)) ⟨e,qq,Z B C⟩
theorem YH(ho:PE X a (tD C X.K pa))(G:PE X b (tD C X.K pb))(iE:vb a "extend" X.env (eval a X.env)=eval a X.env:=by kernel_rfl)(nS:((backTo bP (gm [b] X.env)).all (λx=>!x.1)&&(backToKw bP (keywordEach [] X.env)).all (λx=>x.1.isSome)
   &&eH (([b]:List Expr).length+([]:List Keyword).length+(if ([]:List Keyword).isEmpty then 0 else 1)<30))=cf:=by kernel_rfl)(i4:(apos.endLine==bP.line)=cf:=by kernel_rfl)(hs:gm [b] X.env=[(en,eval b X.env)]:=by kernel_rfl):PE X (.Call (.Attribute a "extend" apos) [b] [] bP) (tD C X.K (.ext pa pb)):=
 (fX zB PySem.F.slot_list_extend PySem.F.type_list_extend NM ho (GK G JC hs) iE nS i4 hs rfl).imp λ σ H Q ai=>by
 obtain⟨aj,m,ρ,d,af,S,M,e,q⟩:=ai;obtain⟨⟨x,m1⟩,e1,e⟩:=az e;obtain⟨KG,e0,e⟩:=az e;obtain⟨⟨y,m2⟩,e2,e⟩:=az e;refine⟨aj,m,ρ,x,m1,S,M,e1,λv H1 aq g1 M1 A1=>?_⟩;obtain⟨p,i6,rfl,h0,_⟩:=IV M1 A1 e0;refine⟨.inl ⟨rfl,i6,h0⟩,aj,m1,aq,y,m2,S.mono M g1,M1,e2,λu U cp g2 M2 A2=>?_⟩;have lj:=A1.mono M1 g2;cases x with
 | aI i=>
  obtain⟨fm,hi,e6⟩:=lj;cases e6;have Z:∀{xs ys:List D} {b:Addr} {B:List V},m2[i]?=aV (.lst xs)->u=.ref b->(Rd U b (.lst B)\/m5 X.K U b B)->a7 X.K cp U ys B->(if D.clean.cK ys&&eH (xs.length+ys.length<=100000) then aV (D.aE,m2.set i (.lst (xs++ys))) else a0)=aV (d,af)->F5 X.K (.ref p) [u] U Q:=λ {xs ys b B} Y eu G O e=>by
   subst eu;split at e
   .rename_i hz
    rw[gS,decide_eq_true_eq]at hz;cases e;obtain⟨vs,hp,as⟩:=M2.at' i p _ hi Y;have eI:HS U (upd U p (.lst (vs++B))):=λil bt iu bE=>by
     rw[CJ]
     .exact bE
     .rintro rfl;rw[hp]at bE;cases bE
    obtain⟨M4,g4⟩:=M2.write (o:=.lst (vs++B)) (q:=.lst (xs++ys)) hi ⟨_,CT,(as.dn eI (.refl _)).app (O.clean eI hz.1)⟩;have l1:=as.len;have l2:=O.len;exact⟨p,b,vs,B,rfl,rfl,hp,G,by lia,q _ _ cp (g1.trans (g2.trans g4)) M4 rfl⟩
   .cases e
  dsimp only at e;split at e
  .rename_i xs ys Y
   obtain⟨b,o,B,rfl,G,O⟩:=A2;exact Z Y rfl (.inl (.inr ⟨o,G⟩)) O e
  .rename_i xs ys Y
   obtain⟨b,B,rfl,G,O⟩:=A2;exact Z Y rfl (.inr G) O e
  .cases e
 | _=>cases e
theorem X7{K:p5}{ρ:List Addr}{H:Hp}{y:D}{v:V}(G:y.flat=cf)(O:At K ρ H y v):∀{xs:List D} {vs:List V} {n k:Nat},xs.all D.flat=cf->a7 K ρ H xs vs->findD y xs n=aV k->∃j,k=n+j/\j<vs.length/\(∃u,vs[j]?=aV u/\gN u v=cf)/\∀i u,i<j->vs[i]?=aV u->gN u v=en
 | [],_,_,_,_,_,e=>by cases e
 | x::r,_,n,k,fs,bh,e=>by
  obtain⟨w,vr,ev,a1,as⟩:=bh;subst ev;rw[List.all_cons,gS]at fs;have C:=(U7 G O).2 fs.1 a1;unfold findD at e;split at e
  .rename_i h
   cases e;exact⟨0,rfl,by simp,⟨w,rfl,by rw[C];exact h⟩,λi u hi=>absurd hi (ki _)⟩
  .rename_i h
   obtain⟨j,e1,h2,⟨u,Z,C6⟩,Y⟩:=X7 G O fs.2 as e;refine⟨j+1,by lia,by simp;lia,⟨u,by simpa using Z,C6⟩,λi B hi U=>?_⟩;cases i with
   | zero=>
    have:w=B:=by simpa using U
    subst this;rw[C];simpa using h
   | succ i=>exact Y i B (by lia) (by simpa using U)
theorem Fo{x:V}:∀{xs:List V} {j:Nat} {u:V},xs[j]?=aV u->gN u x=cf->uj x xs=cf
 | [],_,_,e,_=>by simp at e
 | y::r,0,u,e,h=>by
  have:y=u:=by simpa using e
  subst this;simp[uj,h]
 | y::r,j+1,u,e,h=>by
  have:=Fo (xs:=r) (j:=j) (by simpa using e) h;unfold uj at this ⊢;rw[List.any_cons,this,Bool.or_true]
theorem Lc(ho:PE X a (tD C X.K pa))(hb:PE X b (tD C X.K pb))(iE:vb a "index" X.env (eval a X.env)=eval a X.env:=by kernel_rfl)(nS:((backTo bP (gm [b] X.env)).all (λx=>!x.1)&&(backToKw bP (keywordEach [] X.env)).all (λx=>x.1.isSome)
   &&eH (([b]:List Expr).length+([]:List Keyword).length+(if ([]:List Keyword).isEmpty then 0 else 1)<30))=cf:=by kernel_rfl)(i4:(apos.endLine==bP.line)=cf:=by kernel_rfl)(hs:gm [b] X.env=[(en,eval b X.env)]:=by kernel_rfl):PE X (.Call (.Attribute a "index" apos) [b] [] bP) (tD C X.K (.index pa pb)):=
 (fX zB PySem.F.slot_list_index PySem.F.type_list_index Ls ho (GK hb JC hs) iE nS i4 hs rfl).imp λ σ H Q ai=>by
 obtain⟨aj,m,ρ,d,af,S,M,e,q⟩:=ai;obtain⟨⟨x,U⟩,e1,e⟩:=az e;obtain⟨KG,e0,e⟩:=az e;obtain⟨⟨y,m2⟩,e2,e⟩:=az e;obtain⟨xs,e3,e⟩:=az e;split at e
 .rename_i B
  rw[gS,gS,decide_eq_true_eq]at B;obtain⟨k,e4,e⟩:=bX e;cases e;refine⟨aj,m,ρ,x,U,S,M,e1,λv H1 aq g1 M1 A1=>?_⟩;obtain⟨p,i6,rfl,h0,_⟩:=IV M1 A1 e0;refine⟨.inl ⟨rfl,i6,h0⟩,aj,U,aq,y,af,S.mono M g1,M1,e2,λu H2 cp Z M2 O=>?_⟩;obtain⟨fm,vs,e6,h,as⟩:=IV M2 (A1.mono M1 Z) e3;cases e6;obtain⟨j,ek,h1,⟨w,Y,G⟩,h4⟩:=X7 B.1.1 O B.1.2 as e4;have jr:=(X6 B.1.1 O B.1.2 as).1;refine⟨p,vs,u,rfl,rfl,h,(U7 B.1.1 O).1,jr,by rw[as.len];exact B.2,Fo Y G,λi hi ⟨z,e7,e8⟩ Vf=>?_⟩;have jt:i=j:=by
   rcases Nat.lt_trichotomy i j with b8 | heq | Vk
   .rw[h4 i z b8 e7]at e8;cases e8
   .exact heq
   .rw[Vf j w Vk Y]at G;cases G
  subst jt;refine q _ H2 cp (g1.trans Z) M2 ?_;rw[ek,Nat.zero_add];rfl
 .cases e
theorem dH{K:p5}{ρ:List Addr}{H:Hp}:∀{ds:List D} {vs:List V} {ns:List Str},strsOf ds=aV ns->a7 K ρ H ds vs->vs=ns.map V.str
 | [],_,_,e,a=>by cases e;cases (show _=[] from a);rfl
 | d::r,_,_,e,C=>by
  obtain⟨v,O,ev,G,as⟩:=C;subst ev;cases d with
  | str i=>
   obtain⟨U,B,rfl⟩:=bX (show (strsOf r).map (i::·)=aV _ from e);cases G;rw[dH B as];rfl
  | _=>cases e
theorem MQ(ho:PE X a (tD C X.K pa))(hb:PE X b (tD C X.K pb))(Z:vb a "join" X.env (eval a X.env)=eval a X.env:=by kernel_rfl)(Y:((backTo bP (gm [b] X.env)).all (λx=>!x.1)&&(backToKw bP (keywordEach [] X.env)).all (λx=>x.1.isSome)
   &&eH (([b]:List Expr).length+([]:List Keyword).length+(if ([]:List Keyword).isEmpty then 0 else 1)<30))=cf:=by kernel_rfl)(i4:(apos.endLine==bP.line)=cf:=by kernel_rfl)(hs:gm [b] X.env=[(en,eval b X.env)]:=by kernel_rfl):PE X (.Call (.Attribute a "join" apos) [b] [] bP) (tD C X.K (.join pa pb)):=
 (fX PySem.F.plainAttrs_str PySem.F.slot_str_join PySem.F.type_str_join NL ho (GK hb JC hs) Z Y i4 hs rfl).imp λ σ H Q ai=>by
 obtain⟨U,m,ρ,d,af,S,M,e,q⟩:=ai;obtain⟨⟨x,G⟩,e1,e⟩:=az e;obtain⟨⟨y,B⟩,e2,e⟩:=az e;refine⟨U,m,ρ,x,G,S,M,e1,λv H1 aq O M1 A1=>?_⟩;cases x with
 | str sep=>
  cases A1;refine⟨rfl,U,G,aq,y,B,S.mono M O,M1,e2,λu H2 cp g2 M2 A2=>?_⟩;obtain⟨xs,e3,e⟩:=az (show ((G4 y B).bind λxs=>(strsOf xs).bind λys=>if (ys.map (·.length)).sum+ys.length*sep.length<=100000 then aV (D.str (Txt.join sep ys),B) else a0)=aV (d,af) from e);obtain⟨ys,e4,e⟩:=az e;split at e
  .rename_i hz
   cases e;obtain⟨p,vs,rfl,h,as⟩:=IV M2 A2 e3;have:=dH e4 as;subst this;exact⟨sep,p,ys,rfl,rfl,h,by lia,q _ H2 cp (O.trans g2) M2 rfl⟩
  .cases e
 | _=>cases e
end
section
variable{t:Te}{pe:Ex}
theorem JW:nh X [] (gb C X.K .tt):=λpi s σ H Q I B=>by
 obtain⟨G,m,ρ,c,O,S,M,e,q⟩:=B;cases e;exact Nd pi s σ H Q I (q H ρ (.refl _ _) M)
theorem R3(h:PT X c (gb C X.K t)):nh X [c] (gb C X.K t):=Nc h
theorem KU{B:DS}{σ:L2.St}(S:eQ K ρ H B σ)(k:Nat):eQ K ρ H (B++i5 k a0) (σ++i5 k a0):=by
 refine⟨by simp[S.1],λi d e=>?_⟩
 by_cases hi:i<B.length
 .rw[km hi]at e
  obtain⟨v,C,a⟩:=S.2 i d e;exact⟨v,by rw[km (by rw[<-S.1];exact hi)];exact C,a⟩
 .rw[qk (by lia)]at e
  have:=gL e;rw[List.mem_replicate]at this;cases this.2
noncomputable def zU(C:String->List D->Mem->Option (D×Mem))(k:Nat)(g:Tg)(t:Te)(pe:Ex)(σ:DS):D->Mem->Option (Option D×Mem):=λd m=>(JL g d (σ++i5 k a0)).bind λ B=>(et C t B m).bind λ(c,G)=>if c then (ev C pe B G).map λ(y,O)=>(aV y,O) else aV (a0,G)
mutual
theorem pG{n:Nat}:∀{g:Tg} {d:D} {σ σ':DS},mM n g=cf->JL g d σ=aV σ'->∀i,i<n->σ'[i]?=σ[i]?
 | .nm j,d,σ,σ',o,e=>by
  cases e;have:n<=j:=eW o;intro i hi;rw[k6 (by lia)]
 | .tp ts,d,σ,σ',o,e=>by
  cases d with
  | tup xs=>
   have e:(if ts.length=xs.length then O5 ts xs σ else a0)=aV σ':=e;split at e
   .exact iC o e
   .cases e
  | _=>cases e
theorem iC{n:Nat}:∀{B:List Tg} {ds:List D} {σ σ':DS},mM.EA n B=cf->O5 B ds σ=aV σ'->∀i,i<n->σ'[i]?=σ[i]?
 | [],ds,σ,σ',_,e=>by
  cases ds with
  | nil=>cases e;intro _ _;rfl
  | cons _ _=>cases e
 | t::ts,ds,σ,σ',o,e=>by
  cases ds with
  | nil=>cases e
  | cons d ds=>
   have bt:=Bool.and_eq_true_iff.mp o;obtain⟨C,G,e⟩:=az (show (JL t d σ).bind (λ σ'=>O5 ts ds σ')=aV σ' from e);intro i hi;rw[iC bt.2 e i hi,pG bt.1 G i hi]
end
mutual
theorem pH:∀{g:Tg} {d:D} {σ σ':DS},JL g d σ=aV σ'->σ'.length=σ.length
 | .nm i,d,σ,σ',e=>by cases e;simp
 | .tp ts,d,σ,σ',e=>by
  cases d with
  | tup xs=>
   have e:(if ts.length=xs.length then O5 ts xs σ else a0)=aV σ':=e;split at e
   .exact iD e
   .cases e
  | _=>cases e
theorem iD:∀{C:List Tg} {ds:List D} {σ σ':DS},O5 C ds σ=aV σ'->σ'.length=σ.length
 | [],ds,σ,σ',e=>by
  cases ds with
  | nil=>cases e;rfl
  | cons _ _=>cases e
 | t::ts,ds,σ,σ',e=>by
  cases ds with
  | nil=>cases e
  | cons d ds=>
   obtain⟨B,G,e⟩:=az (show (JL t d σ).bind (λ σ'=>O5 ts ds σ')=aV σ' from e);rw[iD e,pH G]
end
theorem bJ{B C:DS}{k:Nat}{σ:L2.St}(o:mM B.length g=cf)(e:JL g d (B++i5 k a0)=aV C)(S:eQ K ρ H C σ):eQ K ρ H (B++i5 k a0) σ:=by
 refine⟨by rw[<-pH e];exact S.1,λi G h=>?_⟩
 by_cases hi:i<B.length
 .rw[<-pG o e i hi]at h
  exact S.2 i G h
 .rw[qk (by lia)]at h
  have:=gL h;rw[List.mem_replicate]at this;cases this.2
theorem bo.XO{p:Addr}{q:MO}(M:bo K ρ m H)(U:p∉ρ)(h:oe K ρ H p q):bo K (ρ++[p]) (m++[q]) H:=by
 refine⟨by simp[M.len],qu.mpr ⟨M.nd,by simp,λa Z b Y=>?_⟩,λj a u C B=>?_⟩
 .have:b=p:=by simpa using Y
  subst this;exact λz=>U (z▸Z)
 .by_cases G:j<ρ.length
  .rw[km G]at C
   rw[km (by rw[<-M.len];exact G)]at B;rw[ym (mf G)];exact M.at' j a u C B
  .have O:j=ρ.length:=by
    have:=(fx.mp C).1;simp at this;lia
   subst O;have CF:p=a:=by simpa using C
   rw[M.len]at B;have CH:q=u:=by simpa using B
   subst CF CH;rw[ym (a8 _),List.take_length];exact h
theorem oW{k:Nat}(D7:wi=l7 C K ip)(Wo:te=tD C K pe):∀{σ:L2.St} {H:Hp} {Q:VK},tD C K (.comp mu k g ip t pe) σ H Q->m8 wi k (o5 K g) (gb C K t) te σ H (Fz Q):=by
 rintro σ H Q ⟨aj,m,ρ,d,af,S,M,e,q⟩;subst D7 Wo;change (if mM aj.length g=cf then (ei C ip aj m).bind _ else a0)=_ at e;split at e
 case isFalse=>cases e
 rename_i AK
 obtain⟨⟨w,m1⟩,e1,e⟩:=az e;obtain⟨⟨ys,m2⟩,e2,e⟩:=az e;dsimp only at e;have e2:T6 w (zU C k g t pe aj) w.xs m1=aV (ys,m2):=e2;split at e
 case isFalse=>cases e
 rename_i Wy
 have au:=b5 e;refine⟨aj,m,ρ,w,m1,S,M,e1,λJ H0 uC g0 M0 wk D hD=>?_⟩;have c9:eA K uC H0 (bj mu ys m2).1 (bj mu ys m2).2 Q:=by rw[au];exact q.go g0
 refine⟨λi n σ1 U=>n=w.xs.length-i/\i<=w.xs.length/\∃zs us vs m3 G,eQ K G U (aj++i5 k a0) σ1/\bo K G m3 U/\Go uC G H0 U/\U D=aV (.lst vs)/\D∉G/\a7 K G U zs vs/\T6 w (zU C k g t pe aj) (w.xs.drop i) m3=aV (us,m2)/\ys=zs++us,
  ⟨_,rfl,eC _,[],ys,[],m1,uC,(KU (S.mono M g0) k).mono M0 (Q9 hD),M0.new hD,Q9 hD,CT,M0.fresh hD,rfl,e2,rfl⟩,?_⟩
 rintro i n σ1 U ⟨rfl,su,zs,us,vs,m3,G,S1,M1,O,hv,DT,as,B,nV⟩
 by_cases b8:i<w.xs.length
 .have hd:w.xs.drop i=w.xs[i]::w.xs.drop (i+1):=List.drop_eq_getElem_cons b8
  rw[hd]at B;unfold T6 at B;split at B
  case isFalse=>cases B
  rename_i ok
  obtain⟨⟨oy,m4⟩,Y,B⟩:=az B;obtain⟨⟨EN,aaD⟩,e5,B⟩:=az B;cases B;obtain⟨k1,k2⟩:=(wk i G m3 U (O.fz M0) (.pre O.ex) M1 ok).1 _ (eg b8);refine .inr ⟨k1,λx H2 y=>?_⟩;obtain⟨oQ,ax⟩:=k2 x H2 y;have g2:Go G G U H2:=uD oQ;have M2:=M1.same oQ;unfold zU at Y;obtain⟨pw,e6,Y⟩:=az Y;obtain⟨⟨c,m6⟩,e7,Y⟩:=az Y;refine⟨_,G,_,pw,S1.mono M1 g2,ax,e6,λiP S2=>⟨pw,m3,G,c,m6,S2,M2,e7,λH3 gk Z M3=>?_⟩⟩;have vD:∀{EU Bw:List Addr} {Ha Hb:Hp} {m:Mem},Go EU Bw Ha Hb->bo K Bw m Hb->Ha D=aV (.lst vs)->D∉EU->Hb D=aV (.lst vs)/\D∉Bw:=λ {EU Bw Ha Hb m} ga Mb ha hn=>⟨ga.fr D _ ha hn,λz=>(ga.nw D z).elim hn λy=>by rw[ha]at y;cases y⟩
  obtain⟨Wt,DM⟩:=vD g2 M2 hv DT;obtain⟨Je,Iy⟩:=vD Z M3 Wt DM;cases c with
  | false=>
   dsimp only;rw[ak eJ];cases Y;exact⟨_,by lia,rfl,b8,zs,_,vs,_,gk,bJ AK e6 (S2.mono M2 Z),M3,O.trans (g2.trans Z),Je,Iy,(as.mono M1 g2).mono M2 Z,e5,nV⟩
  | true=>
   dsimp only;rw[ah rfl];obtain⟨⟨y,m7⟩,e8,Y⟩:=bX (show (ev C pe pw m6).map (λz=>(aV z.1,z.2))=aV (oy,m4) from Y);cases Y;refine⟨pw,m6,gk,y,m7,S2.mono M2 Z,M3,e8,λv H5 YY g5 M5 A5=>?_⟩;obtain⟨Jf,Iz⟩:=vD g5 M5 Je Iy;have Tw:=((as.mono M1 g2).mono M2 Z).mono M3 g5;have hlen:vs.length<1001:=by
    have h1:=as.len;rw[nV,fA]at Wy;lia
   have eI:HS H5 (upd H5 D (.lst (vs++[v]))):=λil bt iu bE=>by
    rw[CJ]
    .exact bE
    .rintro rfl;rw[Jf]at bE;cases bE
   have C4:=O.trans (g2.trans (Z.trans g5));refine⟨vs,Jf,iq hlen (J3 (by lia)),_,by lia,rfl,b8,zs++[y],EN,vs++[v],m7,YY,(bJ AK e6 ((S2.mono M2 Z).mono M3 g5)).dn eI (.refl _),M5.keep eI λil Dj=>CJ λz=>Iz (z▸Dj),⟨λjm bt ir kz=>?_,C4.ex,C4.nw⟩,CT,Iz,(Tw.dn eI (.refl _)).snoc (A5.dn eI (.refl _)),e5,by rw[nV];simp⟩;rw[CJ (FZ ir hD)];exact C4.fr jm bt ir kz
 .have lL:w.xs.drop i=[]:=List.drop_eq_nil_of_le (by lia)
  rw[lL]at B;unfold T6 at B;split at B
  case isFalse=>cases B
  rename_i ok
  cases B;rw[vm]at nV;subst nV;refine .inl ⟨(wk i G _ U (O.fz M0) (.pre O.ex) M1 ok).2 (by lia),?_⟩;cases mu with
  | true=>
   refine .inl (c9 _ U (G++[D]) ⟨O.fr,O.ex.trans (List.prefix_append _ _),λb hb=>?_⟩ (M1.XO DT ⟨vs,hv,as⟩) ⟨D,?_,rfl⟩)
   .rcases dg hb with hb | hb
    .exact O.nw b hb
    .have:b=D:=by simpa using hb
     subst this;exact .inr hD
   .rw[<-M1.len];simp
  | false=>
   have eI:∀o,HS U (upd U D (.bp o (.lst vs))):=λo il bt iu bE=>by
    rw[CJ]
    .exact bE
    .rintro rfl;rw[hv]at bE;cases bE
   refine .inr ⟨D,_,rfl,hv,trivial,λo=>c9 _ _ G ⟨λjm bt ir kz=>?_,O.ex,O.nw⟩ (M1.keep (eI o) λil Dj=>CJ λz=>DT (z▸Dj)) ⟨D,o,vs,rfl,CT,as.dn (eI o) (.refl _)⟩⟩;rw[CJ (FZ ir hD)];exact O.fr jm bt ir kz
theorem MU(B:ij X scope M own)(Z:X.calm=cf)(hi:PI X tg iter (l7 C X.K ip))(U:∀G bu cE ex,PG (eS X scope M own G bu cE ex) tg (o5 X.K g))(O:∀G bu cE ex,nh (eS X scope M own G bu cE ex) ifs (gb C X.K t))(Y:∀G bu cE ex,PE (eS X scope M own G bu cE ex) elt (tD C X.K pe))(hs:∀x,I0 iter X.env x=pure x:=by intro _;rfl):PE X (.ListComp elt [⟨tg,iter,ifs,0⟩] scope pos) (tD C X.K (.comp mu own.length g ip t pe)):=(Nt B Z hi U O Y hs).sA λ σ H Q h=>oW rfl rfl h
theorem qG{k:Nat}{U:TG}{tt:TT}{σ:L2.St}{Q G:VK}(D7:∀σ H R O,(∀J C,R J C->O J C)->wi σ H R->wi σ H O)(hq:∀v H,Q v H->G v H)(h:m8 wi k U tt te σ H Q):m8 wi k U tt te σ H G:=by
 refine D7 σ H _ _ (λJ C h1 D hD=>?_) h;obtain⟨W,h0,Z⟩:=h1 D hD;refine⟨W,h0,λi m B aa Y=>?_⟩;rcases Z i m B aa Y with ⟨a,b⟩ | z
 .exact .inl ⟨a,hq _ _ b⟩
 .exact .inr z
theorem KL:∀σ H R B,(∀J G,R J G->B J G)->l7 C K ip σ H R->l7 C K ip σ H B:=by
 intro σ H R B h Z;obtain⟨Y,m,ρ,w,af,S,M,e,q⟩:=Z;exact⟨Y,m,ρ,w,af,S,M,e,λJ aa ρ' g U O=>h _ _ (q J aa ρ' g U O)⟩
def Tf(Q:L2.St->Hp->Prop):L2.St->Hp->Prop:=λ σ H=>Q σ H\/∃a u,H a=aV u/\gW u/\∀o,Q σ (upd H a (.bp o u))
theorem _root_.L2.PS.Uq{t:TS}(h:PS X st t):PS X st (λE σ H=>t { E with nx:=Tf E.nx } σ H):=λpi s σ H E I q=>a9 (h pi s σ H _ I q) λf U z=>by
 cases f with
 | ret u=>exact z
 | brk=>exact z
 | cont=>exact z
 | next=>
  obtain⟨B,aa,C,q | ⟨a,w,G,c,q⟩⟩:=z
  .exact⟨B,aa,C,q⟩
  .obtain⟨o,O⟩:=freeze C G c
   exact⟨B,_,O,q o⟩
theorem Mm(i:Nat){y:Str}{Y U:Pos}(hN:X.N.Nodup)(yd:X.N[i]?=aV y)(hy:X.env.scope.names.lookup y=aV .local)(B:ij X scope M own)(hc:X.calm=cf)(hi:PI X tg iter (l7 C X.K ip))(hg:∀G bu cE ex,PG (eS X scope M own G bu cE ex) tg (o5 X.K g))(ht:∀G bu cE ex,nh (eS X scope M own G bu cE ex) ifs (gb C X.K t))(he:∀G bu cE ex,PE (eS X scope M own G bu cE ex) elt (tD C X.K pe))(yn:swapsWith (.ListComp elt [⟨tg,iter,ifs,0⟩] scope pos) (aV (.Name y Y)) U.line X.env=pure cf:=by rfl)(hs:∀x,I0 iter X.env x=pure x:=by intro _;rfl):PS X (.Assign [.Name y Y] (.ListComp elt [⟨tg,iter,ifs,0⟩] scope pos) U) (mP C W X.K (.set i (.comp mu own.length g ip t pe))):=
 (Nf hN yd hy B hc hi hg ht he yn hs).Uq.imp λE σ H ai=>by
 obtain⟨aj,m,ρ,o,af,S,M,e,q⟩:=ai;obtain⟨⟨d,m1⟩,e1,e⟩:=bX e;cases e;have h:=oW (C:=C) (K:=X.K) (mu:=mu) (k:=own.length) (g:=g) (t:=t) (pe:=pe) (Q:=λx O=>E.nx (σ.set i (aV x)) O) rfl rfl ⟨aj,m,ρ,d,_,S,M,e1,λv O aq Z M1 A1=>q O aq Z M1 _ ((S.mono M Z).set i A1)⟩;refine qG KL (λv O z=>?_) h;rcases z with z | ⟨a,u,rfl,ha,cu,z⟩
 .exact .inl z
 .exact .inr ⟨a,u,ha,cu,z⟩
end
def ux(K:p5)(call:List D->Mem->Option (D×Mem)):Sp:=λvs H Q _=>∃ds m ρ d B,a7 K ρ H ds vs/\bo K ρ m H/\call ds m=aV (d,B)/\∀v aa,Go ρ ρ H aa->bo K ρ B aa->At K ρ aa d v->Q v aa
def GV(X:Cx)(C:String->List D->Mem->Option (D×Mem))(f:String):Prop:=∃(k:Nat) (B:Addr) (fd:FuncData) (ps:List Str),ji X.prog X.w X.K X.mg X.base kM k B fd ps (ux X.K (C f))/\hE k X.A/\X.mg (fi f)=aV (.ref B)/\PySem.W.keepIn X.K (.ref B)=cf/\Binds X.K fd ps []
section
variable{ps:jh}{f:String}
theorem MV(F:GV X C f)(ha:PA X (e::es) (uz C X.K ps))(hg:Gl X (fi f):=by kernel_rfl)(O:(fi f==("__debug__" : Str))=en:=by decide)(he:gm (e::es) X.env=(en,eval e X.env)::gm es X.env:=by kernel_rfl)(U:(backTo pos (gm es X.env)).any (·.1)=en:=by kernel_rfl):
  PE X (.Call (.Name (fi f) p) (e::es) [] pos) (tD C X.K (.call f ps)):=by
 obtain⟨k,fa,fd,qs,F,Z,hm,hk,hb⟩:=F;refine(Nv F Z hg hm hk hb .nil RS ha O he U).imp λ σ H Q ai=>?_
 obtain⟨aj,m,ρ,d,af,S,M,e,q⟩:=ai;obtain⟨⟨xs,B⟩,e1,e⟩:=az e;refine⟨aj,m,ρ,xs,B,S,M,e1,λvs H1 G g1 M1 A1=>?_⟩;show ux X.K (C f) (vs++[]) H1 Q E0;rw[vm];exact⟨xs,B,G,d,af,A1,M1,e,λv aa g Y A=>q v aa G (g1.trans g) Y A⟩
end
theorem _root_.L2.eM.fz{st:List Stmt}{t:TS}(h:eM X st t):eM X st (λE σ H=>t { E with rt:=Fz E.rt } σ H):=λpi s σ H E I q=>a9 (h pi s σ H _ I q) λf U z=>by
 cases f with
 | next=>exact z
 | brk=>exact z
 | cont=>exact z
 | ret u=>
  obtain⟨v,B,aa,C,r,q | ⟨a,w,e,G,c,q⟩⟩:=z
  .exact⟨v,B,aa,C,r,q⟩
  .obtain⟨o,O⟩:=freeze C G c
   exact⟨v,B,_,O,r,q o⟩
theorem KS{vs:List V}(h:a7 K ρ H ds vs):eQ K ρ H (ds.map aV++i5 (N.length-ds.length) a0) (L2.start N vs):=by
 unfold L2.start;rw[h.len];refine⟨by simp[h.len],λi d e=>?_⟩
 by_cases hi:i<ds.length
 .rw[km (by simpa using hi),fc]at e
  obtain⟨O,G,C⟩:=bX e;cases C;obtain⟨v,B,a⟩:=h.get G;exact⟨v,by rw[km (by simpa[h.len] using hi),fc,B];rfl,a⟩
 .rw[qk (by simp;lia)]at e
  have:=gL e;rw[List.mem_replicate]at this;cases this.2
theorem ZR(h:ρ <+: ρ'):ρ'.take ρ.length=ρ:=by
 obtain⟨t,rfl⟩:=h;simp
theorem oM{name:String}{F:Fn}(FN:tw K (fi name) qual st f fd)(S:Y5 N ps (GX st))(Jl:ae name=aV F)(k8:F.ps=ps.length)(sv:F.ns=N.length)(mv:∀(du:Value) (A:Around) (outer:List Env) (s:fu) (H:Hp) (E:XK),hE n (A.deeper (envOfC qual (GX st) s.heap.objs.size f du))->eM (oU kM P w K mg base N qual (GX st) f du A outer s H E).wa (JX st) (YD (BZ W ae n) W K F.body)) :
  ji P w K mg base kM (n+1) f fd ps (ux K (BZ W ae (n+1) name)):=by
 refine FN.ok S (λvs H Q E h=>?_) (λdu A outer s H vs Q E hr h=>?_)
 .obtain⟨ds,m,ρ,d,af,as,M,e,_⟩:=h
  unfold BZ at e;rw[Jl]at e;have e:(if ds.length=F.ps then _ else a0)=aV (d,af):=e;split at e
  .rename_i hl
   rw[as.len,hl,k8]
  .cases e
 obtain⟨ds,m,ρ,d,af,as,M,e,q⟩:=h;refine⟨_,(mv du A outer s H E hr).fz,?_⟩;unfold BZ at e;rw[Jl]at e;dsimp only[Option.bind_some]at e;split at e
 case isFalse=>cases e
 rename_i hl
 obtain⟨⟨o,G⟩,e1,e⟩:=az e;rw[sv,<-hl]at e1;refine⟨_,m,ρ,o,G,KS as,M,e1,λaa ρ' g Y=>?_⟩;cases o with
 | nx σ'=>
  have Ea:ρ'.take m.length=ρ:=by rw[<-M.len];exact ZR g.ex
  have g':Go ρ ρ H aa:=⟨g.fr,OW,λ_ h=>.inl h⟩
  have Mc:bo K ρ (G.take m.length) aa:=by have:=Y.cut m.length;rw[Ea]at this;exact this
  have e:aV (D.aE,G.take m.length)=aV (d,af):=e;cases e;intro σ1 S1;exact q .aE aa g' Mc rfl
 | rt d0=>
  intro v A0;obtain⟨d1,B,e⟩:=bX (show (outD m.length G d0).map (λd=>(d,G.take m.length))=aV (d,af) from e);cases e;have Ea:ρ'.take m.length=ρ:=by rw[<-M.len];exact ZR g.ex
  have g':Go ρ ρ H aa:=⟨g.fr,OW,λ_ h=>.inl h⟩
  have Mc:bo K ρ (G.take m.length) aa:=by have:=Y.cut m.length;rw[Ea]at this;exact this
  have plain:d0.clean=cf->d0=d->Fz Q v aa:=λO hd=>by
   subst hd;exact .inl (q v aa g' Mc (A0.clean (λ_ _ _ z=>z) O))
  have C:∀{i:Nat} {u:HO} {a:Addr},ρ'[i]?=aV a->m.length<=i->v=.ref a->aa a=aV u->gW u->(∀o,HS aa (upd aa a (.bp o u))->At K ρ (upd aa a (.bp o u)) d v)->Fz Q v aa:=λ {i u a} hi hle hv U hu xI=>by
   have hn:a∉ρ:=λz=>by
    obtain⟨j,hj,ej⟩:=kR z;have e3:ρ'[j]?=aV a:=jk.pre g.ex j a (by rw[eg hj,ej]);obtain⟨h1,x1⟩:=fx.mp hi;obtain⟨h2,x2⟩:=fx.mp e3;have:=(List.getElem_inj Y.nd).mp (x1.trans x2.symm);rw[M.len]at hj;lia
   have sr:H a=a0:=by
    rcases g.nw a (gL hi) with z | z
    .exact absurd z hn
    .exact z
   have eI:∀o,HS aa (upd aa a (.bp o u)):=λo il bt iu bE=>by
    rw[CJ]
    .exact bE
    .rintro rfl;rw[U]at bE;cases bE;exact hu
   refine .inr ⟨a,u,hv,U,hu,λo=>q v _ ⟨λb ob Z VT=>?_,OW,λ_ h=>.inl h⟩ (Mc.keep (eI o) λb Z=>CJ λz=>hn (z▸Z)) (xI o (eI o))⟩;rw[CJ (FZ Z sr)];exact g.fr b ob Z VT
  cases d0 with
  | aI i=>
   obtain⟨a,hi,rfl⟩:=A0;have B:(if i<m.length then a0 else match G[i]? with
    | some (.lst xs)=>if D.clean.cK xs then aV (D.lst xs) else a0
    | some (.ao ks vs)=>if D.clean.cK vs then aV (D.ao ks vs) else a0
    | _=>a0)=aV d:=B
   split at B
   case isTrue=>cases B
   rename_i aah
   split at B
   .rename_i xs hm
    split at B
    .rename_i O
     cases B;obtain⟨us,U,bs⟩:=Y.at' i a _ hi hm;exact C hi (by lia) rfl U trivial λo hz=>⟨a,o,us,rfl,CT,bs.clean hz O⟩
    .cases B
   .rename_i ks xs hm
    split at B
    .rename_i O
     cases B;obtain⟨kvs,U,hk,bs⟩:=Y.at' i a _ hi hm;exact C hi (by lia) rfl U trivial λo hz=>⟨a,o,kvs,rfl,CT,hk,bs.clean hz O⟩
    .cases B
   .cases B
  | _=>
   unfold outD at B;dsimp only at B;split at B
   .rename_i O
    exact plain O (b5 B)
   .cases B
end WL
namespace PySem.W
open PyProof.Rows
theorem KasT.wc{α β:Type}{n:Nat}{f:Nat->Nat->Bool}{k:α->KasT β}:∀t:KasT α,(t.bind k).gy n f=(t.gy n f).bind λa=>(k a).gy n f
 | .ret a=>rfl
 | .ask i j q=>by
  show (if i<n/\j<n then ((q (f i j)).bind k).gy n f else a0)=(if i<n/\j<n then (q (f i j)).gy n f else a0).bind _;split
  .exact KasT.wc _
  .rfl
theorem KasT.y2{α:Type}{f:Nat->Nat->Bool}{k:Bool->KasT α}(hi:i<n)(B:j<n):(KasT.ask i j k).gy n f=(k (f i j)).gy n f:=ah ⟨hi,B⟩
structure Ord(n:Nat)(f:Nat->Nat->Bool):Prop where
 kQ:∀i j,i<n->j<n->i≠j->f j i=!f i j
 tr:∀i j k,i<n->j<n->k<n->f i j=cf->f j k=cf->f i k=cf
def gf(n:Nat)(p:Array Nat):Prop:=p.toList.Perm (iS n)
noncomputable def gI(p:Array Nat)(i:Nat):Nat:=p.getD i 0
section
variable{f:Nat->Nat->Bool}{p:Array Nat}
theorem gf.size(h:gf n p):p.size=n:=by
 have:=h.length_eq;simpa using this
theorem gf.get(h:gf n p)(hi:i<n):p[i]?=aV (gI p i):=by
 have hs:i<p.size:=by rw[h.size];exact hi
 unfold gI;rw[qg,h8 hs];rfl
theorem gf.lt(h:gf n p)(hi:i<n):gI p i<n:=by
 have e:=h.get hi;have:gI p i∈p.toList:=by
  rw[<-gz]at e;exact gL e
 exact my.mp (h.mem_iff.mp this)
theorem gf.inj(h:gf n p)(hi:i<n)(O:j<n)(e:gI p i=gI p j):i=j:=by
 have G:p.toList.Nodup:=h.nodup_iff.mpr List.nodup_range;have B:=h.get hi;have C:=h.get O;rw[<-gz]at B C;rw[e]at B;exact(List.getElem?_inj (by rw[di,h.size];exact hi) G).mp (B.trans C.symm)
def Up(f:Nat->Nat->Bool)(p:Array Nat)(b:Nat):Prop:=∀i j,i<j->j<b->f (gI p i) (gI p j)=cf
def Dn(f:Nat->Nat->Bool)(p:Array Nat)(b:Nat):Prop:=∀i j,i<j->j<b->f (gI p j) (gI p i)=cf
theorem flip(O:Ord n f)(h:gf n p)(hi:i<n)(B:j<n)(C:i≠j)(e:f (gI p i) (gI p j)=en):f (gI p j) (gI p i)=cf:=by
 rw[O.kQ _ _ (h.lt hi) (h.lt B) λq=>C (h.inj hi B q),e];rfl
theorem Mf(O:Ord n f)(h:gf n p){m:Nat}(G:1<=m)(C:m<n)(u:Up f p m)(e:f (gI p (m-1)) (gI p m)=cf):Up f p (m+1):=by
 intro i j B U
 by_cases Dy:j<m
 .exact u i j B Dy
 .obtain rfl:j=m:=by lia
  by_cases Dx:i=j-1
  .subst Dx;exact e
  .exact O.tr _ _ _ (h.lt (by lia)) (h.lt (by lia)) (h.lt C) (u i (j-1) (by lia) (by lia)) e
theorem vO(O:Ord n f)(h:gf n p){m:Nat}(G:1<=m)(C:m<n)(u:Dn f p m)(e:f (gI p m) (gI p (m-1))=cf):Dn f p (m+1):=by
 intro i j B U
 by_cases Dy:j<m
 .exact u i j B Dy
 .obtain rfl:j=m:=by lia
  by_cases Dx:i=j-1
  .subst Dx;exact e
  .exact O.tr _ _ _ (h.lt C) (h.lt (by lia)) (h.lt (by lia)) e (u i (j-1) (by lia) (by lia))
theorem tG(O:Ord n f)(h:gf n p):∀(B m:Nat),1<=m->m+B=n->Up f p m->∃r,(kas_asc p B m).gy n f=aV r/\m<=r/\r<=n/\Up f p r/\(r<n->f (gI p r) (gI p (r-1))=cf)
 | 0,m,C,e,u=>⟨m,rfl,a8 _,by lia,u,λq=>by lia⟩
 | B+1,m,C,e,u=>by
  have G:(kas_asc p (B+1) m).gy n f=_:=KasT.y2 (h.lt (show m<n by lia)) (h.lt (show m-1<n by lia));cases c:f (gI p m) (gI p (m-1)) with
  | true=>
   refine⟨m,?_,a8 _,by lia,u,λ_=>c⟩;rw[G,show f (p.getD m 0) (p.getD (m-1) 0)=cf from c,ah rfl];rfl
  | false=>
   obtain⟨r,h1,h2,Z,Y,U⟩:=tG O h B (m+1) (by lia) (by lia) (Mf O h C (by lia) u (flip O h (by lia) (by lia) (by lia) c));refine⟨r,?_,by lia,Z,Y,U⟩;rw[G,show f (p.getD m 0) (p.getD (m-1) 0)=en from c,ak (by decide)];exact h1
theorem vP(O:Ord n f)(h:gf n p):∀(B m:Nat),1<=m->m+B=n->Dn f p m->∃r,(kas_desc B p m 0).gy n f=aV (p,r,0)/\m<=r/\r<=n/\Dn f p r
 | 0,m,C,e,u=>⟨m,rfl,a8 _,by lia,u⟩
 | B+1,m,C,e,u=>by
  have G:(kas_desc (B+1) p m 0).gy n f=_:=KasT.y2 (h.lt (show m<n by lia)) (h.lt (show m-1<n by lia));cases c:f (gI p m) (gI p (m-1)) with
  | true=>
   obtain⟨r,Z,h2,Y,U⟩:=vP O h B (m+1) (by lia) (by lia) (vO O h C (by lia) u c);refine⟨r,?_,by lia,Y,U⟩;rw[G,show f (p.getD m 0) (p.getD (m-1) 0)=cf from c,ah rfl,ak (by lia)];exact Z
  | false=>
   have dh:=flip O h (by lia) (by lia) (by lia) c;refine⟨m,?_,a8 _,by lia,u⟩;rw[G,show f (p.getD m 0) (p.getD (m-1) 0)=en from c,ak (by decide),KasT.y2 (show p.getD (m-1) 0<n from h.lt (show m-1<n by lia)) (show p.getD m 0<n from h.lt (show m<n by lia)),show f (p.getD (m-1) 0) (p.getD m 0)=cf from dh,ah rfl];rfl
theorem n8(h:gf n p)(i j:Nat):gf n (kas_rev p i j):=(Array.Perm.toList (mirror_perm p i j _)).trans h
theorem uF(h:gf n p)(B:j<=n){k:Nat}(hk:k<n):gI (kas_rev p 0 j) k=if k<j then gI p (j-1-k) else gI p k:=by
 have e:=getElem?_mirror_all (xs:=p) (i:=0) (j:=j) (by rw[h.size];exact B) k;have C:=(n8 h 0 j).get hk;rw[show (mirror p 0 j ((j-0) / 2))[k]?=aV (gI (kas_rev p 0 j) k) from C]at e
 by_cases q:k<j
 .rw[ah ⟨eC _,q⟩,show 0+j-1-k=j-1-k by lia,h.get (by lia)]at e
  rw[ah q];exact b5 e
 .rw[ak (λz=>q z.2),h.get hk]at e
  rw[ak q];exact b5 e
theorem LS(O:Ord n f)(h:gf n p)(h2:2<=n):∃r C,(kas_count n p).gy n f=aV (r,C)/\gf n C/\1<=r/\r<=n/\Up f C r:=by
 obtain⟨m,a1,a2,a3,G,a5⟩:=tG O h (n-1) 1 (a8 _) (by lia) (λi j _ _=>by lia);have B:(kas_count n p).gy n f=_:=KasT.wc _;rw[a1,bS]at B
 by_cases Iw:m=n
 .refine⟨m,p,?_,h,by lia,by lia,G⟩
  rw[B,ah (by simp[Iw])];rfl
 .rw[ak (by simpa using Iw)]at B
  by_cases Z:m > 1
  .refine⟨m,p,?_,h,by lia,by lia,G⟩
   rw[B,ah Z,KasT.y2 (show p.getD 0 0<n from h.lt (show 0<n by lia)) (show p.getD (m-1) 0<n from h.lt (show m-1<n by lia)),show f (p.getD 0 0) (p.getD (m-1) 0)=cf from G 0 (m-1) (by lia) (by lia),ah rfl];rfl
  .obtain rfl:m=1:=by lia
   rw[ak Z]at B;have c:=a5 (by lia);obtain⟨r,d1,d2,d3,d4⟩:=vP O h (n-2) 2 (by lia) (by lia) (vO O h (a8 _) (by lia) (λi j _ _=>by lia) c);have Y:(kas_descPart 1 n p).gy n f=_:=KasT.wc _;rw[show n-(1+1)=n-2 by lia,d1,bS,ak (show ¬(0 > 0) by lia)]at Y;have hp:=n8 h 0 r;have hu:Up f (kas_rev p 0 r) r:=λi j jt hj=>by
    rw[uF h d3 (show i<n by lia),uF h d3 (show j<n by lia),ah (by lia),ah hj];exact d4 _ _ (by lia) (by lia)
   obtain⟨m2,b1,b2,b3,b4,_⟩:=tG O hp (n-r) r (by lia) (by lia) hu;have U:(kas_tail3 r n p).gy n f=_:=KasT.wc _;rw[b1,bS]at U;exact⟨m2,kas_rev p 0 r,by rw[B,Y,U];rfl,hp,by lia,b3,b4⟩
theorem bZ(O:Ord n f)(h:gf n p){k:Nat}(hk:k<n)(u:Up f p k):∀(B l r:Nat),l<=r->r<=k->r-l<=B->(∀i,i<l->f (gI p i) (gI p k)=cf)->(∀i,r<=i->i<k->f (gI p k) (gI p i)=cf)->
  ∃x,(kas_place p k B l r).gy n f=aV x/\x<=k/\(∀i,i<x->f (gI p i) (gI p k)=cf)/\(∀i,x<=i->i<k->f (gI p k) (gI p i)=cf)
 | 0,l,r,h1,Z,h3,G,C=>by
  obtain rfl:l=r:=by lia
  exact⟨l,rfl,Z,G,C⟩
 | B+1,l,r,h1,Z,h3,G,C=>by
  by_cases q:l≥r
  .obtain rfl:l=r:=by lia
   refine⟨l,?_,Z,G,C⟩;unfold kas_place;rw[ah q];rfl
  .have e1:(kas_place p k (B+1) l r).gy n f=(if f (gI p k) (gI p ((l+r) / 2))=cf then kas_place p k B l ((l+r) / 2) else kas_place p k B ((l+r) / 2+1) r).gy n f:=by
    rw[kas_place,ak q];exact KasT.y2 (h.lt hk) (h.lt (show (l+r) / 2<n by lia))
   cases c:f (gI p k) (gI p ((l+r) / 2)) with
   | true=>
    obtain⟨x,Y,U⟩:=bZ O h hk u B l ((l+r) / 2) (by lia) (by lia) (by lia) G (λi hi Vn=>by
     by_cases e:i=(l+r) / 2
     .subst e;exact c
     .exact O.tr _ _ _ (h.lt hk) (h.lt (by lia)) (h.lt (by lia)) c (u _ _ (by lia) Vn))
    exact⟨x,by rw[e1,c,ah rfl];exact Y,U⟩
   | false=>
    have dh:=flip O h hk (by lia) (by lia) c;obtain⟨x,Y,U⟩:=bZ O h hk u B ((l+r) / 2+1) r (by lia) (by lia) (by lia) (λi hi=>by
     by_cases e:i=(l+r) / 2
     .subst e;exact dh
     .exact O.tr _ _ _ (h.lt (by lia)) (h.lt (by lia)) (h.lt hk) (u _ _ (by lia) (by lia)) dh) C
    exact⟨x,by rw[e1,c,ak (by decide)];exact Y,U⟩
theorem wA(h:gf n p){k d:Nat}(hk:k<n)(hd:d<=k)(hi:i<n):gI (bubble p k d) i=if i=k-d then gI p k else if k-d<i/\i<=k then gI p (i-1) else gI p i:=by
 have e:=getElem?_bubble (xs:=p) (src:=k) (by rw[h.size];exact hk) d hd i;have hp:gf n (bubble p k d):=(Array.Perm.toList (bubble_perm p k d)).trans h;rw[hp.get hi]at e
 by_cases q:i=k-d
 .rw[ah q,h.get hk]at e
  rw[ah q];exact b5 e
 .rw[ak q]at e ⊢
  by_cases q2:k-d<i/\i<=k
  .rw[ah q2,h.get (by omega)]at e
   rw[ah q2];exact b5 e
  .rw[ak q2,h.get hi]at e
   rw[ak q2];exact b5 e
theorem FR(O:Ord n f):∀(B:Nat) (p:Array Nat) (k:Nat),gf n p->k+B=n->Up f p k->∃C,(kas_bin B p k).gy n f=aV C/\gf n C/\Up f C n
 | 0,p,k,h,e,u=>⟨p,rfl,h,by rw[<-e];exact u⟩
 | B+1,p,k,h,e,u=>by
  have hk:k<n:=by lia
  obtain⟨l,z1,z2,z3,z4⟩:=bZ O h hk u k 0 k (eC _) (a8 _) (by lia) (λi hi=>by lia) (λi hi Il=>by lia);have hp:gf n (bubble p k (k-l)):=(Array.Perm.toList (bubble_perm p k _)).trans h;have hu:Up f (bubble p k (k-l)) (k+1):=λi j jt hj=>by
   rw[wA h hk (by lia) (show i<n by lia),wA h hk (by lia) (show j<n by lia),show k-(k-l)=l by lia]
   by_cases Z:i=l
   .subst Z
    rw[ah rfl,ak (by lia),ah (by lia)];exact z4 _ (by lia) (by lia)
   .rw[ak Z]
    by_cases Y:l<i/\i<=k
    .rw[ah Y,ak (by lia),ah (by lia)]
     exact u _ _ (by lia) (by lia)
    .rw[ak Y]
     by_cases U:j=l
     .rw[ah U];exact z3 _ (by lia)
     .rw[ak U]
      by_cases G:l<j/\j<=k
      .rw[ah G];exact u _ _ (by lia) (by lia)
      .rw[ak G];exact u _ _ jt (by lia)
  obtain⟨C,w1,w2⟩:=FR O B (bubble p k (k-l)) (k+1) hp (by lia) hu;refine⟨C,?_,w2⟩;have e1:(kas_bin (B+1) p k).gy n f=_:=KasT.wc _;rw[e1,z1,bS];exact w1
theorem Nx{l:List Nat}(h:∀(i j x y:Nat),i<j->l[i]?=aV x->l[j]?=aV y->f x y=cf):l.Pairwise (λa b=>f a b=cf):=by
 rw[List.pairwise_iff_getElem];intro i j hi C B;exact h i j _ _ B (eg hi) (eg C)
theorem Ym(h2:2<=n)(O:Ord n f):∃p,(kas_sort n).gy n f=aV p/\p.toList.Perm (iS n)/\p.toList.Pairwise (λa b=>f a b=cf):=by
 have h0:gf n (List.toArray (iS n)):=List.Perm.refl _;obtain⟨r,Z,c1,c2,c3,c4,c5⟩:=LS O h0 h2;have G:(kas_sort n).gy n f=_:=KasT.wc _;rw[c1,bS]at G;have C:∀q:Array Nat,gf n q->Up f q n->q.toList.Pairwise (λa b=>f a b=cf):=λq Y hu=>Nx λi j x y jt hx U=>by
  have B:j<n:=by
   have:=fx.mp U;obtain⟨B,_⟩:=this;rw[di,Y.size]at B;exact B
  rw[gz,Y.get (by lia)]at hx;rw[gz,Y.get B]at U;cases hx;cases U;exact hu i j jt B
 by_cases hr:r<n
 .rw[ah hr,show max r 1=r by lia]at G
  obtain⟨q,w1,w2,w3⟩:=FR O (n-r) Z r c2 (by lia) c5;exact⟨q,by rw[G];exact w1,w2,C q w2 w3⟩
 .rw[ak hr]at G
  obtain rfl:r=n:=by lia
  exact⟨Z,by rw[G];rfl,c2,C Z c2 c5⟩
end
end PySem.W
namespace PySem
def lq(h:Heap)(d:Addr)(es:Array DictEntry)(ep:Nat):Prop:=∃o,h.get? d=aV o/\o.ExactDict/\o.data=.dict es ep
section
variable{d:Addr}{es:Array DictEntry}{ep:Nat}
theorem lq.typeIs(x:lq s.heap d es ep):s.TypeIs (.ref d) "dict":=by
 obtain⟨o,B,C,_⟩:=x;exact⟨o,B,C.1⟩
theorem lq.lt(x:lq h d es ep):d<h.objs.size:=by
 obtain⟨_,B,_⟩:=x;exact bg B
theorem lq.at(x:lq h d es ep)(hk:∀o,h.get? d=aV o->h'.get? d=aV o):lq h' d es ep:=by
 obtain⟨o,B,r⟩:=x;exact⟨o,hk o B,r⟩
theorem LA(hd:(d==t4)=en)(G:lq s.heap d es ep)(U:Q (.ref s.heap.objs.size) { s with heap:=s.heap.push { cls:=.type "dict_keyiterator",data:=.fields #[.ref d,.int 0 0,.int es.size 0,.int ep 0] } }):fj (gx prog w) A (pyIter (.ref d)) Q E s:=by
 have B:=G.typeIs;obtain⟨o,C,_,O⟩:=G;refine wpAny_pyIter_slot B F.slot_dict_iter (kg F.slot_dict_iter B F.entry_dict_iter ?_ (F.args_dict_iter_1 _));unfold Builtin.«dict.__iter__»;refine ab ?_;unfold Builtin.Dict.dictSlotNone;refine ab (wpAny_notOrdered_dict B ?_);show fj _ _ (pure (gg d)) _ _ s;refine ag ?_;show fj _ _ (Builtin.Dict.showsAll d >>= _) _ _ s;unfold Builtin.Dict.showsAll;rw[ak (by rw[hd];exact eJ)];refine ab (ag ?_);refine ab (wpAny_dictEntries C O ?_);refine ab (wpAny_dictEpoch C O ?_);exact ab (kn (ag ⟨_,rfl,"dict_keyiterator",_,⟨_,dm _ rfl,rfl⟩,F.slot_dict_keyiterator_next.lookup,U⟩))
theorem Lo{e:DictEntry}{Q:Option Value->fu->Prop}(B:s.heap.IsKeyIter it d i es.size ep)(Z:lq s.heap d es ep)(Y:es[i]?=aV e)(hQ:∀h',h'.IsKeyIter it d (i+1) es.size ep->vw it s.heap h'->Q (aV e.key) { s with heap:=h' }):fj (gx prog w) A (pyNext (.ref it)) Q E s:=by
 obtain⟨o,C,hc,hd⟩:=id B;obtain⟨od,G,kr,O⟩:=Z;unfold pyNext;refine ab (wpAny_attempt (zm (name:=fi "__next__") B.typeIs F.slot_dict_keyiterator_next
  (kg F.slot_dict_keyiterator_next B.typeIs F.entry_dict_keyiterator_next ?_ (F.args_dict_keyiterator_next_1 _))))
 refine ab (ag ?_);refine ab ?_;refine ab ?_
 first | refine ab (wpAny_typeNameOfWhole_keyiter B.typeIs (ag ?_)) | refine ab (wpAny_typeNameOf_keyiter B.typeIs (ag ?_))
 refine ab (wpAny_fieldsOf C hd ?_);have U:Builtin.Dict_items.ownsTuple "dict_keyiterator" = en:=by decide
 simp only[U,ft,if_false];show fj _ _ (if (gg d==ye)=cf then _ else _) _ _ s;rw[ak (show ¬((gg d==ye)=cf) from eJ)];refine ab (ag ?_);refine ab (wpAny_dictEntries G O ?_);rw[ak (by simp)];refine ab (ag ?_);refine ab (wpAny_dictEpoch G O ?_);rw[ak (by simp)];refine ag ?_;obtain⟨b8,he⟩:=Array.getElem?_eq_some_iff.mp Y;simp only[show ¬((i:Int)<0) from by lia,if_false,qp,h8 b8];refine ab ?_
 first | refine ab (wpAny_typeNameOfWhole_keyiter B.typeIs (ag ?_)) | refine ab (wpAny_typeNameOf_keyiter B.typeIs (ag ?_))
 refine ab (wpAny_isOneOf_keyiter B.typeIs ?_);show fj _ _ (setField (.ref it) 1 (qf ((i:Int)+1)) >>= _) _ _ s;refine ab (wpAny_setField C hd (by simp) ?_);have AE:(s.heap.update it (Obj.mapFields (·.setIfInBounds 1 (qf ((i:Int)+1))))).IsKeyIter it d (i+1) es.size ep:=
  ⟨_,nv _ C (Obj.isFreed_of_fields (Obj.data_mapFields hd _)),(Obj.cls_mapFields ..).trans hc,by rw[Obj.data_mapFields hd];simp[qf]⟩
 refine ab (fg ?_);refine ab (wpAny_isOneOf_keyiter (s:={ s with heap:=s.heap.update it (Obj.mapFields (·.setIfInBounds 1 (qf ((i:Int)+1)))) }) AE.typeIs ?_);show fj _ _ (pure es[i].key) _ _ _;rw[he];exact ag (ag ⟨_,rfl,ag (hQ _ AE (tJ ..))⟩)
theorem Ow{Q:Option Value->fu->Prop}(hh:A.handled=a0)(B:s.heap.IsKeyIter it d i es.size ep)(Z:lq s.heap d es ep)(Y:es.size<=i)(hQ:∀h',Heap.ExtBut it s.heap h'->Q a0 { s with heap:=h' }):fj (gx prog w) A (pyNext (.ref it)) Q E s:=by
 obtain⟨o,O,hc,hd⟩:=id B;obtain⟨od,C,kr,G⟩:=Z;unfold pyNext;refine ab (wpAny_attempt (zm (name:=fi "__next__") B.typeIs F.slot_dict_keyiterator_next
  (kg F.slot_dict_keyiterator_next B.typeIs F.entry_dict_keyiterator_next ?_ (F.args_dict_keyiterator_next_1 _))))
 refine ab (ag ?_);refine ab ?_;refine ab ?_
 first | refine ab (wpAny_typeNameOfWhole_keyiter B.typeIs (ag ?_)) | refine ab (wpAny_typeNameOf_keyiter B.typeIs (ag ?_))
 refine ab (wpAny_fieldsOf O hd ?_);have U:Builtin.Dict_items.ownsTuple "dict_keyiterator" = en:=by decide
 simp only[U,ft,if_false];show fj _ _ (if (gg d==ye)=cf then _ else _) _ _ s;rw[ak (show ¬((gg d==ye)=cf) from eJ)];refine ab (ag ?_);refine ab (wpAny_dictEntries C G ?_);rw[ak (by simp)];refine ab (ag ?_);refine ab (wpAny_dictEpoch C G ?_);rw[ak (by simp)];refine ag ?_;simp only[show ¬((i:Int)<0) from by lia,if_false,qp,Array.getElem?_eq_none Y];refine ab ?_
 first | refine ab (wpAny_typeNameOfWhole_keyiter B.typeIs (ag ?_)) | refine ab (wpAny_typeNameOf_keyiter B.typeIs (ag ?_))
 show fj _ _ (setField (.ref it) 0 .none >>= _) _ _ s;refine ab (wpAny_setField O hd (by simp) ?_);show fj _ _ (newExc (.type "StopIteration") [] >>= _) _ _ _;refine ab ?_;simp only[newExc,newTuple];refine ab (kn ?_ (by size_fits));refine ab (m:=firstArgMember _ _) (wpAny_of_eq (a:=ye) (by first | rfl | (simp only[firstArgMember];rfl)) ?_);refine kn ?_ (by size_fits);simp only[raiseNew];refine ab (wpAny_handled ?_);rw[show A.in1.handled=a0 from hh];refine ab (ag (wpAny_throw ?_));refine ab (zk (T:="StopIteration") (b:=cf) ⟨_,dm _ rfl,rfl⟩ isSubtype_stop ?_);exact ag (hQ _ (((tJ ..).extBut.push _).push _))
theorem Walks.raw(O:A.handled=a0)(I d:Addr)(U:d≠I)(es:Array DictEntry)(ep:Nat):
  Walks prog w A I [I,d] [I] es.size (λi v=>∃e,es[i]?=aV e/\v=e.key) (λi h=>h.IsKeyIter I d i es.size ep/\lq h d es ep) where
 sub:=λb B=>by simp at B;simp[B]
 frame:=λ_ _ _ st hk=>⟨st.1.at λo e=>hk I (by simp) o e,st.2.at λo e=>hk d (by simp) o e⟩
 item:=λi s Q E hi st C=>by
  have G:es[i]?=aV es[i]:=h8 hi;refine Lo st.1 st.2 G λh' AE IP=>?_
  exact C _ h' s.toks ⟨_,G,rfl⟩ ⟨AE,st.2.at λo e=>IP.extBut d o U e⟩ λb o B e=>IP.extBut b o (λh=>B (by simp[h])) e
 done:=λs Q E st C=>Ow O st.1 st.2 (a8 _) λh' Vb=>C h' s.toks λb o B e=>Vb b o (λh=>B (by simp[h])) e
 self:=λ_ _ _ _ st C=>wpAny_pyIter_keyiter st.1 C
end
namespace W
section
variable{d:Addr}{es:Array DictEntry}{ep:Nat}
theorem WI(lo:(d==t4)=en):KdlSrc prog w "dict" d d es.size (λi v=>∃e,es[i]?=aV e/\v=e.key) (λh=>lq h d es ep) where
 type:=λ_ B=>B.typeIs
 there:=λ_ B=>⟨B.lt,B.lt⟩
 keep:=λ_ _ B hk=>B.at λo e=>hk d (.inl rfl) o e
 notList:=by decide
 notTuple:=by decide
 hint:=λ_ _ _ _ B C=>kdl_hint_dict B.typeIs C
 iter:=λ_ _ G B=>⟨_,_,(λ_ _ C=>LA lo B C),Walks.raw G _ d (cc B.lt) es ep,⟨⟨_,dm _ rfl,rfl,rfl⟩,B.at λo e=>cx _ e⟩⟩
end
end W
end PySem
namespace L2
open PySem PySem.Spec PyProof.Rows
def Q0(K:p5)(H:Hp)(k:FK)(b:Addr):Prop:=∃c,eP K H b [.str k.1,.ref c]/\eP K H c [.str k.2.1,kV k.2.2]
theorem PJ(I:Inv X pi σ H s){k:FK}{b:Addr}(h:Q0 X.K H k b):g7 P w s.heap k b:=by
 obtain⟨c,hb,Z⟩:=h;obtain⟨its,r,⟨o,e,cl,n,d⟩,_⟩:=I.tuple hb;obtain⟨its',de,⟨bt,au,TN,cn,d'⟩,_⟩:=I.tuple Z;cases r with
 | cons Y O=>
  cases O with
  | cons U G=>
   cases G;obtain⟨t,rfl⟩:=Y;cases U;cases de with
   | cons q1 C=>
    cases C with
    | cons q2 B=>
     cases B;obtain⟨t',rfl⟩:=q1;refine⟨o,_,n,t,c,e,cl,d,rfl,bt,_,cn,au,TN,d',?_⟩;exact .cons (R4 (prog:=P) (w:=w)) (.cons (WT q2) .nil)
theorem LO(h:Heap)(B:t4<h.objs.size):dS P w H (h.push { cls:=.type "dict",data:=.dict #[] }) h.objs.size (.dF []):=by
 obtain⟨z,lo,xs,r,o,es,ep,q⟩:=LM (P:=P) (w:=w) (H:=H) h B;cases r;exact⟨eC _,lo,o,es,ep,q.1,q.2.1,q.2.2.1,q.2.2.2.1,lu⟩
def Rq:TE:=λ_ H Q=>∀p,H p=a0->Q (.ref p) (upd H p (.dF []))
theorem XI:PE X (.Dict [] [] pos) Rq:=λpi s σ H Q I h=>
 wpAny_Dict_empty ⟨.ref s.heap.objs.size,_,I.laid (a:=s.heap.objs.size) (o:=.dF []) (t':=s.toks) (λ_ _ q=>cx _ q) (a8 _) (LO s.heap I.big),rfl,h _ (I.aS.fresh (a8 _))⟩
noncomputable def dN(xs:List (FK×Addr))(k:FK)(b:Addr):List (FK×Addr):=if xs.any (λx=>eH (x.1=k)) then xs else xs++[(k,b)]
noncomputable def yX(xs:List (FK×Addr)):List (FK×Addr×Value):=xs.map λx=>(x.1,x.2,.bool cf)
theorem tQ(xs:List (FK×Addr)):(yX xs).map (·.1)=xs.map (·.1):=by unfold yX;rw[b6];rfl
theorem F3:∀{xs:List (FK×Addr)} {k:FK},(atKey (yX xs) k).isSome=xs.any (λx=>eH (x.1=k))
 | [],k=>rfl
 | x::r,k=>by
  have B:=F3 (xs:=r) (k:=k);unfold atKey yX at B ⊢
  by_cases h:x.1=k
  .simp[h]
  .simp only[cj,List.find?_cons,h,decide_false,List.any_cons,Bool.false_or]
   exact B
theorem Pb(xs:List (FK×Addr))(k:FK)(b:Addr):storedH (yX xs) k b (.bool cf)=yX (dN xs k b):=by
 unfold storedH dN;rw[F3]
 by_cases h:xs.any (λx=>eH (x.1=k))=cf
 .rw[ah h,ah h]
  unfold yX;rw[b6];refine qe λx _=>?_
  simp only[Function.comp,putAt];split<;>rfl
 .rw[ak h,ak h]
  simp[yX]
theorem rP{b:Addr}{k:FK}{xs:List (FK×Addr)}{Q:Unit->fu->Prop}(hu:A.units+11<cLine)(I:Inv X pi σ H s)(e:H a=aV (.dF xs))(hk:Q0 X.K H k b)(hx:∀x∈xs,Q0 X.K H x.1 x.2)(l:xs.length<sizeLine)(h:∀s',Inv X pi σ (upd H a (.dF (dN xs k b))) s'->Q () s'):fj (gx X.prog X.w) A (setItem (.ref a) (.ref b) (.bool cf)) Q E s:=by
 obtain⟨z,lo,o,es,ep,ho,hex,hd,O,cS⟩:=(show dS X.prog X.w H s.heap a (.dF xs) from I.aS a _ e)
 have dd:s.heap.DictOfH (X4 X.prog X.w) a (yX xs):=⟨o,es,ep,ho,hex,hd,by rw[O];unfold yX;rw[b6];rfl,λy Z=>by
  obtain⟨x,U,rfl⟩:=ck Z;exact PJ I (hx x U),by rw[tQ];exact cS⟩
 have hl:(dN xs k b).length<=sizeLine:=by
  unfold dN;split
  .exact z
  .simp;omega
 refine wpAny_setItem_heap (knd:=X4 X.prog X.w) (hsz:=by rw[yX,a6];exact z) (show A.units+1+10<cLine by omega) (PJ I hk) dd λh' B hs=>h _ ?_
 rw[Pb]at B;obtain⟨q,Y,fh,C,h2,h3,h4,_,G⟩:=B;refine XC I (by rw[e];exact True.intro) hs ⟨q,C⟩ ⟨hl,lo,q,Y,fh,C,h2,h3,?_,by rw[tQ]at G;exact G⟩;rw[h4];unfold yX;rw[b6];rfl
def RA(K:p5)(td ty:TE):TS:=λD σ H=>td σ H λx C=>ty σ C λy B=>∃a b k xs,x=.ref a/\y=.ref b/\B a=aV (.dF xs)/\Q0 K B k b/\(∀x∈xs,Q0 K B x.1 x.2)/\xs.length<sizeLine/\D.nx σ (upd B a (.dF (dN xs k b)))
theorem Ng{i:Expr}(hu:X.A.units+11<cLine)(ho:PE X o td)(hi:PE X i ty)(hs:swapsWith (.Constant (.bool cf) j p1) (aV (.Subscript o i pos')) pos.line X.env=pure en:=by rfl):
  PS X (.Assign [.Subscript o i pos'] (.Constant (.bool cf) j p1) pos) (RA X.K td ty):=by
 intro pi s σ H D I h;refine wpAny_Assign_Subscript (a9 (F8 pi s σ H (λv C=>v=.bl cf/\C=H) I ⟨rfl,rfl⟩) λr s1 B=>?_) hs;obtain⟨v,C,I1,U,ev,eh⟩:=B;subst ev eh;obtain rfl:r=Value.bool cf:=U;refine a9 (ho pi s1 σ _ _ I1 h) λu s2 ⟨x,H2,I2,O,q2⟩=>a9 (hi pi s2 σ H2 _ I2 q2) λZ s3 B=>?_
 obtain⟨y,H3,I3,G,a,b,k,xs,ex,ey,e,hk,hx,l,Y⟩:=B;subst ex ey;obtain rfl:u=gg a:=O;obtain rfl:Z=gg b:=G;exact rP hu I3 e hk hx l λs4 I4=>⟨σ,_,I4,Y⟩
structure oj{α:Type}(f:α->α->Bool):Prop where
 mI:∀a,f a a=en
 kQ:∀a b,a≠b->f b a=!f a b
 tr:∀a b c,f a b=cf->f b c=cf->f a c=cf
noncomputable def zr(a b:Str):Bool:=eH (a.cps.toList<b.cps.toList)
theorem wj:oj zr where
 mI:=λa=>df (List.lt_irrefl _)
 kQ:=λa b h=>LP h
 tr:=λa b c C B=>cz (List.lt_trans (eW C) (eW B))
theorem AV:oj rD where
 mI:=λa=>by
  cases a with
  | inl i=>simp[rD]
  | inr x=>exact wj.mI x
 kQ:=λa b h=>by
  cases a with
  | inl i=>
   cases b with
   | inl j=>
    have:i≠j:=λe=>h (by rw[e])
    simp only[rD]
    by_cases q:i<j
    .rw[cz q,df (by lia)];rfl
    .rw[df q,cz (by lia)];rfl
   | inr y=>rfl
  | inr x=>
   cases b with
   | inl j=>rfl
   | inr y=>exact wj.kQ x y λe=>h (by rw[e])
 tr:=λa b c C B=>by
  cases a with
  | inl i=>
   cases b with
   | inl j=>
    cases c with
    | inl k=>simp only[rD,decide_eq_true_eq]at C B ⊢;lia
    | inr z=>rfl
   | inr y=>
    cases c with
    | inl k=>cases B
    | inr z=>rfl
  | inr x=>
   cases b with
   | inl j=>cases C
   | inr y=>
    cases c with
    | inl k=>cases B
    | inr z=>exact wj.tr x y z C B
noncomputable def rB{α β:Type}[DecidableEq α][DecidableEq β](f:α->α->Bool)(g:β->β->Bool)(p q:α×β):Bool:=if p.1=q.1 then (if p.2=q.2 then en else g p.2 q.2) else f p.1 q.1
theorem jO{α β:Type}[DecidableEq α][DecidableEq β]{f:α->α->Bool}{g:β->β->Bool}(F:oj f)(G:oj g):oj (rB f g) where
 mI:=λa=>by simp[rB]
 kQ:=λa b h=>by
  unfold rB
  by_cases B:a.1=b.1
  .have C:a.2≠b.2:=λe=>h (Prod.ext B e)
   rw[ah B,ah B.symm,ak C,ak (Ne.symm C)];exact G.kQ _ _ C
  .rw[ak B,ak (Ne.symm B)]
   exact F.kQ _ _ B
 tr:=λa b c B C=>by
  unfold rB at B C ⊢
  by_cases U:a.1=b.1
  .rw[ah U]at B
   by_cases O:b.1=c.1
   .rw[ah O]at C
    rw[ah (U.trans O)]
    by_cases q1:a.2=b.2
    .rw[ah q1]at B;cases B
    .rw[ak q1]at B
     by_cases q2:b.2=c.2
     .rw[ah q2]at C;cases C
     .rw[ak q2]at C
      have:=G.tr _ _ _ B C;rw[ak λe=>by rw[e,G.mI]at this;cases this];exact this
   .rw[ak O]at C
    rw[ak λe=>O (U.symm.trans e),U];exact C
  .rw[ak U]at B
   by_cases O:b.1=c.1
   .rw[ah O]at C
    rw[ak λe=>U (e.trans O.symm),<-O];exact B
   .rw[ak O]at C
    have:=F.tr _ _ _ B C;rw[ak λe=>by rw[e,F.mI]at this;cases this];exact this
theorem Oi:YS=rB zr (rB zr rD):=by
 funext p q;rfl
theorem rV:oj YS:=by rw[Oi];exact jO wj (jO wj AV)
theorem Eu{ps:List (Str×Int)}(h:(ps.map (·.1)).Nodup):ps.Nodup:=(L5.mp h).imp λh e=>h (by rw[e])
theorem N4:oj (λi j:Int=>eH (i<j)) where
 mI:=λa=>AV.mI (.inl a)
 kQ:=λa b h=>AV.kQ (.inl a) (.inl b) λe=>h (Sum.inl.inj e)
 tr:=λa b c=>AV.tr (.inl a) (.inl b) (.inl c)
theorem Kh:oj WM:=(show WM=rB zr (λi j:Int=>eH (i<j)) from rfl)▸jO wj N4
section
variable{α:Type}{lt:α->α->Bool}
noncomputable def Cn(lt:α->α->Bool)(B:α×Addr)(fs:List (α×Addr))(i j:Nat):Bool:=lt (fs.getD i B).1 (fs.getD j B).1
theorem L7(O:oj lt){B:α×Addr}{fs:List (α×Addr)}(G:(fs.map (·.1)).Nodup):PySem.W.Ord fs.length (Cn lt B fs) where
 kQ:=λi j hi C h=>O.kQ _ _ λe=>by
  have e1:(fs.map (·.1))[i]'(by simpa using hi)=(fs.getD i B).1:=by simp[js,hi]
  have Z:(fs.map (·.1))[j]'(by simpa using C)=(fs.getD j B).1:=by simp[js,C]
  exact h ((List.getElem_inj G).mp (e1.trans (e.trans Z.symm)))
 tr:=λi j k _ _ _ Y U=>O.tr _ _ _ Y U
theorem QJ(l:List α)(d:α){B:List Nat}(h:B.Perm (iS l.length)):(B.map λj=>l.getD j d).Perm l:=by
 have e:(iS l.length).map (λj=>l.getD j d)=l:=by
  apply yv;intro i
  by_cases hi:i<l.length
  .rw[fc,List.getElem?_range hi]
   simp[js,hi]
  .rw[kv (by simp;lia),kv (by lia)]
 have:=h.map λj=>l.getD j d
 rw[e]at this;exact this
theorem YL:∀fs:List (α×Addr),Vals (fs.map λx=>V.ref x.2) (fs.map λx=>gg x.2)
 | []=>.nil
 | x::r=>.cons rfl (YL r)
theorem TQ{fs:List (α×Addr)}:∀{its:List Value},Vals (fs.map λx=>V.ref x.2) its->its=fs.map λx=>gg x.2:=by
 induction fs with
 | nil=>intro its h;cases h;rfl
 | cons x r B=>
  intro its h;cases h with
  | cons a b=>
   cases a;rw[B b];rfl
abbrev lQ (lt:α->α->Bool) (fs:List (α×Addr)) (H:Hp) (Q:VK):Prop:=∀(p:Addr) (ys:List (α×Addr)),H p=a0->ys.Perm fs->ys.Pairwise (λx y=>lt x.1 y.1=cf)->Q (.ref p) (upd H p (.lst (ys.map λx=>V.ref x.2)))
variable{fs:List (α×Addr)}{Q:VK}
abbrev zF (X:Cx) (pi:List (Addr×Obj)) (σ:St) (s:fu) (fs:List (α×Addr)) (Q:VK):Prop:=fj (gx X.prog X.w) X.A.in1 (call (.builtin "list.sort") [.ref s.heap.objs.size]) (λ_ B=>EP X pi σ Q (.ref s.heap.objs.size) B) X.xe { s with heap:=s.heap.push (seqObj "list" (fs.map λx=>gg x.2).toArray 0) }
theorem mD{P:Heap->α->Addr->Prop}(O:oj lt)(G:α×Addr)(hk:∀(h B:Heap) k b,(∀c o xs n,h.get? c=aV o->o.data=.seq xs n->B.get? c=aV o)->P h k b->P B k b)(ht:∀h k b,P h k b->∃ob items n y t,h.get? b=aV ob/\ob.cls=.type "tuple"/\ob.data=.seq items n/\items[0]?=aV (Value.str y t))(UY:∀(A:Around) (E:Value->fu->Prop) (B:Heap) (C:Bool->fu->Prop) x y,x∈fs->y∈fs->A.units=X.A.units+1+1->P B x.1 x.2->P B y.1 y.2->C (lt x.1 y.1) { s with heap:=B }->fj (gx X.prog X.w) A (keyLt' (tuples' cf) (.ref x.2) (.ref y.2)) C E { s with heap:=B })(I:Inv X pi σ H s)(Du:∀x∈fs,P s.heap x.1 x.2)(cS:(fs.map (·.1)).Nodup)(d5:fs.length<64)(q:lQ lt fs H Q):zF X pi σ s fs Q:=by
 unfold zF;have hz:(fs.map λx=>V.ref x.2).length<=sizeLine:=by rw[a6,fS];lia
 have yh:(s.heap.push (seqObj "list" (fs.map λx=>gg x.2).toArray 0)).get? s.heap.objs.size=aV (seqObj "list" (fs.map λx=>gg x.2).toArray 0):=dm _ rfl
 by_cases IU:fs.length<2
 .refine kg slot_list_sort ⟨_,yh,rfl⟩ entry_list_sort (aO yh (by rw[a6];exact IU) ⟨_,rfl,?_⟩) (args_list_sort _)
  obtain⟨c,UT⟩:=sortedHeap_at (vs:=fs.map λx=>gg x.2) (out:=(pairsOf (fs.map λx=>gg x.2)).map (·.2)) yh;have AK:((pairsOf (fs.map λx=>gg x.2)).map (·.2))=(fs.map λx=>gg x.2).toArray:=by
   apply xp;rw[Array.toList_map,pairsOf_toList,List.map_snd_zip (a8 _)]
  refine⟨.ref s.heap.objs.size,_,I.laid (a:=s.heap.objs.size) (o:=.lst (fs.map λx=>V.ref x.2)) (t':=s.toks) (λb ob e=>?_) (a8 _) ⟨hz,fs.map λx=>gg x.2,c,YL fs,?_⟩,rfl,q _ fs (I.aS.fresh (a8 _)) (List.Perm.refl _) ?_⟩
  .have U:b<s.heap.objs.size:=bg e
   rw[sortedHeap_old (cc U) (by rw[kS];exact jn U)];exact cx _ e
  .rw[UT,AK]
  .match fs,IU with
   | [],_=>exact List.Pairwise.nil
   | [x],_=>exact List.pairwise_singleton _ _
   | _::_::_,h=>simp at h;lia
 .obtain⟨m,hm,_⟩:=I.loc
  have F0:=u4.Uj hm;have N0:=Lp (g:=vn s) (h:=s.heap) (L:=X.env.locals);have Td:=F0.push (seqObj "list" (fs.map λx=>gg x.2).toArray 0);have Tq:=News.push F0 N0 (seqObj "list" (fs.map λx=>gg x.2).toArray 0) rfl;have b8:∀b∈V0 (vn s) s.heap X.env.locals,b.1<s.heap.objs.size:=λb U=>bg (N0 b U).1
  generalize aac:s.heap.objs.size=D at *;generalize aad:s.heap.push (seqObj "list" (fs.map λx=>gg x.2).toArray 0)=hP at *;have hlen:(fs.map λx=>gg x.2).length=fs.length:=a6 _;refine PySem.W.kat_lsort (s:={ s with heap:=hP }) (vs:=fs.map λx=>gg x.2) Td Tq (.head λb U=>cc (b8 b U)) (by simp) (by lia) (by lia) λe1 B F1 N1=>?_
  have keep:=ZW (X:=X) (s:=s) N1;have nD:=(N1 (D,_) bw).2.1;have hD:s.heap.get? D=a0:=by
   cases e:s.heap.get? D with
   | none=>rfl
   | some ob=>exact absurd (b8 (D,ob) (aA nD (u4.Ey _ _) e)) (iA _)
  have hn:H D=a0:=by
   cases e:H D with
   | none=>rfl
   | some u=>
    obtain⟨Xv,au⟩:=(I.aS D u e).there;rw[hD]at au;cases au
  have Xs:∀c o xs n,s.heap.get? c=aV o->o.data=.seq xs n->c≠X.env.locals:=λc o xs n e d zz=>by
   obtain⟨ol,_,_,el,dl,_⟩:=hm;rw[zz,el]at e;cases e;rw[dl]at d;cases d
  have Dv:∀x∈fs,P B x.1 x.2:=λx hx=>hk _ _ _ _ (λc o xs n e d=>keep c o (Xs c o xs n e d) e) (Du x hx)
  have mT:∀l:List (α×Addr),(∀x∈l,P B x.1 x.2)->∃Y,PySem.W.KatTups B (l.map λx=>gg x.2) Y/\Y.length=l.length/\∀v∈Y,∃y t,v=Value.str y t:=by
   intro l
   induction l with
   | nil=>exact λ_=>⟨[],.nil,rfl,by simp⟩
   | cons x r ih=>
    intro hx;obtain⟨Y,g1,g2,g3⟩:=ih λy hy=>hx y (bx _ hy)
    obtain⟨ob,items,n,y,t,k7,d6,kb,hi⟩:=ht _ _ _ (hx x bw);refine⟨.str y t::Y,.cons k7 d6 kb hi g1,by simp[g2],λv Z=>?_⟩;rcases cq Z with rfl | Z
    .exact⟨_,_,rfl⟩
    .exact g3 v Z
  obtain⟨Y,t1,t2,t3⟩:=mT fs Dv;refine PySem.W.kat_kind (s:={ s with heap:=B }) (T:=.type "str") t1 (by lia) (λv Z=>?_) (by decide) ?_
  .obtain⟨x,t,rfl⟩:=t3 v Z
   exact .now
  .show PySem.W.KasT.kasWp _ _ _ _
   rw[hlen];obtain⟨p,Wf,qt,We⟩:=PySem.W.Ym (n:=fs.length) (f:=Cn lt G fs) (by lia) (L7 O cS);refine PySem.W.KasT.Kk (n:=fs.length) (vh:=Cn lt G fs) (λi j hi hj C hC=>?_) _ Wf ?_
   .have ei:(fs.map λx=>gg x.2).getD i ye=.ref (fs.getD i G).2:=by simp[js,hi]
    have ej:(fs.map λx=>gg x.2).getD j ye=.ref (fs.getD j G).2:=by simp[js,hj]
    have mi:fs.getD i G∈fs:=by simp[js,hi]
    have mj:fs.getD j G∈fs:=by simp[js,hj]
    unfold PySem.W.kas_ask;rw[ei,ej];exact UY _ _ B _ _ _ mi mj rfl (Dv _ mi) (Dv _ mj) hC
   .refine PySem.W.KasFin.intro (s:={ s with heap:=B }) F1 N1 (.head λb U=>cc (b8 b U)) λh2 c F2 N2=>?_
    have II:=QJ fs G qt;have e2:(p.toList.map λi=>(fs.map λx=>gg x.2).getD i ye)=(p.toList.map λj=>fs.getD j G).map λx=>gg x.2:=by
     rw[b6];refine qe λj hj=>?_
     have uc:=my.mp (qt.mem_iff.mp hj);simp[js,uc]
    rw[e2]at N2;refine⟨.ref D,_,I.Xn (t':=s.toks) (o:=.lst ((p.toList.map λj=>fs.getD j G).map λx=>V.ref x.2)) hm F2 N2 hD ⟨?_,_,c,YL _,(N2 (D,_) bw).1⟩,rfl,q D _ hn II ?_⟩
    .rw[a6,II.length_eq,fS];lia
    .rw[L5]
     exact We
theorem rW{G:Hp->List (α×Addr)->Prop}(Y:∀{pi:List (Addr×Obj)} {σ:St} {H:Hp} {s:fu} {fs:List (α×Addr)} {Q:VK},Inv X pi σ H s->fs.length<64->G H fs->lQ lt fs H Q->zF X pi σ s fs Q):
  gc X (.builtin "sorted") (λxs H Q=>∃a fs,xs=[.ref a]/\cg X.K H a (fs.map λx=>V.ref x.2)/\fs.length<64/\G H fs/\lQ lt fs H Q):=by
 intro pi s σ H xs us Q I r h;obtain⟨a,fs,rfl,U,d5,Z,q⟩:=h;obtain⟨u,rfl,O⟩:=vals1 r;cases O;obtain⟨its,C,pl,hz⟩:=I.list U;rw[TQ C]at pl;refine vo kind_sorted plain_sorted entry_sorted (args_sorted1 _) ?_;unfold Builtin.«sorted»;refine ab (m:=checkCount "sorted" 1 1 _) (ag ?_);refine ab (collect_list pl.isList ?_ (by rw[a6,fS];lia));refine ab (t5 ?_ (by rw[a6,fS];lia));have kp:∀b o,s.heap.get? b=aV o->((s.heap.push (seqObj "list" #[] 0)).update s.heap.objs.size (sX (·++(fs.map λx=>gg x.2).toArray))).get? b=aV o:=λb o e=>(tJ _ _ _).extBut b o (cc (bg e)) (cx _ e)
 generalize (s.heap.push (seqObj "list" #[] 0)).update s.heap.objs.size (sX (·++(fs.map λx=>gg x.2).toArray))=B at kp ⊢;have I1:Inv X pi σ H { s with heap:=B }:=I.kept (t':=s.toks) kp;refine ab (fg (e9 (Y (s:={ s with heap:=B }) I1 d5 Z q) (λ_ s' x=>?_) λ_ _ e=>e));exact ag ⟨_,rfl,x⟩
end
section
variable{Q:VK}
def tK(h:Heap)(p:Str×Int)(b:Addr):Prop:=∃C B,IsTup h b #[.str p.1 C,.int p.2 B]
theorem bM{fs:List ((Str×Int)×Addr)}(I:Inv X pi σ H s)(d5:fs.length<64)(Y:(fs.map (·.1)).Nodup/\∀x∈fs,tK s.heap x.1 x.2)(q:lQ WM fs H Q):zF X pi σ s fs Q:=
 mD (P:=tK) Kh ((⟨#[]⟩,0),0) (λh h1 k b e ⟨U,O,o,B,G,n,hd⟩=>⟨U,O,o,e _ _ _ _ B hd,G,n,hd⟩) (λh k b ⟨U,O,o,B,G,n,hd⟩=>⟨o,_,n,_,_,B,G,hd,rfl⟩)
  (λA E h1 C x y _ _ _ ⟨_,_,hx⟩ ⟨_,_,Z⟩ hC=>Ny hx Z hC) I Y.2 Y.1 d5 q
theorem lD:gc X (.builtin "sorted") (λxs H Q=>∃a fs,xs=[.ref a]/\cg X.K H a (fs.map λx=>V.ref x.2)/\fs.length<64/\((fs.map (·.1)).Nodup/\∀x∈fs,eP X.K H x.2 [.str x.1.1,.int x.1.2])/\lQ WM fs H Q):=
 rW (G:=λH fs=>(fs.map (·.1)).Nodup/\∀x∈fs,eP X.K H x.2 [.str x.1.1,.int x.1.2]) λI d5 B q=>bM I d5 ⟨B.1,λx Y=>by
  obtain⟨its,U,Z,_⟩:=I.tuple (B.2 x Y);obtain⟨u1,u2,rfl,⟨O,rfl⟩,⟨C,rfl⟩⟩:=U.two;exact⟨O,C,Z⟩⟩ q
theorem gH{B:Heap}{k:FK}{b:Addr}(hk:∀c o xs n,h.get? c=aV o->o.data=.seq xs n->B.get? c=aV o)(x:g7 P w h k b):g7 P w B k b:=by
 obtain⟨o,items,n,t,c,Y,Z,hd,hi,bt,Jm,cn,U,G,C,O⟩:=x;exact⟨o,items,n,t,c,hk _ _ _ _ Y hd,Z,hd,hi,bt,Jm,cn,hk _ _ _ _ U C,G,C,O⟩
theorem bN(I:Inv X pi σ H s)(hu:X.A.units+20<cLine){fs:List (FK×Addr)}(Du:∀x∈fs,g7 X.prog X.w s.heap x.1 x.2)(cS:(fs.map (·.1)).Nodup)(d5:fs.length<64)(B:∀x∈fs,∀y∈fs,ZK x.1.2.2 y.1.2.2=cf\/x.1.2.1≠y.1.2.1)(q:lQ YS fs H Q):zF X pi σ s fs Q:=
 mD (P:=g7 X.prog X.w) rV ((⟨#[]⟩,⟨#[]⟩,.inl 0),0) (λh h1 k b=>gH) (λh k b ⟨o,items,n,t,c,Y,Z,hd,hi,_⟩=>⟨o,items,n,k.1,t,Y,Z,hd,by rw[<-gz,hi];rfl⟩)
  (λA E h1 C x y mx G hA U O hC=>Oj (by rw[hA];lia) (B _ mx _ G) U O hC) I Du cS d5 q
theorem lE(hc:X.calm=cf)(hu:X.A.units+20<cLine):gc X (.builtin "sorted") (λxs H Q=>∃a fs,xs=[.ref a]/\H a=aV (.dF fs)/\(∀x∈fs,Q0 X.K H x.1 x.2)/\fs.length<64/\(∀x∈fs,∀y∈fs,ZK x.1.2.2 y.1.2.2=cf\/x.1.2.1≠y.1.2.1)/\
  ∀(p:Addr) (ys:List (FK×Addr)),H p=a0->ys.Perm fs->ys.Pairwise (λx y=>YS x.1 y.1=cf)->Q (.ref p) (upd H p (.lst (ys.map λx=>V.ref x.2)))):=by
 intro pi s σ H xs us Q I r h;obtain⟨a,fs,rfl,ha,jr,d5,nT,q⟩:=h;obtain⟨u,rfl,ru⟩:=vals1 r;cases ru;obtain⟨z,lo,o,es,ep,ho,hex,hd,O,cS⟩:=(show dS X.prog X.w H s.heap a (.dF fs) from I.aS a _ ha)
 have Wd:lq s.heap a es ep:=⟨o,ho,hex,hd⟩
 have B:es.size=fs.length:=by rw[<-di,O,a6]
 have Wu:∀vs:List Value,vs.length=es.size->(∀(j:Nat) (v:Value),vs[j]?=aV v->∃e,es[j]?=aV e/\v=e.key)->vs=fs.map λx=>gg x.2:=λvs hl hv=>by
  apply yv;intro j
  by_cases U:j<fs.length
  .have e1:vs[j]?=aV (vs[j]'(by lia)):=eg _
   obtain⟨e,C,e3⟩:=hv j _ e1;rw[<-gz,O,fc,eg U]at C;have C:=b5 C;rw[e1,fc,eg U,e3,<-C];rfl
  .rw[kv (by lia),kv (by simp;lia)]
 refine vo kind_sorted plain_sorted entry_sorted (args_sorted1 _) ?_;unfold Builtin.«sorted»;refine ab (m:=checkCount "sorted" 1 1 _) (ag ?_);refine ab (PySem.W.kdu_collect (A:=X.A.in1) (PySem.W.WI (es:=es) (ep:=ep) lo) (I.ok.hd hc) Wd (by rw[B];exact z) λY G acc i3 Z=>?_);have hl:acc.toList.length=es.size:=by rw[di];exact Z.1
 have AA:=Wu acc.toList hl λj v e=>Z.2 j v (by rw[<-gz];exact e)
 refine ab (t5 ?_ (by rw[hl,B];exact z));rw[AA];have I1:Inv X pi σ H { s with heap:=Y,toks:=G }:=I.kept i3;refine ab (fg (e9 (bN (s:={ s with heap:=Y,toks:=G }) (fs:=fs) (Q:=Q) I1 hu (λx hx=>PJ I1 (jr x hx)) cS d5 nT q) (λ_ s' x=>?_) λ_ _ e=>e));exact ag ⟨_,rfl,x⟩
end
end L2
namespace PySem
end PySem
namespace WL
open PySem PySem.Spec PyProof.Rows L2
theorem V3{t sl:Addr}{G C:Value}{lo hi:Option Int}(B:IsTup s.heap t items)(hs:s.heap.IsSliceOf sl G C .none)(pl:IsPart G lo)(Y:IsPart C hi)(O:HT.bq items.size 0 lo=0/\HT.bq items.size items.size hi=items.size)(h:Q (.ref t) s)(hsz:items.size<=sizeLine):fj (gx prog w) A (getItem (.ref t) (.ref sl)) Q E s:=by
 obtain⟨os,U,Z,sj⟩:=id hs;have Di:s.TypeIs (.ref sl) "slice":=⟨os,U,Z⟩
 unfold getItem
 try with_reducible refine fg ?_
 first | refine ab (ag ?_) | skip
 refine ab (wpAny_sequenceKey B.typeIs (by decide) ?_);refine ab (zm (name:=fi "__getitem__") B.typeIs uf
  (kg uf B.typeIs entry_tuple_getitem ?_ (args_tuple_getitem _ _)))
 show fj _ _ (Builtin.Tuple.tupleItemsOf (.ref t) >>= _) _ _ s;refine ab (tupleItemsOf_ B ?_);refine ab (vz Di ?_);rw[ah (by decide)];refine ab (HT.Km hs pl Y ?_);have Wx:((((HT.bq items.size 0 lo:Nat):Int)==0&&(1:Int)==1&&(HT.bq items.size items.size hi-HT.bq items.size 0 lo)==items.size)=cf):=by
  rw[O.1,O.2];simp
 show fj _ _ (if (((HT.bq items.size 0 lo:Nat):Int)==0&&(1:Int)==1&&(HT.bq items.size items.size hi-HT.bq items.size 0 lo)==items.size)=cf then _ else _) _ _ s;rw[ah Wx];refine ab (m:=Builtin.Tuple.tupleIsExact (.ref t)) ?_;unfold Builtin.Tuple.tupleIsExact;refine ab (vz B.typeIs (ag ?_));rw[ah (by decide)]
 first
  | exact ab (mE (ag ⟨_,rfl,ag h⟩))
  | exact mE (ag ⟨_,rfl,ag h⟩)
  | exact ab (ag (ag ⟨_,rfl,ag h⟩))
  | exact ag ⟨_,rfl,ag h⟩
section
variable{a:Expr}{lo hi:Option Expr}{ol oh:Oe}
theorem Yl:pV X (Cj X.K):=by
 intro pi s σ H x v vl vu lo hi sl Q I U hs pl O h;obtain⟨a,xs,rfl,Y,Z,hn⟩:=h;cases U;obtain⟨its,r,G,C⟩:=I.tuple Y.sq;have B:its.toArray.size=xs.length:=by rw[dw];exact r.length.symm
 refine⟨"tuple",_,uf.lookup,G.typeIs,?_⟩
 by_cases c:HT.bq xs.length 0 lo=0/\HT.bq xs.length xs.length hi=xs.length
 .exact V3 G hs pl O (by rw[B];exact c) ⟨.ref a,H,I,rfl,Z c⟩ (by rw[B];exact C)
 .refine HT.Ut G hs pl O (by rw[B];exact c) ?_ (by rw[B];exact C)
  rw[B];refine⟨.ref s.heap.objs.size,_,I.laid (t':=s.toks) (o:=.bp { cls:=.type "tuple",data:=.seq ((its.toArray.toList.drop (HT.bq xs.length 0 lo)).take (HT.bq xs.length xs.length hi-HT.bq xs.length 0 lo)).toArray } (.tup (oV xs lo hi))) (λb ob q=>cx _ q) (a8 _) ?_,rfl,hn c _ _ (I.aS.fresh (a8 _)) rfl rfl⟩;exact⟨dm _ rfl,fN (aC xs lo hi) C,_,(r.drop (HT.bq xs.length 0 lo)).take (HT.bq xs.length xs.length hi-HT.bq xs.length 0 lo),IsTup.new _ _⟩
theorem SS:pV X (λx lo hi H Q=>Cj X.K x lo hi H Q\/Ci X.K x lo hi H Q\/Cg x lo hi H Q):=Yl.or (Yk.or Pp)
theorem a7.cut{vs:List V}(h:a7 K ρ H ds vs)(lo hi:Option Int):a7 K ρ H (cutD ds lo hi) (oV vs lo hi):=by
 unfold cutD oV;rw[h.len];exact(h.drop _).take _
theorem u6:PO X a0 (Bo C X.K .no):=(Ni (X:=X)).imp λ σ H Q B=>by
 obtain⟨G,m,ρ,c,O,S,M,e,q⟩:=B;cases e;exact q H ρ (.refl _ _) M
theorem fM(B:PE X a (tD C X.K pa)):PO X (aV a) (Bo C X.K (.pt pa)):=(Nh B).imp λ σ H Q Z=>by
 obtain⟨Y,m,ρ,c,af,S,M,e,q⟩:=Z;obtain⟨⟨x,m1⟩,O,e⟩:=az e;cases x with
 | int i=>
  cases e;refine⟨Y,m,ρ,_,_,S,M,O,λv H1 U G M1 A1=>?_⟩;cases A1;exact⟨i,rfl,q H1 U G M1⟩
 | _=>cases e
theorem Rx{d':D}{x:V}{l h:Option Int}{Q:VK}(M:bo X.K ρ m H)(A:At X.K ρ H d x)(e:sP d l h=aV d')(q:eA X.K ρ H d' m Q):Cj X.K x l h H (Fz Q)\/Ci X.K x l h H (Fz Q)\/Cg x l h H (Fz Q):=by
 cases d with
 | tup xs=>
  cases e;obtain⟨p,vs,rfl,B,as⟩:=A;refine .inl ⟨p,vs,rfl,B,λc=>.of ?_,λc C o hp G hd=>.of (q.tup M (as.cut l h) hp G hd)⟩;have O:cutD xs l h=xs:=by
   unfold cutD;rw[as.len]at c;rw[c.1,c.2];simp
  rw[O]at q;exact q.here M ⟨p,vs,rfl,B,as⟩
 | lst xs=>
  cases e;obtain⟨p,vs,rfl,hs,as⟩:=IV M A (show G4 (.lst xs) m=aV xs from rfl);exact .inr (.inl ⟨p,vs,rfl,hs,λC hp=>eA.lst (mu:=en) q M (as.cut l h) hp⟩)
 | b9 ns=>
  cases e;obtain⟨p,vs,rfl,hs,as⟩:=IV M A (show G4 (.b9 ns) m=aV (ns.map .int) from rfl);exact .inr (.inl ⟨p,vs,rfl,hs,λC hp=>eA.lst (mu:=en) q M (as.cut l h) hp⟩)
 | str z=>
  cases A;have e:(if z.length<=1000 then aV (D.str (StrLaws.sliceText z l h)) else a0)=aV d':=e;split at e
  .rename_i hl
   cases e;exact .inr (.inr ⟨z,rfl,J3 (by lia),.of (q.here M rfl)⟩)
  .cases e
 | _=>cases e
theorem mW(ha:PE X a (tD C X.K pa))(hl:PO X lo (Bo C X.K ol))(hh:PO X hi (Bo C X.K oh)):PE X (.Subscript a (.Slice lo hi a0 p2) pos) (tD C X.K (.sl pa ol oh)):=(Lh SS ha hl hh).sA λ σ H Q ai=>by
 obtain⟨O,m,ρ,d,af,S,M,e,q⟩:=ai;obtain⟨⟨x,Y⟩,e1,e⟩:=az e;obtain⟨⟨l,U⟩,e2,e⟩:=az e;obtain⟨⟨h,m3⟩,e3,e⟩:=az e;obtain⟨d',e4,e⟩:=bX e;cases e;exact⟨O,m,ρ,x,Y,S,M,e1,λv H1 aq G M1 A1=>⟨O,Y,aq,l,U,S.mono M G,M1,e2,λH2 cp B M2=>⟨O,U,cp,h,_,(S.mono M G).mono M1 B,M2,e3,λH3 gk Z M3=>Rx M3 ((A1.mono M1 B).mono M2 Z) e4 (q.go (G.trans (B.trans Z)))⟩⟩⟩
theorem KP(a b:Str):G6 a b=!ltCps b.cps.toList a.cps.toList:=by unfold G6;rw[ltCps_eq]
theorem Mk{a b:Str}(h:a.cps.toList=b.cps.toList):a=b:=by
 obtain⟨x⟩:=a;obtain⟨y⟩:=b;have:x=y:=by simpa using congrArg List.toArray h
 rw[this]
theorem zf{a b:Str}(C:G6 a b=cf)(B:G6 b a=cf):a=b:=by
 unfold G6 at C B;simp only[Bool.not_eq_true',decide_eq_false_iff_not]at C B;exact Mk (List.le_antisymm C B)
theorem RX{a b c:Str}(C:G6 a b=cf)(B:G6 b c=cf):G6 a c=cf:=by
 unfold G6 at *;simp only[Bool.not_eq_true',decide_eq_false_iff_not]at *;exact List.le_trans C B
theorem ZD(a b:Str):(G6 a b||G6 b a)=cf:=by
 unfold G6;rcases List.le_total a.cps.toList b.cps.toList with h | h
 .rw[df (show ¬b.cps.toList<a.cps.toList from h)];rfl
 .rw[df (show ¬a.cps.toList<b.cps.toList from h),Bool.or_comm];rfl
theorem qI:∀{l:List Str},sortedS l=cf->l.Pairwise λa b=>G6 a b=cf
 | [],_=>.nil
 | x::r,h=>by
  have go:∀(r:List Str) (p:Str),risingS p r=cf->(p::r).Pairwise λa b=>G6 a b=cf:=by
   intro r
   induction r with
   | nil=>intro p _;exact List.pairwise_singleton _ _
   | cons y r C=>
    intro p h;have h':(!ltCps y.cps.toList p.cps.toList)=cf/\risingS y r=cf:=Bool.and_eq_true_iff.mp h;have i:=C y h'.2;have hp:G6 p y=cf:=by rw[KP];exact h'.1
    refine List.pairwise_cons.mpr ⟨λz B=>?_,i⟩;rcases cq B with rfl | B
    .exact hp
    .exact RX hp (List.rel_of_pairwise_cons i B)
  exact go r x h
theorem u5{C:List Str}(hp:C.Perm ss)(hs:sortedS C=cf):C=CQ ss:=by
 have B:(CQ ss).Pairwise λa b=>G6 a b=cf:=List.pairwise_mergeSort (le:=G6) (λa b c B G=>RX B G) ZD ss
 exact yz (λx y _ _ B G=>zf B G) (qI hs) B (hp.trans (jb ss G6).symm)
theorem gB:∀{ss:List Str},strsOf (ks.map cw.kD)=aV ss->ks=ss.map kf:=by
 induction ks with
 | nil=>intro ss e;cases e;rfl
 | cons k r B=>
  intro ss e;cases k with
  | inl i=>cases e
  | inr x=>
   obtain⟨G,C,rfl⟩:=bX (show (strsOf (r.map cw.kD)).map (x::·)=aV ss from e);rw[B C];rfl
theorem bQ(ha:PE X a (tD C X.K pa))(mu:Bool:=en)(hc:X.calm=cf:=by kernel_rfl)(Y:Gl X "sorted":=by kernel_rfl)(U:X.mg "sorted" = a0:=by assumption)(Z:gm [a] X.env=[(en,eval a X.env)]:=by kernel_rfl):PE X (.Call (.Name "sorted" p1) [a] [] q1) (tD C X.K (.b1 (.Bd mu) pa)):=
 fQ (lF hc) (by
  intro ρ m af H dx d x Q M ax e q;obtain⟨⟨ks,vs⟩,e1,e⟩:=az (show ((HF dx m).bind λz=>if z.1.length<64 then (strsOf (z.1.map cw.kD)).map λss=>bj mu ((CQ ss).map .str) m else a0)=aV (d,af) from e);split at e
  case isFalse=>cases e
  rename_i d5
  obtain⟨ss,e2,e⟩:=bX e;obtain⟨p,kvs,rfl,O,B⟩:=QB M ax e1;have hk:=gB e2;refine⟨p,kvs,ss,rfl,O,by rw[B.1];exact hk,by rw[<-Z6 B];exact d5,λl h9 hl hp hs=>?_⟩;rw[u5 hp hs];have c9:eA X.K ρ H (bj mu ((CQ ss).map D.str) m).1 (bj mu ((CQ ss).map D.str) m).2 Q:=by rw[e];exact q
  refine c9.lst M ?_ hl;have:∀l:List Str,a7 X.K ρ H (l.map D.str) (l.map V.str):=λl=>by
   induction l with
   | nil=>rfl
   | cons y r G=>exact⟨_,_,rfl,rfl,G⟩
  exact this _) PyProof.Rows.boot_sorted Y U ha (by decide) (by decide) Z
theorem YM{K:p5}{ρ:List Addr}{H:Hp}:∀{ds:List D} {vs:List V} {ps:List (Str×Int)},JH ds=aV ps->a7 K ρ H ds vs->∃fs:List ((Str×Int)×Addr),vs=fs.map (λx=>V.ref x.2)/\ps=fs.map (·.1)/\∀x∈fs,eP K H x.2 [.str x.1.1,.int x.1.2]/\At K ρ H (J1 x.1) (.ref x.2)
 | [],_,_,e,a=>by
  cases e;cases (show _=[] from a);exact⟨[],rfl,rfl,λ_ h=>nomatch h⟩
 | d::r,_,ps,e,Z=>by
  obtain⟨v,vr,ev,C,as⟩:=Z;subst ev;unfold JH at e;split at e
  .rename_i hd;cases hd
  .rename_i a b de hd
   cases hd;obtain⟨qV,Y,rfl⟩:=bX e;obtain⟨fs,rfl,rfl,U⟩:=YM Y as;obtain⟨p,ws,rfl,G,aw⟩:=id C;obtain⟨x,xr,rfl,ax,y,yr,rfl,ay,O⟩:=aw;cases (show _=[] from O);cases ax;cases ay;refine⟨((a,b),p)::fs,rfl,rfl,λz B=>?_⟩;rcases cq B with rfl | B
   .exact⟨G.sq,C⟩
   .exact U z B
  .cases e
theorem fL{ps L:List (Str×Int)}(Z:(ps.map (·.1)).Nodup)(hp:L.Perm ps)(hs:L.Pairwise λp q=>G6 p.1 q.1=cf):L=G9 ps:=by
 have B:(G9 ps).Pairwise λp q=>G6 p.1 q.1=cf:=List.pairwise_mergeSort (le:=λp q:Str×Int=>G6 p.1 q.1) (λa b c B C=>RX B C) (λa b=>ZD _ _) ps
 refine yz (λx y Y U B C=>?_) hs B (hp.trans (jb ps _).symm);have O:=hp.mem_iff.mp Y;have D8:y∈ps:=(jb ps _).mem_iff.mp U;have hk:=zf B C;obtain⟨i,hi,ei⟩:=kR O;obtain⟨j,hj,G⟩:=kR D8;have:i=j:=(List.getElem_inj Z (h₀:=by simpa using hi) (h₁:=by simpa using hj)).mp (by simp[ei,G,hk]);subst this;rw[<-ei,<-G]
theorem Ff{p q:Str×Int}(h:WM p q=cf):G6 p.1 q.1=cf:=by
 unfold WM at h;unfold G6;split at h
 .rename_i e
  rw[e,df (List.lt_irrefl _)];rfl
 .rw[df (λh'=>List.lt_irrefl _ (List.lt_trans (eW h) h'))];rfl
theorem fK{fs ys:List ((Str×Int)×Addr)}(B:((fs.map (·.1)).map (·.1)).Nodup)(hp:ys.Perm fs)(hs:ys.Pairwise λx y=>WM x.1 y.1=cf):ys.map (·.1)=G9 (fs.map (·.1)):=
 fL B (hp.map _) (L5.mpr (hs.imp Ff))
theorem UW{α:Type}{K:p5}{ρ:List Addr}{H:Hp}{f:α->D}{g:α->V}:∀{l:List α},(∀x∈l,At K ρ H (f x) (g x))->a7 K ρ H (l.map f) (l.map g)
 | [],_=>rfl
 | x::r,h=>⟨_,_,rfl,h x bw,UW λy B=>h y (bx _ B)⟩
theorem xH(ha:PE X a (tD C X.K pa))(mu:Bool:=en)(Z:Gl X "sorted":=by kernel_rfl)(Y:X.mg "sorted" = a0:=by assumption)(he:gm [a] X.env=[(en,eval a X.env)]:=by kernel_rfl):PE X (.Call (.Name "sorted" p1) [a] [] q1) (tD C X.K (.b1 (.sorted mu) pa)):=
 fQ lD (by
  intro ρ m af H dx d x Q M ax e q;obtain⟨xs,e1,e⟩:=az (show ((G4 dx m).bind λxs=>(JH xs).bind λps=>if xs.length<=4/\(ps.map (·.1)).Nodup then aV (bj mu ((G9 ps).map J1) m) else a0)=aV (d,af) from e);obtain⟨ps,e2,e⟩:=az e;split at e
  case isFalse=>cases e
  rename_i B
  have au:=b5 e;obtain⟨p,vs,rfl,U,as⟩:=IV M ax e1;have hl:=as.len;obtain⟨fs,rfl,rfl,g⟩:=YM e2 as;rw[a6]at hl;refine⟨p,fs,rfl,U,by lia,⟨L2.Eu B.2,λx O=>(g x O).1⟩,λl ys hl hp hs=>?_⟩;have c9:eA X.K ρ H (bj mu ((G9 (fs.map (·.1))).map J1) m).1 (bj mu ((G9 (fs.map (·.1))).map J1) m).2 Q:=by rw[au];exact q
  refine c9.lst M ?_ hl;rw[<-fK B.2 hp hs,b6];exact UW λz G=>(g z (hp.mem_iff.mp G)).2) PyProof.Rows.boot_sorted Z Y ha (by decide) (by decide) he
theorem Ry{v:V}(G:Gl X x)(B:X.mg x=aV u)(r:RelV v u)(O:∀ρ H,At X.K ρ H d v)(hd:(x==("__debug__" : Str))=en:=by decide):PE X (.Name x pos) (tD C X.K (.con d)):=YJ (Nq G B r hd) O
end
end WL
namespace WL
open PySem PySem.Spec PyProof.Rows L2
def vd(K:p5)(mg:Str->Option Value)(x:String)(d:D):Prop:=∃v u,mg (fi x)=aV u/\L2.RelV v u/\∀ρ H,At K ρ H d v
theorem PD{x:String}(h:vd X.K X.mg x d:=by assumption)(G:Gl X (fi x):=by kernel_rfl)(hd:(fi x==("__debug__" : Str))=en:=by decide):PE X (.Name (fi x) pos) (tD C X.K (.con d)):=by
 obtain⟨v,u,B,r,O⟩:=h;exact Ry G B r O hd
section
variable(P:Program)(w:wy)(K:p5)(mg:Str->Option Value)(base:Heap)
def Cu(name:String)(st:Stmt)(ps:List Str)(B:Addr)(fd:FuncData):Prop:=tw K (fi name) (fi name) st B fd/\Binds K fd ps []/\mg (fi name)=aV (.ref B)
def Def(n:Nat)(C:String->List D->Mem->Option (D×Mem))(g:String):Prop:=∃(B:Addr) (fd:FuncData) (ps:List Str),ji P w K mg base kM n B fd ps (ux K (C g))/\mg (fi g)=aV (.ref B)/\PySem.W.keepIn K (.ref B)=cf/\Binds K fd ps []
end
theorem Def.TC{g:String}(h:Def X.prog X.w X.K X.mg X.base n C g)(B:hE n X.A):GV X C g:=by
 obtain⟨U,fd,ps,F,G,hk,O⟩:=h;exact⟨n,U,fd,ps,F,B,G,hk,O⟩
theorem Oh{name:String}:ji P w K mg base kM 0 f fd ps (ux K (BZ W ae 0 name)):=by
 have no:∀vs H Q E,¬ux K (BZ W ae 0 name) vs H Q E:=λvs H Q E h=>by
  obtain⟨ds,m,ρ,d,B,_,_,e,_⟩:=h;cases e
 exact⟨λvs H Q E h=>absurd h (no vs H Q E),λA outer s H args us vs Q E _ _ _ _ h=>absurd h (no vs H Q E)⟩
theorem Cu.zero{name:String}{B:Addr}(t:Cu K mg name st ps B fd):Def P w K mg base 0 (BZ W ae 0) name:=⟨B,fd,ps,Oh,t.2.2,t.1.kp,t.2.1⟩
end WL
namespace WL
open PySem PySem.Spec PyProof.Rows L2
def u0(K:p5):Sp:=λvs H Q _=>∃(a:Addr) (ns:List Int),vs=[.ref a]/\rj K H a (ns.map V.int)/\ns.length<=63/\∀aa,Q (.bl cf) aa
theorem NV{k:Nat}{call:List D->Mem->Option (D×Mem)}(F:ji P w K mg base kM k f fd ps (ux K call))(h:∀ns:List Int,ns.length<=63->call [.b9 ns] []=aV (.bl cf,[])):
  ji P w K mg base kM k f fd ps (u0 K):=F.imp λvs H Q E B=>by
 obtain⟨a,ns,e,hs,hl,q⟩:=B;subst e;refine⟨[.b9 ns],[],[],.bl cf,[],⟨_,_,rfl,⟨a,rfl,hs⟩,rfl⟩,⟨rfl,lu,λj a o e=>by simp at e⟩,h ns hl,λv aa _ _ A=>?_⟩;cases A;exact q aa
theorem PM{vs:List V}(o:Ag H)(h:cg K H a vs):rj K H a vs:=by
 rcases h with (h | ⟨ob,h⟩) | h
 .rcases o a with z | ⟨ob,xs,z⟩
  .rw[h]at z;cases z
  .rw[h]at z;cases z
 .exact .inl ⟨ob,h⟩
 .exact .inr h
theorem walk_law{l:PySem.W.OpenLaw}{q:Program}{d:DefRec}{K:Params->p5}(O:l.most=aV 63)(C:d.params.defaults=[])(U:∀(w:wy) (h:Heap),YP w h->(K w.params).In h)(F:∀(w:wy) (mg:Str->Option Value) (B:Addr) (h:Heap),(K w.params).In h->h.Ns ly mg->mg d.name=aV (.ref B)->
   ∃fd:FuncData,(∀(s:fu) (u:Value),BindsTo s fd ⟨[u],[]⟩ [("_law_script",u)])/\∀base:Heap,(K w.params).In base->base.Ns ly mg->ji l.prog w (K w.params) mg base kM 60 B fd ["_law_script"] (u0 (K w.params))) :
  PySem.W.WalkO q loose XP YP l.row.toRowW d [] (λf vs=>PySem.call f vs):=
 L2.YA (n:=63) (k:=60) (x:="_law_script") (CX:=λ_=>kM) (sp:=λw=>u0 (K w.params)) O (by decide) C ⟨rfl,by decide,by decide⟩ U F (λ_ _ a ns hl G Y=>⟨a,ns,rfl,PM G Y,hl,λ_=>rfl⟩) λ_ _ _ _ _ z=>z
end WL
namespace WL
open PySem PySem.Spec PyProof.Rows L2
noncomputable def Kw:D->Option String
 | .aE=>aV "NoneType"
 | .bl _=>aV "bool"
 | .int _=>aV "int"
 | .str _=>aV "str"
 | .tup _=>aV "tuple"
 | .lst _=>aV "list"
 | .b9 _=>aV "list"
 | _=>a0
section
variable{a:Expr}
def SV(K:p5)(T:String):List V->Hp->VK->Prop:=λxs H Q=>∃ρ d x t b,xs=[x,.ty T]/\At K ρ H d x/\Kw d=aV t/\PySem.W.kitOne K (.type t) (.type T)=aV b/\Q (.bl b) H
theorem LW:gc X (.builtin "isinstance") (SV X.K T):=by
 intro pi s σ H xs us Q I r h;obtain⟨ρ,d,x,t,b,rfl,A,e,k,q⟩:=h;obtain⟨u,c,rfl,C,rc⟩:=vals2 r;cases rc;have B:∀Y,EP X pi σ Q (.bool b) { s with toks:=Y }:=λY=>⟨.bl b,H,I.tok Y,rfl,q⟩
 cases d with
 | aE=>cases e;cases A;cases C;exact PySem.W.kia_one PySem.W.kitx_none I.k9 True.intro k (λz=>nomatch z) B
 | bl y=>cases e;cases A;cases C;exact PySem.W.kia_one PySem.W.kitx_bool I.k9 True.intro k (λz=>nomatch z) B
 | int i=>cases e;cases A;obtain⟨t,rfl⟩:=C;exact PySem.W.kia_one PySem.W.kitx_int I.k9 True.intro k (λz=>nomatch z) B
 | str i=>cases e;cases A;obtain⟨t,rfl⟩:=C;exact PySem.W.kia_one PySem.W.kitx_str I.k9 True.intro k (λz=>nomatch z) B
 | tup ys=>
  cases e;obtain⟨a,vs,rfl,G,_⟩:=A;cases C;obtain⟨_,_,⟨o,U,O,_⟩,_⟩:=I.tuple G.sq;exact PySem.W.kia_one PySem.W.kitx_tuple I.k9 ⟨o,U,O⟩ k (λz=>nomatch z) B
 | lst ys=>
  cases e;obtain⟨a,o,vs,rfl,G,_⟩:=A;cases C;obtain⟨_,_,⟨o,_,U,O,_⟩,_⟩:=I.list (X:=X) (.inl (.inr ⟨o,G⟩));exact PySem.W.kia_one PySem.W.kitx_list I.k9 ⟨o,U,O⟩ k (λz=>nomatch z) B
 | b9 ns=>
  cases e;obtain⟨a,rfl,G⟩:=A;cases C;obtain⟨_,_,⟨o,_,U,O,_⟩,_⟩:=I.list G.sq;exact PySem.W.kia_one PySem.W.kitx_list I.k9 ⟨o,U,O⟩ k (λz=>nomatch z) B
 | _=>cases e
theorem Pz{k:B1}(Y:bootBuiltins x=aV (.type T))(hk:∀(K:p5) (d dd:D) (m B:Mem),cw k d m=aV (dd,B)->B=m/\∃t b,Kw d=aV t/\PySem.W.kitOne K (.type t) (.type T)=aV b/\dd=.bl b)(hg:Gl X "isinstance")(hm:X.mg "isinstance" = a0)(f6:Gl X x)(fI:X.mg x=a0)(ha:PE X a (tD C X.K pa))(hn:x≠"__name__":=by decide)(hd:(x==("__debug__" : Str))=en:=by decide)(hs:gm [a,.Name x p2] X.env=[(en,eval a X.env),(en,eval (.Name x p2) X.env)]:=by rfl)(G:gm [Expr.Name x p2] X.env=[(en,eval (.Name x p2) X.env)]:=by rfl) :
  PE X (.Call (.Name "isinstance" p) [a,.Name x p2] [] pos) (tD C X.K (.b1 k pa)):=
 (cB LW hg hm PyProof.Rows.boot_isinstance (GK ha (GK (Nw f6 fI Y (v:=.ty T) rfl hn hd) JC G) (by rw[hs,G])) (by decide) (by decide) (by rw[hs,G]) (by rw[G];rfl)).imp λ σ H Q ai=>by
 obtain⟨aj,m,ρ,d,B,S,M,e,q⟩:=ai;obtain⟨⟨y,U⟩,e1,e⟩:=az e;obtain⟨rfl,t,b,Z,hb,rfl⟩:=hk X.K y d U B e;exact⟨aj,m,ρ,y,B,S,M,e1,λv H1 O g1 M1 A1=>⟨O,y,v,t,b,rfl,A1,Z,hb,q _ H1 O g1 M1 rfl⟩⟩
theorem VD(O:PE X a (tD C X.K pa))(G:Gl X "isinstance":=by kernel_rfl)(B:X.mg "isinstance" = a0:=by assumption)(Y:Gl X "tuple":=by kernel_rfl)(U:X.mg "tuple" = a0:=by assumption)(hs:gm [a,.Name "tuple" p2] X.env=[(en,eval a X.env),(en,eval (.Name "tuple" p2) X.env)]:=by kernel_rfl):
  PE X (.Call (.Name "isinstance" p) [a,.Name "tuple" p2] [] pos) (tD C X.K (.b1 .yw pa)):=Pz PyProof.Rows.boot_tuple (by
  intro K d dd m Z e;cases d<;>cases e<;>exact⟨rfl,_,_,rfl,rfl,rfl⟩) G B Y U O (by decide) (by decide) hs
theorem QI{neg:Bool}{q:Ex}(hq:∀σ m,ev C q σ m=(ev C pa σ m).bind λz=>(ev C pb σ z.2).bind λy=>(HF y.1 y.2).bind λw=>(N5 z.1).map λk=>(.bl (if neg then !(G5 w.1 w.2 k).isSome else (G5 w.1 w.2 k).isSome),y.2)){σ:L2.St}{Q:VK}(h:tD C X.K q σ H Q):
  tD C X.K pa σ H λy H1=>tD C X.K pb σ H1 λx B=>∃a o,x=.ref a/\kN B a y o/\Q (.bl (if neg then !o.isSome else o.isSome)) B:=by
 obtain⟨Z,m,ρ,d,af,S,M,e,q⟩:=h;rw[hq]at e;obtain⟨⟨x,G⟩,e1,e⟩:=az e;obtain⟨⟨y,m2⟩,e2,e⟩:=az e;obtain⟨⟨ks,ds⟩,e3,e⟩:=az e;obtain⟨k,e4,e⟩:=bX e;cases e;refine⟨Z,m,ρ,x,G,S,M,e1,λv H1 aq Y M1 A1=>⟨Z,G,aq,y,m2,S.mono M Y,M1,e2,λu B cp U M2 A2=>?_⟩⟩;obtain⟨p,kvs,rfl,hr,O⟩:=QB M2 A2 e3;have hk:=Z7 (A1.mono M1 U) e4;refine⟨p,JV kvs k,rfl,.inl ⟨kvs,k,hr,hk,rfl⟩,q _ B cp (Y.trans U) M2 ?_⟩;have:(JV kvs k).isSome=(G5 ks ds k).isSome:=by
  cases hl:G5 ks ds k with
  | none=>rw[(O.look k).2 hl];rfl
  | some d'=>obtain⟨wx,vi,_⟩:=(O.look k).1 d' hl;rw[vi];rfl
 rw[this];rfl
theorem zV{q:Ex}(U:∀σ m d O,ev C q σ m=aV (d,O)->∃z,d=.bl z){σ:L2.St}{Q:Bool->Hp->Prop}(h:gb C X.K (.val q) σ H Q):tD C X.K q σ H λx B=>∃c,x=.bl c/\Q c B:=by
 obtain⟨aj,m,ρ,c,O,S,M,e,c9⟩:=h;obtain⟨⟨x,m1⟩,G,e⟩:=az e;obtain⟨k,Z,e⟩:=bX e;obtain⟨z,rfl⟩:=U _ _ _ _ G;cases e;cases Z;exact⟨aj,m,ρ,_,_,S,M,G,λv B aq Y M1 A1=>⟨_,A1,c9 B aq Y M1⟩⟩
theorem TY(U:PE X a (tD C X.K pa))(O:PE X b (tD C X.K pb))(B:X.A.units+1<cLine:=by assumption)(G:behindInMarks .NotIn b=en:=by kernel_rfl):PT X (.Compare a [.NotIn] [b] pos) (gb C X.K (.val (.oT pa pb))):=(E9 (fY B U O) G).imp λ σ H Q h=>QI (neg:=cf) (λ_ _=>rfl) (zV (λ σ m d Y e=>by
 obtain⟨_,_,e⟩:=az e;obtain⟨_,_,e⟩:=az e;obtain⟨_,_,e⟩:=az e;obtain⟨_,_,e⟩:=bX e;cases e;exact⟨_,rfl⟩) h)
end
end WL
namespace L2
open PySem PySem.Spec PyProof.Rows
theorem L0{bs:List Bool}:∀{us:List Value},Vals (bs.map V.bl) us->us=bs.map Value.bool:=by
 induction bs with
 | nil=>intro us r;rw[List.map_nil]at r;cases r;rfl
 | cons n ns G=>
  intro us r;rw[cj]at r;cases r with
  | cons C B=>cases C;rw[G B];rfl
theorem eX(Y:X.calm=cf):gc X (.builtin "all") (λxs H Q=>∃(a:Addr) (bs:List Bool),xs=[.ref a]/\cg X.K H a (bs.map V.bl)/\Q (.bl (bs.all id)) H):=by
 intro pi s σ H xs us Q I r h;obtain⟨a,bs,rfl,U,q⟩:=h;obtain⟨u,rfl,O⟩:=vals1 r;cases O;obtain⟨its,G,p,hz⟩:=I.list U;have hi:=L0 G;have pl:=p.isList;have b8:a<s.heap.objs.size:=by obtain⟨_,e,_⟩:=pl;exact bg e
 refine call_all_walk (wpAny_pyIter_list pl ?_);refine⟨s.heap.objs.size,[s.heap.objs.size,a],[s.heap.objs.size],_,_,_,λi=>(bs[i]?).getD cf,rfl,Walks.list (A:=X.A.in1) (I.ok.hd Y) _ a (cc b8) _,⟨⟨_,dm _ rfl,rfl,rfl⟩,pl.push _⟩,λi v s' ni ZH Z C=>?_,λh' tk hk=>?_⟩
 .have B:its[i]?=aV v:=by simpa using Z
  rw[hi,fc]at B;cases e:bs[i]? with
  | none=>rw[e]at B;cases B
  | some b=>
   rw[e]at B;cases B;simp only[e,Option.getD_some]at C;exact wpAny_truthy_bool C
 .have hl:its.length=bs.length:=by rw[hi,a6]
  have e:((iS its.toArray.size).all λi=>(bs[i]?).getD cf)=bs.all id:=by
   rw[dw,hl];exact LSm.range_all bs
  rw[e];exact⟨.bl _,H,I.kept (LSm.kept_iter hk),rfl,q⟩
end L2
namespace WL
open PySem L2 PySem.Spec PyProof.Rows
section
theorem Px{i:Int}{j p pos}:PE X (.UnaryOp .USub (.Constant (.int i) j p) pos) (tD C X.K (.con (.int (-i)))):=YJ ((RI Pg qW).imp λ_ _ _ h=>⟨i,rfl,h⟩) λ_ _=>rfl
theorem wG{K:p5}{ρ:List Addr}{H:Hp}:∀{ds:List D} {bs:List Bool} {vs:List V},d7 ds=aV bs->a7 K ρ H ds vs->vs=bs.map V.bl
 | [],_,_,e,a=>by
  cases e;exact a
 | .bl b::r,bs,vs,e,a=>by
  obtain⟨O,B,rfl⟩:=bX e;obtain⟨v,us,rfl,G,C⟩:=a;cases G;rw[wG B C];rfl
theorem Mx:eY X .all (λxs H Q=>∃(a:Addr) (bs:List Bool),xs=[.ref a]/\cg X.K H a (bs.map V.bl)/\Q (.bl (bs.all id)) H):=by
 intro ρ m U H G d x Q M O e q;obtain⟨xs,C,e⟩:=az (show ((G4 G m).bind λxs=>(d7 xs).map λbs=>(D.bl (bs.all id),m))=aV (d,U) from e);obtain⟨bs,B,e⟩:=bX e;cases e;obtain⟨p,vs,rfl,h,as⟩:=IV M O C;cases wG B as;exact⟨p,bs,rfl,h,.of (q.here M rfl)⟩
variable{a:Expr}
theorem PH(Y:PE X a (tD C X.K pa))(U:X.calm=cf:=by kernel_rfl)(G:Gl X "all":=by kernel_rfl)(B:X.mg "all" = a0:=by assumption)(O:gm [a] X.env=[(en,eval a X.env)]:=by kernel_rfl):PE X (.Call (.Name "all" p) [a] [] pos) (tD C X.K (.b1 .all pa)):=fQ (eX U) Mx PyProof.Rows.boot_all G B Y (by decide) (by decide) O
end
noncomputable def Cd:List Value->Option (List D)
 | []=>aV []
 | .str x _::r=>(Cd r).map (.str x::·)
 | _=>a0
noncomputable def Gn(its:Array Value):Option D:=if its.size<=100 then (Cd its.toList).map .tup else a0
theorem tU{K:p5}:∀{l:List Value} {ds:List D},Cd l=aV ds->∃vs,Vals vs l/\∀ρ H,a7 K ρ H ds vs
 | [],ds,e=>by
  cases e;exact⟨[],.nil,λ_ _=>rfl⟩
 | .str x t::r,ds,e=>by
  obtain⟨es,G,rfl⟩:=bX e;obtain⟨vs,C,B⟩:=tU (K:=K) G;exact⟨.str x::vs,.cons ⟨t,rfl⟩ C,λ ρ H=>⟨_,_,rfl,rfl,B ρ H⟩⟩
theorem vd.strs{x:String}{its:Array Value}(h:mg (fi x)=aV (.ref a))(hl:K.lookup a=aV { cls:=.type "tuple",data:=.seq its n })(B:Gn its=aV d):vd K mg x d:=by
 unfold Gn at B;split at B
 .rename_i hs
  obtain⟨ds,O,rfl⟩:=bX B;obtain⟨vs,G,C⟩:=tU (K:=K) O;exact⟨.ref a,.ref a,h,rfl,λ ρ H=>⟨a,vs,rfl,⟨_,rfl,rfl,Or.inr ⟨hl,its,n,rfl,fN hs (by decide),G⟩⟩,C ρ H⟩⟩
 .cases B
end WL
namespace PySem
def zx(h:Heap)(z TI TO:Addr)(B:Value)(b:Bool):Prop:=h.get? z=aV { cls:=.type "zip",data:=.fields #[B,.bool b,.bool en,.ref TI,.ref TO] }
section
variable{TI TO l1 l2 p:Addr}{xs ys:Array Value}{k:Nat}{b:Bool}
theorem W3{α:Type}{M:Model}{f:Option Obj->Sem α}{Q:α->fu->Prop}(h:fj M A (f (s.heap.get? a)) Q E s):fj M A (loadIfAlive a >>= f) Q E s:=h
theorem Md(D:ZipApart z TI TO i1 i2 l1 l2)(hz:zx s.heap z TI TO (qf p) b)(hp:(s.heap.get? p).isSome=cf)(sg:IsPair s.heap TI (.ref i1) (.ref i2))(h1:s.heap.IsListIter i1 l1 k)(h2:s.heap.IsListIter i2 l2 k)(jv:s.heap.IsList l1 xs)(lS:s.heap.IsList l2 ys)(h:(∃x y,xs[k]?=aV x/\ys[k]?=aV y/\∀h',zx h' z TI TO (qf p) cf->h'.IsListIter i1 l1 (k+1)->h'.IsListIter i2 l2 (k+1)->IsPair h' s.heap.objs.size x y->(∀c o,c≠z->c≠i1->c≠i2->s.heap.get? c=aV o->h'.get? c=aV o)->Q (.ref s.heap.objs.size) { s with heap:=h' })\/
   (A.handled=a0/\(xs[k]?=a0\/ys[k]?=a0)/\∀h' e,(∀c o,c≠z->c≠i1->c≠i2->s.heap.get? c=aV o->h'.get? c=aV o)->(∃o,h'.get? e=aV o/\o.cls=.type "StopIteration")->E (.ref e) { s with heap:=h' })) :
  fj (gx prog w) A (Builtin.«zip.__next__» ⟨[.ref z],[]⟩) (λfin s'=>∃v,fin=.done (.ret v)/\Q v s') E s:=by
 show fj _ _ (field (.ref z) 2 >>= _) _ _ _;refine ab (wpAny_field hz rfl (x:=.bool en) rfl ?_);show fj _ _ (field (.ref z) 3 >>= _) _ _ _;refine ab (wpAny_field hz rfl (x:=.ref TI) rfl (ab (D4 sg rfl ?_)));show fj _ _ (Builtin.SmallTypes.ownedTupleIsFree (.ref z) >>= _) _ _ _;obtain⟨op,D2⟩:=oD.mp hp;have free:fj (gx prog w) A (Builtin.SmallTypes.ownedTupleIsFree (.ref z)) (λa s'=>a=en/\∃O,s'={ s with heap:=O }/\zx O z TI TO (qf p) cf/\vw z s.heap O) E s:=by
  unfold Builtin.SmallTypes.ownedTupleIsFree;refine ab (wpAny_field hz rfl (x:=qf p) rfl ?_);refine W3 ?_;rw[show (Int.toNat (p:Int))=p from qp p,D2];simp only[Option.isNone_some,ft,if_false];refine ab (wpAny_field hz rfl (x:=.bool b) rfl ?_);cases b with
  | true=>exact ag ⟨rfl,s.heap,rfl,hz,Heap.SameBut.refl _ _⟩
  | false=>exact ab (wpAny_setField_rec hz (by simp) λO D9 C=>ag ⟨rfl,O,rfl,D9,C⟩)
 refine ab (e9 free (λa s' ai=>?_) λ_ _ x=>x);obtain⟨ea,O,es,D9,C⟩:=ai;subst ea es;have C5:=h1.at λo q=>C.extBut i1 o D.i1z q
 have HE:=h2.at λo q=>C.extBut i2 o D.i2z q
 have la:=jv.extBut C.extBut D.l1z;have lb:=lS.extBut C.extBut D.l2z;simp only[ft,if_false];refine ab ?_;rw[<-Ri];simp only[rp,List.forIn_nil];refine ab (ab (fg ?_));show fj _ _ (Builtin.SmallTypes.nextOf (.ref i1) >>= _) _ _ _;refine ab ?_;rcases h with ⟨x,y,U,hy,q⟩ | ⟨hh,Y,q⟩
 .refine wpAny_nextOf_list_item C5 la U λhb HC B=>ag (ag ?_)
  refine ab (ab (fg ?_));show fj _ _ (Builtin.SmallTypes.nextOf (.ref i2) >>= _) _ _ _;refine ab (wpAny_nextOf_list_item (HE.at λo q=>B.extBut i2 o D.i12.symm q) (lb.extBut B.extBut D.l2i1) hy λG UA sc=>ag (ag (ag ?_)));have hsz:G.objs.size=s.heap.objs.size:=by rw[sc.1,B.1,C.1]
  refine ab (wpAny_newTuple (hsz:=by show 2<=sizeLine;decide) (ag ⟨_,rfl,?_⟩));show Q (.ref G.objs.size) _;have hk:∀c o,G.get? c=aV o->(G.push { cls:=.type "tuple",data:=.seq #[x,y] }).get? c=aV o:=λc o e=>cx _ e
  have hT:IsPair (G.push { cls:=.type "tuple",data:=.seq #[x,y] }) G.objs.size x y:=dm _ rfl;rw[hsz]at hT ⊢;exact q _ (hk _ _ (sc.extBut _ _ D.i2z.symm (B.extBut _ _ D.i1z.symm D9))) (HC.at λo q=>hk _ _ (sc.extBut _ _ D.i12 q)) (UA.at λo q=>hk _ _ q) hT λc o c1 Z c3 e=>hk c o (sc.extBut _ _ c3 (B.extBut _ _ Z (C.extBut _ _ c1 e)))
 .cases U:xs[k]? with
  | none=>exact wpAny_nextOf_list_end hh C5 la U λhb e B Y=>q hb e (λc o c1 Z _ x=>B _ _ Z (C.extBut _ _ c1 x)) Y
  | some x=>
   refine wpAny_nextOf_list_item C5 la U λhb HC B=>ag (ag ?_)
   refine ab (ab (fg ?_));show fj _ _ (Builtin.SmallTypes.nextOf (.ref i2) >>= _) _ _ _;exact ab (wpAny_nextOf_list_end hh (HE.at λo q=>B.extBut i2 o D.i12.symm q) (lb.extBut B.extBut D.l2i1) (Y.resolve_left λz=>by rw[U]at z;cases z) λG e sc Y=>q G e (λc o c1 Z c3 x=>sc _ _ c3 (B.extBut _ _ Z (C.extBut _ _ c1 x))) Y)
end
end PySem
namespace PySem
open Sem (wp)
namespace F
theorem YV:typeLookup (.type "zip") "__len__" = pure a0:=by rw[rX,r6];kernel_rfl
theorem YU:typeLookup (.type "zip") "__length_hint__" = pure a0:=by rw[rX,r6];kernel_rfl
end F
structure ZS(z TI TO i1 i2 a b:Addr)(k:Nat)(h:Heap):Prop where
 rc:IsZip h z TI TO .none\/∃(p:Addr) (q:Bool),zx h z TI TO (qf p) q/\(h.get? p).isSome=cf/\p≠z/\p≠i1/\p≠i2
 ti:IsPair h TI (.ref i1) (.ref i2)
 to:∃x y,IsPair h TO x y
 s1:h.IsListIter i1 a k
 s2:h.IsListIter i2 b k
section
variable{TI TO b:Addr}{xs ys:Array Value}{k:Nat}
theorem tM(D:ZipApart z TI TO i1 i2 a b)(Z:ZS z TI TO i1 i2 a b k s.heap)(ha:s.heap.IsList a xs)(hb:s.heap.IsList b ys){Q:Option Value->fu->Prop}(h:(∃x y,xs[k]?=aV x/\ys[k]?=aV y/\∀h',ZS z TI TO i1 i2 a b (k+1) h'->IsPair h' s.heap.objs.size x y->(∀c o,c∉[z,TO,i1,i2]->s.heap.get? c=aV o->h'.get? c=aV o)->Q (aV (.ref s.heap.objs.size)) { s with heap:=h' })\/
   (A.handled=a0/\(xs[k]?=a0\/ys[k]?=a0)/\∀h',(∀c o,c∉[z,TO,i1,i2]->s.heap.get? c=aV o->h'.get? c=aV o)->Q a0 { s with heap:=h' })) :
  fj (gx prog w) A (pyNext (.ref z)) Q E s:=by
 have lt:∀{c:Addr} {o:Obj},s.heap.get? c=aV o->s.heap.objs.size≠c:=λe=>iz (bg e)
 obtain⟨o1,e1,_⟩:=id Z.s1;obtain⟨o2,e2,_⟩:=id Z.s2;rcases Z.rc with G | ⟨p,q,G,hp,pz,p1,p2⟩
 .obtain⟨x0,y0,O⟩:=Z.to
  rcases h with ⟨x,y,q1,q2,Y⟩ | ⟨hh,q1,q2⟩
  .refine wpAny_pyNext_zip_item D G Z.ti O Z.s1 Z.s2 ha hb q1 q2 λh' g1 g2 g3 g4 U _ C=>Y h' ⟨.inr ⟨_,en,g1,by rw[show h'.get? s.heap.objs.size=_ from U];rfl,lt G,lt e1,lt e2⟩,C _ _ D.TIz D.TITO D.TIi1 D.TIi2 Z.ti,⟨x,y,g2⟩,g3,g4⟩ U λc o B e=>?_
   simp only[h7,jI,or_false,not_or]at B;exact C c o B.1 B.2.1 B.2.2.1 B.2.2.2 e
  .refine wpAny_pyNext_zip_end hh D G Z.ti O Z.s1 Z.s2 ha hb q1 λh' C=>q2 h' λc o B e=>?_
   simp only[h7,jI,or_false,not_or]at B;exact C c o B.1 B.2.1 B.2.2.1 B.2.2.2 e
 .have hT:s.TypeIs (.ref z) "zip":=⟨_,G,rfl⟩
  obtain⟨x0,y0,O⟩:=Z.to;unfold pyNext;refine ab (wpAny_attempt (zm (name:=fi "__next__") hT F.slot_zip_next (kg F.slot_zip_next hT F.entry_zip_next (Md (A:=A.in1) D G hp Z.ti Z.s1 Z.s2 ha hb ?_) (F.args_zip_next_1 _))));rcases h with ⟨x,y,q1,q2,Y⟩ | ⟨hh,q1,q2⟩
  .refine .inl ⟨x,y,q1,q2,λh' g1 g3 g4 U C=>ag (Y h' ⟨.inr ⟨p,cf,g1,?_,pz,p1,p2⟩,C _ _ D.TIz D.TIi1 D.TIi2 Z.ti,⟨x0,y0,C _ _ D.TOz D.TOi1 D.TOi2 O⟩,g3,g4⟩ U λc o B e=>?_)⟩
   .obtain⟨op,D2⟩:=oD.mp hp
    rw[C p op pz p1 p2 D2];rfl
   .simp only[h7,jI,or_false,not_or]at B
    exact C c o B.1 B.2.2.1 B.2.2.2 e
  .refine .inr ⟨hh,q1,λh' e C ⟨o,ho,B⟩=>?_⟩
   refine ab (zk (T:="StopIteration") (b:=cf) ⟨o,ho,B⟩ isSubtype_stop (ag (q2 h' λc o B e=>?_)));simp only[h7,jI,or_false,not_or]at B;exact C c o B.1 B.2.2.1 B.2.2.2 e
end
end PySem
namespace L2
open PySem PySem.Spec PyProof.Rows
theorem Inv.tracked{p:Addr}{o:HO}(I:Inv X pi σ H s)(f:O7 X pi H p)(new:dS X.prog X.w (upd H p o) s.heap p o):Inv X pi σ (upd H p o) s:=by
 have C:=f.1;have up:∀b u,H b=aV u->upd H p o b=aV u:=λb u e=>by rw[CJ (FZ e C)];exact e
 refine I.step (h':=s.heap) (t':=s.toks) (g':=s.gens) (d':=s.drawn) (ch:=[p]) (λb B=>?_) (λb ob _ _ _ e _=>e) (λb ob _ _ _ e _=>⟨ob.slots,e⟩)
  (λb ob O e n=>by rw[CJ (λz=>O (by simp[z]))];exact n) (λb ob _ e=>⟨ob,e⟩) (λb xs e=>up b _ e) (λb u xs e=>up b _ e) (λb ps e=>⟨#[],by rw[up b _ e];simp⟩) (λm G=>G) (λb u e=>?_) I.bare
 .rw[fw B]
  exact⟨f.2.2.2.1,f.2.1,f.2.2.2.2.1,f.2.2.2.2.2⟩
 .by_cases B:b=p
  .subst B;rw[CT]at e;cases e;exact new
  .rw[CJ B]at e
   exact(I.aS b u e).ig (λc v _ q=>q) (λc q=>up c _ q) λc xs q=>up c _ q
def ZI(H:Hp)(xs ys vs:List V):Prop:=∀(j:Nat) (v:V),vs[j]?=aV v->∃(x y:V) (p:Addr) (o:Obj),xs[j]?=aV x/\ys[j]?=aV y/\v=.ref p/\H p=aV (.bp o (.tup [x,y]))/\o.cls=.type "tuple"/\o.dict=a0
def ik(H aa:Hp):Prop:=∀c u,H c=aV u->aa c=aV u
section
variable{TI TO b S:Addr}{xs:List V}{oa:Obj}
theorem L8(hA:A.handled=a0)(D:ZipApart z TI TO i1 i2 a b)(hS:S∉[z,TI,TO,i1,i2,a,b])(hl:min xs.length ys.length<=1000):
  ∀(m k:Nat) (s:fu) (H:Hp) (acc:Array Value) (c:Nat) (vs:List V),min xs.length ys.length-k=m->k<=min xs.length ys.length->Inv X pi σ H s->(∀e∈[z,TI,TO,i1,i2,S],O7 X pi H e)->
   H a=aV (.bp oa (.lst xs))->H b=aV (.bp ob (.lst ys))->ZS z TI TO i1 i2 a b k s.heap->s.heap.get? S=aV { cls:=.type "list",data:=.seq acc c }->Vals vs acc.toList->vs.length=k->ZI H xs ys vs->
   (∀h' aa ic dh uB,Inv X pi σ aa { s with heap:=h' }->O7 X pi aa S->h'.get? S=aV { cls:=.type "list",data:=.seq ic dh }->Vals uB ic.toList->uB.length=min xs.length ys.length->ZI aa xs ys uB->ik H aa->R (.ok (.ret .none)) { s with heap:=h' })->
   codeAny (gx X.prog X.w) A (.builtin "list.extend.loop" ⟨[.ref S,.ref z,.none],[]⟩) R s:=by
 simp only[h7,jI,or_false,not_or]at hS;obtain⟨Sz,Tr,Ct,S1,S2,Sa,Sb⟩:=hS;intro m
 induction m with
 | zero=>
  intro k s H acc c vs hm hk I G ha hb Z hL hv AQ hz hR;obtain⟨its,Y,p1,_⟩:=I.list (.inl (.inr ⟨oa,ha⟩):cg X.K H a xs);obtain⟨Ef,U,p2,_⟩:=I.list (.inl (.inr ⟨ob,hb⟩):cg X.K H b ys);have l1:=Y.length;have l2:=U.length;refine jc PySem.F.entry_extend_loop ?_;rw[j3 sx _];show fj _ A.in1 (pyNext (.ref z) >>= _) _ _ s;refine ab (tM D Z p1.isList p2.isList (.inr ⟨by simp[hA],?_,λh' dC=>?_⟩))
  .rcases(show xs.length<=k\/ys.length<=k by lia) with q | q
   .left;simp;lia
   .right;simp;lia
  .have I1:Inv X pi σ H { s with heap:=h' }:=I.Ku (t':=s.toks) (fp:=[z,TI,TO,i1,i2,S]) G λe o B q=>dC e o (λw=>B (by simp only[h7,jI,or_false]at w ⊢;rcases w with rfl | rfl | rfl | rfl<;>simp)) q
   refine ag (hR h' H acc c vs I1 (G S (by simp)) (dC S _ (by simp[Sz,Ct,S1,S2]) hL) hv (by lia) hz λ_ _ q=>q)
 | succ m ih=>
  intro k s H acc c vs hm hk I G ha hb Z hL hv AQ hz hR;obtain⟨its,Y,p1,_⟩:=I.list (.inl (.inr ⟨oa,ha⟩):cg X.K H a xs);obtain⟨Ef,U,p2,_⟩:=I.list (.inl (.inr ⟨ob,hb⟩):cg X.K H b ys);have i3:k<xs.length:=by lia
  have ud:k<ys.length:=by lia
  obtain⟨u,eu,ru⟩:=Y.get (eg i3);obtain⟨v,ev,rv⟩:=U.get (eg ud);refine jc PySem.F.entry_extend_loop ?_;rw[j3 sx _];show fj _ A.in1 (pyNext (.ref z) >>= _) _ _ s;refine ab (tM D Z p1.isList p2.isList (.inl ⟨u,v,by simpa using eu,by simpa using ev,λh' O hT dC=>?_⟩));have HU:h'.get? S=aV { cls:=.type "list",data:=.seq acc c }:=dC S _ (by simp[Sz,Ct,S1,S2]) hL;have gq:acc.size=k:=by rw[<-AQ,hv.length,di]
  have HZ:=bg hL;have line:(1002:Nat)<=sizeLine:=by decide
  show fj _ A.in1 (updateSeq S (·.push (.ref s.heap.objs.size)) >>= _) _ _ _;refine ab ?_;refine wpAny_updateSeq HU rfl (ag ⟨rz sx _,?_⟩) (by lia) (by show (acc.push _).size<=sizeLine+1;rw[Array.size_push];lia);generalize hH:h'.update S (sX (·.push (.ref s.heap.objs.size)))=C;obtain⟨c2,oz⟩:∃c2,C.get? S=aV { cls:=.type "list",data:=.seq (acc.push (.ref s.heap.objs.size)) c2 }:=⟨_,by rw[<-hH];exact nv (sX (·.push (.ref s.heap.objs.size))) HU rfl⟩
  have k2:∀e o,e≠S->h'.get? e=aV o->C.get? e=aV o:=λe o B q=>by rw[<-hH];exact(wh _ _ (Ne.symm B)).trans q
  have sf:C.get? s.heap.objs.size=aV { cls:=.type "tuple",data:=.seq #[u,v] }:=k2 _ _ (iz HZ) hT;have fresh:=I.aS.fresh (a8 s.heap.objs.size);have ju:∀e o,e∉[z,TI,TO,i1,i2,S]->s.heap.get? e=aV o->C.get? e=aV o:=λe o B q=>by
   simp only[h7,jI,or_false,not_or]at B;exact k2 e o B.2.2.2.2.2 (dC e o (by simp[B.1,B.2.2.1,B.2.2.2.1,B.2.2.2.2.1]) q)
  have I2:Inv X pi σ (upd H s.heap.objs.size (.bp { cls:=.type "tuple",data:=.seq #[u,v] } (.tup [xs[k],ys[k]]))) { s with heap:=C }:=
   I.Kv (t':=s.toks) (fp:=[z,TI,TO,i1,i2,S]) G ju (a8 _) ⟨sf,by show 2<=sizeLine;decide,[u,v],.cons ru (.cons rv .nil),⟨_,sf,rfl,_,rfl⟩⟩
  have sub:ik H (upd H s.heap.objs.size (.bp { cls:=.type "tuple",data:=.seq #[u,v] } (.tup [xs[k],ys[k]]))):=λe w q=>by rw[CJ (FZ q fresh)];exact q
  have there:∀e∈[z,TI,TO,i1,i2,S],e<s.heap.objs.size:=λe B=>by
   simp only[h7,jI,or_false]at B;obtain⟨x0,y0,lI⟩:=Z.to;obtain⟨o1,e1,_⟩:=id Z.s1;obtain⟨o2,e2,_⟩:=id Z.s2;rcases B with rfl | rfl | rfl | rfl | rfl | rfl
   .rcases Z.rc with q | ⟨_,_,q,_⟩<;>exact bg q
   .exact bg Z.ti
   .exact bg lI
   .exact bg e1
   .exact bg e2
   .exact HZ
  have yc:∀e∈[z,TI,TO,i1,i2,S],O7 X pi (upd H s.heap.objs.size (.bp { cls:=.type "tuple",data:=.seq #[u,v] } (.tup [xs[k],ys[k]]))) e:=λe B=>
   ⟨by rw[CJ (cc (there e B))];exact(G e B).1,(G e B).2⟩
  have Z2:ZS z TI TO i1 i2 a b (k+1) C:=by
   have up:∀e o,e≠S->h'.get? e=aV o->C.get? e=aV o:=k2;have hp:∀e,(h'.get? e).isSome=cf->(C.get? e).isSome=cf:=λe q=>by
    obtain⟨o,ho⟩:=oD.mp q
    by_cases B:e=S
    .rw[B,oz];rfl
    .rw[up e o B ho];rfl
   refine⟨?_,up _ _ (Ne.symm Tr) O.ti,?_,O.s1.at λo q=>up _ _ (Ne.symm S1) q,O.s2.at λo q=>up _ _ (Ne.symm S2) q⟩
   .rcases O.rc with q | ⟨p,q,Y,U,r3⟩
    .exact .inl (up _ _ (Ne.symm Sz) q)
    .exact .inr ⟨p,q,up _ _ (Ne.symm Sz) Y,hp p U,r3⟩
   .obtain⟨x0,y0,q⟩:=O.to
    exact⟨x0,y0,up _ _ (Ne.symm Ct) q⟩
  refine ih (k+1) _ _ (acc.push (.ref s.heap.objs.size)) c2 (vs++[.ref s.heap.objs.size]) (by lia) (by lia) I2 yc (sub _ _ ha) (sub _ _ hb) Z2 oz ?_ (by simp[AQ]) ?_ λh3 H3 Tu c3 Yx q1 q2 q3 q4 q5 q6 q7=>hR h3 H3 Tu c3 Yx q1 q2 q3 q4 q5 q6 λe w q=>q7 e w (sub e w q)
  .rw[Array.toList_push]
   exact hv.append (.cons rfl .nil)
  .intro j w hj
   by_cases b8:j<vs.length
   .rw[km b8]at hj
    obtain⟨x,y,p,o,e1,e2,e3,e4,e5⟩:=hz j w hj;exact⟨x,y,p,o,e1,e2,e3,sub _ _ e4,e5⟩
   .have uc:j=k:=by
     have:=(fx.mp hj).1;simp at this;lia
    subst uc;have ew:w=.ref s.heap.objs.size:=by
     have:(vs++[V.ref s.heap.objs.size])[j]?=aV (V.ref s.heap.objs.size):=by rw[<-AQ];simp
     rw[this]at hj;exact(b5 hj).symm
    exact⟨xs[j],ys[j],_,_,eg i3,eg ud,ew,CT,rfl,rfl⟩
end
end L2
namespace L2
open PySem PySem.Spec PyProof.Rows
section
variable{TI TO b:Addr}{xs:List V}{oa:Obj}
theorem Ma(hz:IsZip h z TI TO .none){t:fu}(C:t.heap=h){Q:Bool->fu->Prop}(q:Q cf t):fj (gx X.prog X.w) A (t8 (.ref z)) Q E t:=by
 have B:t.TypeIs (.ref z) "zip":=⟨_,by rw[C];exact hz,rfl⟩
 unfold t8;refine ab (va B PySem.F.YV ?_);refine ab (va B PySem.F.YU ?_);exact ag q
theorem L9(hA:A.handled=a0)(D:ZipApart z TI TO i1 i2 a b)(hl:min xs.length ys.length<=1000)(I:Inv X pi σ H s)(hf:∀e∈[z,TI,TO,i1,i2],O7 X pi H e)(ha:H a=aV (.bp oa (.lst xs)))(hb:H b=aV (.bp ob (.lst ys)))(hz:IsZip s.heap z TI TO .none)(sg:IsPair s.heap TI (.ref i1) (.ref i2))(Y:∃x y,IsPair s.heap TO x y)(h1:s.heap.IsListIter i1 a 0)(h2:s.heap.IsListIter i2 b 0)(hQ:∀S h' aa vs,Inv X pi σ (upd aa S (.lst vs)) { s with heap:=h' }->aa S=a0->vs.length=min xs.length ys.length->ZI aa xs ys vs->ik H aa->Q (.ref S) { s with heap:=h' }) :
  fj (gx X.prog X.w) A (call (.type "list") [.ref z]) Q E s:=by
 obtain⟨x0,y0,Y⟩:=Y;obtain⟨aaL,T2,_⟩:=id h1;obtain⟨aaM,Ua,_⟩:=id h2;obtain⟨its,r1,p1,_⟩:=I.list (.inl (.inr ⟨oa,ha⟩):cg X.K H a xs);obtain⟨Ef,r2,p2,_⟩:=I.list (.inl (.inr ⟨ob,hb⟩):cg X.K H b ys);obtain⟨aaN,aaG,Uc,_⟩:=id p1;obtain⟨aaO,aaH,Ud,_⟩:=id p2;have fresh:=I.aS.fresh (a8 s.heap.objs.size);have lt:∀{c:Addr} {o:Obj},s.heap.get? c=aV o->s.heap.objs.size≠c:=λe=>iz (bg e)
 have hS:s.heap.objs.size∉[z,TI,TO,i1,i2,a,b]:=by
  simp only[h7,jI,or_false,not_or];exact⟨lt hz,lt sg,lt Y,lt T2,lt Ua,lt Uc,lt Ud⟩
 refine callType_codes (Q₁:=λobj bc=>obj=.ref s.heap.objs.size/\bc={ s with heap:=s.heap.push { cls:=.type "list",data:=.seq #[] } }) PySem.F.called_list (PySem.F.typeCall_list_1 _) PySem.F.entry_list_init (code_list_new _ ⟨rfl,rfl⟩) ?_;rintro obj bc ⟨rfl,rfl⟩;have U:(s.heap.push { cls:=.type "list",data:=.seq #[] }).get? s.heap.objs.size=aV { cls:=.type "list",data:=.seq #[] }:=dm _ rfl;refine⟨⟨_,U,rfl⟩,PySem.F.args_list_init_2 _ _,?_⟩;generalize hH:s.heap.push { cls:=.type "list",data:=.seq #[] }=H1 at U;have k1:∀c o,s.heap.get? c=aV o->H1.get? c=aV o:=λc o e=>by rw[<-hH];exact cx _ e
 have C:∀(h:Heap) (c:Nat),h.get? s.heap.objs.size=aV { cls:=.type "list",data:=.seq #[] c }->(∀c o,s.heap.get? c=aV o->h.get? c=aV o)->
   codeAny (gx X.prog X.w) A.in1 (.builtin "list.extend.loop" ⟨[.ref s.heap.objs.size,.ref z,.none],[]⟩) (wants (λr c8=>r=.none/\Q (.ref s.heap.objs.size) c8) E) { s with heap:=h }:=by
  intro h c e1 B;have I1:Inv X pi σ H { s with heap:=h }:=I.kept (t':=s.toks) B;refine L8 (by simp[hA]) D hS hl (min xs.length ys.length) 0 { s with heap:=h } H #[] c [] rfl (eC _) I1 (λe O=>?_) ha hb ⟨.inl (B _ _ hz),B _ _ sg,⟨x0,y0,B _ _ Y⟩,h1.at λo q=>B _ _ q,h2.at λo q=>B _ _ q⟩ e1 .nil rfl (λj v q=>by simp at q) λh' aa ic dh uB q1 q2 q3 q4 q5 q6 q7=>⟨rfl,?_⟩
  .rcases dg (show e∈[z,TI,TO,i1,i2]++[s.heap.objs.size] by simpa using O) with O | O
   .exact hf e O
   .rw[fw O];exact I.qj (a8 _) fresh
  .have I2:Inv X pi σ (upd aa s.heap.objs.size (.lst uB)) { s with heap:=h' }:=by
    refine q1.tracked q2 ⟨?_,ic.toList,dh,q4,by simpa using q3⟩;rw[q5];exact fN hl (by decide)
   exact hQ _ h' aa uB I2 q2.1 q5 q6 q7
 unfold Builtin.«list.__init__»;show fj _ _ (do let old <-Builtin.List.listItems (.ref s.heap.objs.size);Builtin.List.listUpdate (.ref s.heap.objs.size) (λ_=>#[]);letGo old.toList.reverse;ub (.ref s.heap.objs.size) (.ref z) .none) _ _ _;refine ab ?_;unfold Builtin.List.listItems;refine ab (D4 U rfl (ag ?_));refine ab (m:=updateSeq s.heap.objs.size (λ_=>#[])) (wpAny_updateSeq U rfl ?_);have Z:=nv (sX (λ_=>(#[]:Array Value))) U rfl;have G:∀c o,s.heap.get? c=aV o->(H1.update s.heap.objs.size (sX (λ_=>(#[]:Array Value)))).get? c=aV o:=λc o e=>(wh _ _ (lt e)).trans (k1 c o e)
 generalize Aw:H1.update s.heap.objs.size (sX (λ_=>(#[]:Array Value)))=H2 at Z G;refine ab (wpAny_letGo ?_);unfold ub;refine ab (vz (T:="zip") ⟨_,G _ _ hz,rfl⟩ ?_);rw[ak (by simp[Builtin.List.listSameRef,lt hz])];refine ab (wpAny_pyIter_zip (G _ _ hz) ?_);refine ab (fg (Ma (X:=X) (G _ _ hz) rfl ?_));refine wpAny_ite_split (λ_=>?_) (λq=>absurd (by simp) q);refine ab (mE ?_);refine ab ?_;show fj _ _ (updateSeq s.heap.objs.size (·.push .none) >>= λ_=>updateSeq s.heap.objs.size (·.pop)) _ _ _;refine ab (wpAny_updateSeq Z rfl ?_);have t6:=nv (sX (·.push ye)) Z rfl;refine wpAny_updateSeq (hz:=by seq_fits) t6 rfl ?_;have Df:=nv (sX (·.pop)) t6 rfl;exact ag ⟨rz sx _,C _ _ Df λc o e=>(wh _ _ (lt e)).trans ((wh _ _ (lt e)).trans (G c o e))⟩
end
def RC(vs:List V)(B:Hp)(Q:VK):Prop:=∃(a b:Addr) (C ob:Obj) (xs ys:List V),vs=[.ref a,.ref b]/\B a=aV (.bp C (.lst xs))/\B b=aV (.bp ob (.lst ys))/\min xs.length ys.length<=1000/\
 ∀(S:Addr) (aa:Hp) (ws:List V),aa S=a0->ws.length=min xs.length ys.length->ZI aa xs ys ws->ik B aa->Q (.ref S) (upd aa S (.lst ws))
theorem Np{l r:Expr}{ta:TA}(U:X.calm=cf)(fT:Gl X "list")(dE:X.mg "list" = a0)(f6:Gl X "zip")(fI:X.mg "zip" = a0)(ha:PA X [l,r] ta)(cv:gm [Expr.Call (.Name "zip" p2) [l,r] [] q2] X.env=[(en,eval (.Call (.Name "zip" p2) [l,r] [] q2) X.env)]:=by rfl)(hs:gm [l,r] X.env=[(en,eval l X.env),(en,eval r X.env)]:=by rfl)(c6:gm [r] X.env=[(en,eval r X.env)]:=by rfl) :
  PE X (.Call (.Name "list" p1) [.Call (.Name "zip" p2) [l,r] [] q2] [] q1) (λ σ H Q=>ta σ H λvs B=>RC vs B Q):=by
 intro pi s σ H Q I h;refine Call_ (K4 I fT dE boot_list (l5 ?_ cv rfl));have G:fj (gx X.prog X.w) X.A (eval (.Call (.Name "zip" p2) [l,r] [] q2) X.env)
   (λv s1=>∃z TI TO i1 i2 a b O ob xs ys B,v=.ref z/\ZipApart z TI TO i1 i2 a b/\Inv X pi σ B s1/\(∀e∈[z,TI,TO,i1,i2],O7 X pi B e)/\B a=aV (.bp O (.lst xs))/\B b=aV (.bp ob (.lst ys))/\IsZip s1.heap z TI TO .none/\IsPair s1.heap TI (.ref i1) (.ref i2)/\(∃x y,IsPair s1.heap TO x y)/\s1.heap.IsListIter i1 a 0/\s1.heap.IsListIter i2 b 0/\min xs.length ys.length<=1000/\
    ∀(S:Addr) (aa:Hp) (ws:List V),aa S=a0->ws.length=min xs.length ys.length->ZI aa xs ys ws->ik B aa->Q (.ref S) (upd aa S (.lst ws))) X.xe s:=by
  refine Call_ (K4 I f6 fI boot_zip (l5 (a9 (ha q2 pi s σ H _ I h) λus s1 ai=>?_) (by rw[hs,c6]) (by rw[c6];rfl)));obtain⟨vs,B,C,r1,q1⟩:=ai;obtain⟨a,b,O,ob,xs,ys,rfl,Z,Y,hl,q⟩:=q1;obtain⟨u,v,rfl,ru,rv⟩:=r1.two;cases ru;cases rv;obtain⟨its,rx,px,aax⟩:=C.list (.inl (.inr ⟨O,Z⟩):cg X.K B a xs);obtain⟨Ef,ry,py,aay⟩:=C.list (.inl (.inr ⟨ob,Y⟩):cg X.K B b ys);obtain⟨ox,nx,ex,_⟩:=id px;obtain⟨oy,aaI,ey,_⟩:=id py;refine call_zip_2 px.isList py.isList λh' g1 g2 g3 g4 g5 _ hk=>?_
  have I2:Inv X pi σ B { s1 with heap:=h' }:=C.kept (t':=s1.toks) hk;refine⟨_,_,_,_,_,a,b,O,ob,xs,ys,B,rfl,zipApart_new (bg ex) (bg ey),I2,λc U=>?_,Z,Y,g1,g2,⟨_,_,g3⟩,g4,g5,hl,q⟩;have ir:s1.heap.objs.size<=c:=by
   simp only[h7,jI,or_false]at U;rcases U with rfl | rfl | rfl | rfl | rfl
   .exact qi _ _
   .exact qi _ _
   .exact qi _ _
   .exact a8 _
   .exact qi _ _
  exact C.qj ir (C.aS.fresh ir)
 rw[cv];refine ny (a9 G λv s1 ai=>?_);obtain⟨z,TI,TO,i1,i2,a,b,O,ob,xs,ys,B,ev,D,C,hf,Z,Y,hz,sg,lI,h1,h2,hl,q⟩:=ai;refine qh ?_;subst ev;exact L9 (C.ok.hd U) D hl C hf Z Y hz sg lI h1 h2 λS h' aa vs J n e1 e2 e3=>⟨.ref S,_,J,rfl,q S aa vs n e1 e2 e3⟩
end L2
namespace WL
open PySem PySem.Spec PyProof.Rows L2
section
variable{a:Expr}
theorem FY{K:p5}{ρ:List Addr}{H:Hp}:∀{ds es:List D} {xs ys ws:List V},a7 K ρ H ds xs->a7 K ρ H es ys->ws.length=min xs.length ys.length->ZI H xs ys ws->a7 K ρ H (pX ds es) ws
 | [],es,xs,ys,ws,U,O,hl,G=>by
  cases (show xs=[] from U);have:ws=[]:=sa (by rw[hl];simp);subst this;rfl
 | d::ds,[],xs,ys,ws,U,O,hl,G=>by
  cases (show ys=[] from O);have:ws=[]:=sa (by rw[hl];simp);subst this;rfl
 | d::ds,e::es,xs,ys,ws,U,O,hl,G=>by
  obtain⟨x,i7,rfl,ax,as⟩:=U;obtain⟨y,aaT,rfl,ay,bs⟩:=O;cases ws with
  | nil=>simp at hl
  | cons w ws=>
   obtain⟨Y,ET,p,o,C,B,Z,e4,e5,e6⟩:=G 0 w rfl;have C:x=Y:=b5 C;have B:y=ET:=b5 B;subst C B;refine⟨w,ws,rfl,⟨p,[x,y],Z,⟨o,e5,e6,.inl e4⟩,x,[y],rfl,ax,y,[],rfl,ay,rfl⟩,FY as bs (by simp at hl;omega) λj v hj=>?_⟩;obtain⟨Y,ET,p,o,C,B,Z⟩:=G (j+1) v (by simpa using hj);exact⟨Y,ET,p,o,by simpa using C,by simpa using B,Z⟩
theorem ik.fz(h:ik H aa):HS H aa:=λa o u e=>h a _ e
theorem ik.go{H aa:Hp}(h:ik H aa)(ρ:List Addr):Go ρ ρ H aa:=⟨λb o e _=>h b o e,OW,λ_ h=>.inl h⟩
theorem ik.mem(h:ik H aa)(M:bo K ρ m H):bo K ρ m aa:=M.keep (ik.fz h) λa B=>by
 obtain⟨u,e,_⟩:=M.there B;rw[h a u e,e]
theorem ML(ha:PE X a (tD C X.K pa))(hb:PE X b (tD C X.K pb))(mu:Bool:=en)(hc:X.calm=cf:=by kernel_rfl)(fT:Gl X "list":=by kernel_rfl)(dE:X.mg "list" = a0:=by assumption)(f6:Gl X "zip":=by kernel_rfl)(fI:X.mg "zip" = a0:=by assumption)(cv:gm [Expr.Call (.Name "zip" p2) [a,b] [] q2] X.env=[(en,eval (.Call (.Name "zip" p2) [a,b] [] q2) X.env)]:=by kernel_rfl)(hs:gm [a,b] X.env=[(en,eval a X.env),(en,eval b X.env)]:=by kernel_rfl)(G:gm [b] X.env=[(en,eval b X.env)]:=by kernel_rfl):
  PE X (.Call (.Name "list" p1) [.Call (.Name "zip" p2) [a,b] [] q2] [] q1) (tD C X.K (.Jy mu pa pb)):=(Np hc fT dE f6 fI (GK ha (GK hb JC G) (by rw[hs,G])) cv hs G).sA λ σ H Q ai=>by
 obtain⟨aj,m,ρ,d,af,S,M,e,q⟩:=ai;obtain⟨⟨x,O⟩,e1,e⟩:=az e;obtain⟨⟨y,B⟩,e2,e⟩:=az e;refine⟨aj,m,ρ,x,O,S,M,e1,λv H1 aq Y M1 A1=>⟨aj,O,aq,y,B,S.mono M Y,M1,e2,λu H2 Z U M2 A2=>?_⟩⟩;have lj:=A1.mono M1 U;cases x with
 | lst xs=>
  cases y with
  | lst ys=>
   have e:(if xs.length<=1000 then aV (bj mu (pX xs ys) B) else a0)=aV (d,af):=e
   by_cases hl:xs.length<=1000
   .rw[ah hl]at e
    have au:bj mu (pX xs ys) B=(d,af):=b5 e;obtain⟨a1,o1,vs,rfl,h1,as⟩:=lj;obtain⟨a2,o2,us,rfl,h2,bs⟩:=A2;have l1:=as.len;refine⟨a1,a2,o1,o2,vs,us,rfl,h1,h2,by lia,λp aa ws hp hw hz sub=>?_⟩;have c9:eA X.K Z aa (bj mu (pX xs ys) B).1 (bj mu (pX xs ys) B).2 Q:=by
     rw[au];exact(q.go (Y.trans U)).go (ik.go sub Z)
    exact c9.lst (ik.mem sub M2) (FY (as.dn (ik.fz sub) (.refl _)) (bs.dn (ik.fz sub) (.refl _)) hw hz) hp
   .rw[ak hl]at e
    cases e
  | _=>cases e
 | _=>cases e
end
end WL
namespace PySem
open SetTable
noncomputable def lows:List (List Nat):=(((iS 8).foldr (λx a=>a++a.map (x::·)) [[]]).filter λl=>eH (l.length<=3))
noncomputable def aU(p:List Nat)(i:Nat):Nat:=if i=0 then 0 else p.getD (i-1) 0+1
noncomputable def zu(p:List Nat):SetTable:=⟨7,p.toArray,#[],0,en,0,en⟩
theorem v8:∀p∈lows,(∀i≤p.length,below p.toArray (aU p i)=i)/\(p.length<=2->∀h∈([0,1,2]:List Int),∃j<8,(zu p).freeSlot h=aV (j,en)/\((zu p).put j).1.place.toList∈lows):=by decide +kernel
def pM(t:SetTable):Prop:=t.mask=7/\t.dummies=#[]/\t.place.toList∈lows
theorem Lv{t:SetTable}(L:pM t)(h:Int):t.freeSlot h=(zu t.place.toList).freeSlot h:=by
 obtain⟨m,p,d,f,l,v,q⟩:=t;obtain⟨rfl,rfl,_⟩:=L;have B:∀(n:Nat) (z:Probe),probe.go ⟨7,p,#[],f,l,v,q⟩ (λ_=>h+1) h n z=probe.go (zu p.toList) (λ_=>h+1) h n z:=λn=>by
  induction n with
  | zero=>exact λ_=>rfl
  | succ n C=>
   intro z;unfold probe.go;simp only[C];rfl
 unfold freeSlot probe;rw[B];rfl
theorem NR{t:SetTable}(L:pM t){es:Array (Int×Value)}(C:t.fits es.size=cf)(hz:es.size<=2){h:Int}(U:0<=h/\h<=2)(x:Value):pM (layNew t es h x).2.1/\(layNew t es h x).2.1.tooFull=en:=by
 have B:t.place.size=es.size:=by
  simp only[fits,gS,beq_iff_eq]at C;exact C.1
 obtain⟨j,O,e,hl⟩:=(v8 _ L.2.2).2 (by simpa[B] using hz) h (by simp;lia);rw[<-Lv L]at e;obtain⟨m,p,d,f,l,v,q⟩:=t;obtain⟨rfl,rfl,Y⟩:=L;have s1:(insertAt p (below p j) j).size=es.size+1:=by
  have:(insertAt p (below p j) j).size=p.size+1:=by simp[insertAt];lia
  rw[this];exact congrArg (·+1) B
 have s2:(insertAt es (below p j) (h,x)).size=es.size+1:=by simp[insertAt];lia
 have G:(SetTable.put ⟨7,p,#[],f,l,v,q⟩ j).1.fits (insertAt es (below p j) (h,x)).size=cf:=by
  show ((insertAt p (below p j) j).size==(insertAt es (below p j) (h,x)).size&&eH ((insertAt p (below p j) j).size+0<=7))=cf;rw[s1,s2];simp;lia
 have et:(layNew ⟨7,p,#[],f,l,v,q⟩ es h x).2.1=(SetTable.put ⟨7,p,#[],f,l,v,q⟩ j).1:=by rw[layNew,e];exact ah G
 rw[et];refine⟨⟨rfl,rfl,hl⟩,df ?_⟩;show ¬((insertAt p (below p j) j).size+0)*5≥7*3;lia
end PySem
namespace PySem
open L2
noncomputable def sM:Value->Key
 | .str x _=>.inr x
 | .int i _=>.inl i
 | _=>.inl 0
noncomputable def gj(e:Int×Value):Key:=sM e.2
theorem nZ{k:Key}{v:Value}(h:JQ k v=cf):sM v=k/\v.scannable=cf:=by
 rcases FT h with ⟨i,t,rfl,rfl⟩ | ⟨x,t,rfl,rfl⟩<;>exact⟨rfl,rfl⟩
def SE(w:wy)(l:List (Int×Value)):Prop:=∀e∈l,∃k,JQ k e.2=cf/\e.1=aP w k
theorem SE.elems{l:List (Int×Value)}(h:SE w l):ElemsOf (CK prog w) l:=λe C=>by
 obtain⟨k,B,G⟩:=h e C;exact⟨⟨k,B,G⟩,(nZ B).2⟩
theorem SE.perm{l B:List (Int×Value)}(h:SE w l)(p:B.Perm l):SE w B:=λe C=>h e (p.mem_iff.mp C)
theorem SE.is{prog:Program}{w:wy}{l:List (Int×Value)}(h:SE w l){e:Int×Value}(C:e∈l)(x:Key):(CK prog w).is x e.2=eH (x=gj e):=by
 obtain⟨k,B,_⟩:=h e C;rw[gj,(nZ B).1];exact KeyKind.is_eq_decide (knd:=CK prog w) B x
theorem SW(t:SetTable)(n:Nat):(t.orStandIn n).led=t.led/\((t.orStandIn n).plain=cf->t.plain=cf):=by
 unfold SetTable.orStandIn;split
 .exact⟨rfl,id⟩
 .exact⟨rfl,λq=>by simp[SetTable.standIn]at q⟩
theorem rC(t:SetTable)(es:Array (Int×Value))(h:Int)(x:Value):(layNew t es h x).2.1.led=t.led/\((layNew t es h x).2.1.plain=cf->t.plain=cf):=by
 unfold layNew;split
 .rename_i slot B C
  exact SW (t.put slot).1 (SetTable.insertAt es (t.put slot).2 (h,x)).size
 .exact⟨rfl,λq=>by simp[SetTable.standIn]at q⟩
theorem jD(t:SetTable)(es:Array (Int×Value))(B:Nat):(relayAll t es B).2.1.led=t.led/\((relayAll t es B).2.1.plain=cf->t.plain=cf):=by
 unfold relayAll;split
 .rename_i t' order C
  have G:t'.led=t.led/\t'.plain=t.plain:=by
   unfold SetTable.relaid SetTable.laid at C;cases O:SetTable.layClean (SetTable.sizeAbove B-1) (es.map (·.1)) with
   | none=>rw[O]at C;cases C
   | some owner=>rw[O]at C;cases C;exact⟨rfl,rfl⟩
  dsimp only;split
  .exact⟨G.1,λq=>by rw[<-G.2];exact q⟩
  .exact⟨rfl,λq=>by simp[SetTable.standIn]at q⟩
 .exact⟨rfl,λq=>by simp[SetTable.standIn]at q⟩
abbrev GF (es:Array (Int×Value)) (ep:Nat) (t:SetTable):Obj:={ cls:=.type "set",dict:=a0,data:=.set es ep t,slots:=#[] }
structure SetB(w:wy)(h:Heap)(a:Addr)(es:Array (Int×Value))(ep:Nat)(t:SetTable):Prop where
 ob:h.get? a=aV (GF es ep t)
 fit:t.fits es.size=cf
 led:t.led=!w.params.followText "set-order"
 pl:t.plain=en\/∀i≤t.place.size,SetTable.below t.place (aU t.place.toList i)=i
noncomputable def aN:List Key:=[.inl 0,.inl 1,.inl 2]
structure lR(w:wy)(h:Heap)(a:Addr)(es:Array (Int×Value))(ep:Nat)(t:SetTable):Prop extends SetB w h a es ep t where
 se:SE w es.toList
 nd:(es.toList.map gj).Nodup
 lo:t.plain=cf->pM t/\∀k∈es.toList.map gj,k∈aN
theorem pM.xn{t:SetTable}(L:pM t):∀i≤t.place.size,SetTable.below t.place (aU t.place.toList i)=i:=(v8 _ L.2.2).1
theorem Pn{es:Array (Int×Value)}{ep:Nat}{t:SetTable}(S:lR w s.heap a es ep t)(hb:es.size+1<scanBound){x:Key}{v:Value}(yg:JQ x v=cf)(yq:(∃y,x=.inr y)\/x∈aN){Q:Bool->fu->Prop}(h:∀h' je fh t' b,vw a s.heap h'->lR w h' a je fh t'->je.size<=es.size+1->(∀y,y∈je.toList.map gj↔y∈es.toList.map gj\/y=x)->Q b { s with heap:=h' }) :
  fj (gx prog w) A (setAddHashed a v (aP w x)) Q E s:=by
 have Ih:ElemsOf (CK prog w) es.toList:=S.se.elems;have IQ:=(nZ yg).2;unfold setAddHashed setAddHashedIn;refine fg (ab (n9 S.ob rfl S.fit ?_));dsimp only;rw[byScan_of IQ (Nat.lt_of_succ_lt hb) Ih];simp only[↓reduceIte];unfold setAddByScan;refine ab (ab (mE (ab (wpAny_setScan_of (knd:=CK prog w) (show (CK prog w).is x v=cf from yg) S.ob rfl S.fit Ih ?_))));cases hr:List.findIdx? (λe=>(CK prog w).is x e.2) es.toList with
 | some j=>
  dsimp only;obtain⟨hj,IH,_⟩:=List.findIdx?_eq_some_iff_getElem.mp hr;rw[S.se.is (List.getElem_mem hj),decide_eq_true_eq]at IH;have hx:x∈es.toList.map gj:=by rw[IH];exact gh (List.getElem_mem hj)
  refine ag (ag ?_);exact h s.heap es ep t _ (Heap.SameBut.refl a s.heap) S (oo _) λy=>⟨.inl,λq=>q.elim id λe=>e▸hx⟩
 | none=>
  dsimp only;have hx:x∉es.toList.map gj:=λq=>by
   obtain⟨e,O,rfl⟩:=ck q;have:=List.findIdx?_eq_none_iff.mp hr e O;rw[S.se.is O]at this;simp at this
  have gw:∀(b:Bool) {bc:fu} {ni:Unit->fu->Prop},ni () bc->fj (gx prog w) A (match b with | true=>rule "set.scan.the-table-gave-way" | false=>pure ()) ni E bc:=λb bc ni q=>by cases b<;>first | exact ag q | exact mE q
  have Z:=layNew_perm t es (aP w x) v;have lf:=layNew_fits t es (aP w x) v;have ll:=rC t es (aP w x) v;have lw:t.plain=cf->x∈aN->pM (layNew t es (aP w x) v).2.1/\(layNew t es (aP w x) v).2.1.tooFull=en:=λhp hk=>by
   have hz:=(List.nodup_cons.mpr ⟨hx,S.nd⟩).length_le_of_subset (l₂:=aN) λk q=>(cq q).elim (λe=>e▸hk) ((S.lo hp).2 k)
   rw[hJ,a6,di]at hz;refine NR (S.lo hp).1 S.fit (Nat.le_of_succ_le_succ hz) ?_ v;simp only[aN,h7,jI,or_false]at hk;rcases hk with rfl | rfl | rfl<;>(simp only[aP];decide)
  generalize hL:layNew t es (aP w x) v=L at Z lf ll lw ⊢;obtain⟨B,t1,wd,gv⟩:=L;dsimp only at Z lf ll lw ⊢;rw[Array.toList_push]at Z;have IT:SE w B.toList:=SE.perm (l:=es.toList++[(aP w x,v)]) (λe O=>by
   rcases dg O with O | O
   .exact S.se e O
   .rw[fw O];exact⟨x,yg,rfl⟩) Z
  have dE:(B.toList.map gj).Perm (es.toList.map gj++[x]):=by
   have:=Z.map gj;rw[gi,List.map_singleton,show gj (aP w x,v)=x from (nZ yg).1]at this;exact this
  have vy:(B.toList.map gj).Nodup:=dE.nodup_iff.mpr (qu.mpr ⟨S.nd,by simp,λa ha b hb e=>hx (by rw[<-fw hb,<-e];exact ha)⟩);have DJ:∀y,y∈B.toList.map gj↔y∈es.toList.map gj\/y=x:=λy=>by rw[dE.mem_iff];simp
  have aau:B.size=es.size+1:=by rw[<-di,Z.length_eq,fA,di];rfl
  refine ab (gw _ ?_);have G:∀(C:SetTable),C.fits B.size=cf->C.led=t.led->(C.plain=en\/C.tooFull=en)->(C.plain=cf->pM C/\∀k∈B.toList.map gj,k∈aN)->fj (gx prog w) A (do
    storeSet a B C
    if (!wd&&C.tooFull)=cf then do
      (match (relayAll C B (OU B.size)).2.2 with | true=>rule "set.scan.the-table-gave-way" | false=>pure ())
      storeSet a (relayAll C B (OU B.size)).1 (relayAll C B (OU B.size)).2.1
      pure (aV cf)
     else pure (aV cf)) (λr s'=>∃b,r=aV b/\Q b s') E s:=by
   intro C yc lS sy Jg;refine ab (wpAny_storeSet_of S.ob rfl ?_ (fits_of_scanBound (by lia)));have o1:(s.heap.update a (Obj.putSet B C)).get? a=aV (GF B (ep+1) C):=nv (Obj.putSet B C) S.ob rfl;have uw:=tJ s.heap a (Obj.putSet B C);split
   .rename_i vS
    have sy:C.plain=en:=sy.resolve_right λz=>by rw[z,Bool.and_false]at vS;cases vS
    have Y:=relayAll_perm C B (OU B.size);have rf:=relayAll_fits C B (OU B.size);have rl:=jD C B (OU B.size);generalize relayAll C B (OU B.size)=Rl at Y rf rl ⊢;obtain⟨rS,U,ZZ⟩:=Rl;dsimp only at Y rf rl ⊢;have hsz2:rS.size=B.size:=by rw[<-di,Y.length_eq,di]
    refine ab (gw _ ?_);refine ab (wpAny_storeSet_of o1 rfl ?_ (fits_of_scanBound (by lia)));have o2:((s.heap.update a (Obj.putSet B C)).update a (Obj.putSet rS U)).get? a=aV (GF rS (ep+1+1) U):=nv (Obj.putSet rS U) o1 rfl;have ID:U.plain=en:=by
     cases q:U.plain with
     | false=>rfl
     | true=>rw[rl.2 q]at sy;cases sy
    exact ag ⟨cf,rfl,h _ rS _ U cf (uw.trans (tJ _ a _)) ⟨⟨o2,rf,by rw[rl.1,lS,S.led],.inl ID⟩,IT.perm Y,(Y.map gj).nodup_iff.mpr vy,λz=>by rw[ID]at z;cases z⟩ (by lia) λy=>by rw[(Y.map gj).mem_iff];exact DJ y⟩
   .refine ag ⟨cf,rfl,h _ B _ C cf uw ⟨⟨o1,yc,by rw[lS,S.led],?_⟩,IT,vy,Jg⟩ (by lia) DJ⟩
    cases q:C.plain with
    | false=>exact .inl rfl
    | true=>exact .inr (Jg q).1.xn
  split
  .rename_i iF
   have hp:=ll.2 iF;refine ab ?_;rw[hashByValue_scannable 8 IQ];refine ag ?_;have pk:plainKind v=cf->x∈aN:=λz=>yq.resolve_left λai=>by
    obtain⟨y,e⟩:=ai;subst e;obtain⟨t,rfl⟩:=Value.isStrOf_shape (x:=y) (v:=v) yg;cases z
   refine e9 (G (if plainKind v=cf then t1 else { t1 with plain:=en }) ?_ ?_ ?_ ?_) (λr s' ⟨b,e,q⟩=>?_) λ_ _ e=>e
   .split
    .exact lf
    .exact SetTable.fits_plain_off lf
   .split<;>exact ll.1
   .split
    .rename_i z
     exact .inr (lw hp (pk z)).2
    .exact .inl rfl
   .split
    .rename_i z
     exact λ_=>⟨(lw hp (pk z)).1,λk hk=>((DJ k).mp hk).elim ((S.lo hp).2 k) λe=>e▸pk z⟩
    .exact λz=>by cases z
   subst e;exact ag q
  .rename_i iF
   refine ab (ag ?_);simp only[↓reduceIte];have iF:t1.plain=en:=by simpa using iF
   refine e9 (G t1 lf ll.1 (.inl iF) λz=>by rw[iF]at z;cases z) (λr s' ⟨b,e,q⟩=>?_) λ_ _ e=>e
   subst e;exact ag q
theorem vC:∀{vs:List Value} {ys:List Key},Vals (ys.map kV) vs->∀(k:Nat) (v:Value),vs[k]?=aV v->∃x,JQ x v=cf/\ys[k]?=aV x
 | _,[],.nil,k,v,h=>by simp at h
 | _,y::ys,.cons a r,0,v,h=>by
  cases h;refine⟨y,?_,rfl⟩;cases y<;>(obtain⟨t,rfl⟩:=a;simp[JQ,Value.isInt,Value.isStrOf])
 | _,y::ys,.cons a r,k+1,v,h=>vC r k v h
theorem Eo{l:Bool}:pM (.fresh 0 0 l):=⟨rfl,rfl,show []∈lows by decide⟩
theorem Mn(hh:A.handled=a0){l S:Addr}{xs:List Key}(hv:Vals (xs.map kV) vs)(yq:∀x∈xs,(∃y,x=.inr y)\/x∈aN)(AH:l≠I)(O:S≠I)(Ay:S≠l)(hn:vs.length+1<scanBound):∀(m k:Nat) (s:fu) (es:Array (Int×Value)) (ep:Nat) (t:SetTable),vs.length-k=m->k<=vs.length->s.heap.IsListIter I l k->s.heap.IsList l vs.toArray->lR w s.heap S es ep t->es.size<=k->(∀y,y∈es.toList.map gj↔y∈xs.take k)->
  (∀h' B Y fh t',lR w h' S Y fh t'->Y.size<=vs.length->(∀y,y∈Y.toList.map gj↔y∈xs)->(∀b o,b≠I->b≠S->s.heap.get? b=aV o->h'.get? b=aV o)->R (.ok (.ret .none)) { s with heap:=h',toks:=B })->
  codeAny (gx prog w) A (.builtin "set.update.loop" ⟨[.ref S,.ref I],[]⟩) R s:=by
 have hlen:vs.length=xs.length:=by rw[<-hv.length,a6]
 intro m
 induction m with
 | zero=>
  intro k s es ep t hm hk hit hl G hz U Z;have W:=Walks.list (prog:=prog) (w:=w) (A:=A.in1) (by simp[hh]) I l AH vs.toArray;have ju:k=vs.length:=by lia
  refine jc yf ?_;rw[j3 oC _];show fj _ A.in1 (pyNext (.ref I) >>= _) _ _ s;refine ab (W.done s _ _ (by rw[dw,<-ju];exact⟨hit,hl⟩) λh' B C=>?_);refine ag (Z h' B es ep t { G with ob:=C S _ (by simpa using O) G.ob } (by lia) (λy=>?_) λb o b1 _ e=>C b o (by simpa using b1) e);rw[U,r9 (by lia)]
 | succ m ih=>
  intro k s es ep t hm hk hit hl G hz U Z;have W:=Walks.list (prog:=prog) (w:=w) (A:=A.in1) (by simp[hh]) I l AH vs.toArray;have b8:k<vs.length:=by lia
  refine jc yf ?_;rw[j3 oC _];show fj _ A.in1 (pyNext (.ref I) >>= _) _ _ s;refine ab (W.item k s _ _ (by simpa using b8) ⟨hit,hl⟩ λv h' B D6 iO C=>?_);obtain⟨x,ev,ex⟩:=vC hv k v (by simpa using D6);have ko:lR w h' S es ep t:={ G with ob:=C S _ (by simpa using O) G.ob }
  show fj _ A.in1 (holding [v] (setAdd S v) >>= _) _ _ { s with heap:=h',toks:=B };refine ab (fg ?_);unfold setAdd;refine fg (ab ((CK prog w).pyHash (k:=x) ev ?_));refine Pn (s:={ s with heap:=h',toks:=B+1 }) ko (by lia) ev (yq x (gL ex)) λh2 rS rL t2 bb sb S2 z2 m2=>?_
  have kp:∀b o,b≠S->h'.get? b=aV o->h2.get? b=aV o:=λb o hb e=>sb.extBut b o hb e
  refine ag ⟨rz oC _,ih (k+1) _ rS rL t2 (by lia) b8 (iO.1.at λo q=>kp _ _ (Ne.symm O) q) (iO.2.at λo q=>kp _ _ (Ne.symm Ay) q) S2 (by lia) (λy=>?_) λh3 EL Ug CL t3 q1 q2 q3 q4=>Z h3 EL Ug CL t3 q1 q2 q3 λb o b1 b2 e=>q4 b o b1 b2 (kp b o b2 (C b o (by simpa using b1) e))⟩;have aan:k<xs.length:=by lia
  have e1:xs.take (k+1)=xs.take k++[x]:=by
   rw[List.take_succ,ex];rfl
  rw[m2,U,e1];simp
theorem E2{a:Value}{Q₁:Value->fu->Prop}(h:Q₁ (.ref s.heap.objs.size) { s with heap:=s.heap.push (GF #[] 0 (.fresh 0 0 (!w.params.followText "set-order"))) }):
  codeAny (gx prog w) A (.call (.builtin "set.__new__") ⟨[.type "set",a],[]⟩) (wants Q₁ E) s:=by
 refine Au ?_;show fj _ A.in1 (checkBuiltinCall "set.__new__" ⟨[.type "set",a],[]⟩ >>= λ_=>again (.builtin "set.__new__" ⟨[.type "set",a],[]⟩)) _ _ s;refine ab (wpAny_of_eq (F.newCall_set_1 a) (ag ⟨rz F.plain_set_new _,jc F.entry_set_new ?_⟩));rw[j3 F.plain_set_new _];unfold Builtin.«set.__new__» Builtin.Frozenset.newClass;have Wh:=sub_set_self;obtain⟨hp,C,dd,B,aaP⟩:=s;dsimp only
 wp_walk
 refine z8 (ag ?_);dsimp only;simp only[newObj];exact ab (wpAny_alloc (ag (ag h)))
theorem Mq{l:Addr}{xs:List Key}(hh:A.handled=a0)(hl:s.heap.IsList l vs.toArray)(hv:Vals (xs.map kV) vs)(yq:∀x∈xs,(∃y,x=.inr y)\/x∈aN)(hn:vs.length+1<scanBound)(h:∀(h':Heap) (B:Nat) es ep t,lR w h' s.heap.objs.size es ep t->es.size<=vs.length->(∀y,y∈es.toList.map gj↔y∈xs)->(∀b o,s.heap.get? b=aV o->h'.get? b=aV o)->Q (.ref s.heap.objs.size) { s with heap:=h',toks:=B }) :
  fj (gx prog w) A (call (.type "set") [.ref l]) Q E s:=by
 obtain⟨c0,tl,VQ⟩:=F.called_set.mro;have VI:=F.called_set.made;have f7:=F.called_set.sub;have VU:=F.called_set.notType;have kq:=F.called_set.canCreate;have Dm:=F.typeCall_set_1 (.ref l);refine wpAny_call (Au ?_);show fj _ _ (callAny (.type "set") _) _ _ _;refine ag ⟨Code.quiet_builtin _ (by decide +kernel),jc F.entry_type_call ?_⟩;rw[Around.under_plain (weight_type_call_type "set" [.ref l] []) rfl]
 repeat (any_goals (first | assumption | wp_step))
 refine tN (E2 (E:=E) (Q₁:=λobj bc=>obj=.ref s.heap.objs.size/\bc={ s with heap:=s.heap.push (GF #[] 0 (.fresh 0 0 (!w.params.followText "set-order"))) }) ⟨rfl,rfl⟩) λr bc Y=>?_
 cases r with
 | error e=>exact Y
 | ok fl=>
  cases fl with
  | ret obj=>
   obtain⟨rfl,rfl⟩:=Y;generalize vx:(!w.params.followText "set-order")=led;have k7:(s.heap.push (GF #[] 0 (.fresh 0 0 led))).get? s.heap.objs.size=aV (GF #[] 0 (.fresh 0 0 led)):=dm _ rfl;have hT:Shared.TypeIs { s with heap:=s.heap.push (GF #[] 0 (.fresh 0 0 led)) } (.ref s.heap.objs.size) "set":=⟨_,k7,rfl⟩
   have Vy:=F.called_set.init.lookup;have UN:=F.called_set.init.bind (.ref s.heap.objs.size)
   repeat (any_goals (first | assumption | wp_step))
   refine tN (codeAny_call_builtin (R:=wants (λr c8=>r=.none/\∃h' B es ep t,c8={ s with heap:=h',toks:=B }/\lR w h' s.heap.objs.size es ep t/\es.size<=vs.length/\(∀y,y∈es.toList.map gj↔y∈xs)/\(∀b o,s.heap.get? b=aV o->h'.get? b=aV o)) E) F.called_set.init.plain F.entry_set_init (check_set_init_1 hT ?_)) λEF c8 C=>?_
   .obtain⟨ol,Z,d6,nl,nN⟩:=hl
    obtain⟨Ka,yY,Kb,y1⟩:=ol;simp only at d6 nN;subst d6;subst nN;have yi:(s.heap.push (GF #[] 0 (.fresh 0 0 led))).get? l=aV { cls:=.type "list",dict:=yY,data:=.seq vs.toArray nl,slots:=y1 }:=cx _ Z;have IZ:=F.sub_list_set;have IY:=F.sub_list_frozenset;have dq:(Value.type "list" == Value.type "dict")=en:=by decide
    have jv:(s.heap.push (GF #[] 0 (.fresh 0 0 led))).IsList l vs.toArray:=⟨_,yi,rfl,nl,rfl⟩
    have b8:l<s.heap.objs.size:=bg Z;unfold Builtin.«set.__init__» noKeywords Builtin.Frozenset.updateFrom;generalize xE:pyIter=PI
    wp_walk
    subst xE;refine wpAny_pyIter_list jv (ab (yu ?_));have U:(s.heap.push (GF #[] 0 (.fresh 0 0 led))).objs.size=s.heap.objs.size+1:=kS ..;have up:∀b o,s.heap.get? b=aV o->((s.heap.push (GF #[] 0 (.fresh 0 0 led))).push { cls:=.type "list_iterator",data:=.fields #[.ref l,.int 0 0] }).get? b=aV o:=λb o e=>cx _ (cx _ e)
    refine Mn (by simp[hh]) hv yq (by rw[U];exact cc (jn b8)) (by rw[U];exact cc (qd _)) (iz b8) hn _ 0 _ #[] 0 (.fresh 0 0 led) rfl (eC _) ⟨_,dm _ rfl,rfl,rfl⟩ (jv.push _) ⟨⟨cx _ k7,rfl,by rw[<-vx];rfl,.inr Eo.xn⟩,λe he=>by simp at he,by simp,λ_=>⟨Eo,by simp⟩⟩ (eC _) (λy=>by simp) λh' B je fh t' q1 q2 O G=>?_
    show fj _ _ _ _ _ _;refine ag (ag ⟨rfl,h',B,je,fh,t',rfl,q1,q2,O,λb o e=>G b o ?_ ?_ (up b o e)⟩)
    .rw[U];exact cc (jn (bg e))
    .exact cc (bg e)
   .cases EF with
    | error e=>exact C
    | ok CY=>
     cases CY with
     | ret r=>
      obtain⟨rfl,h',B,es,ep,t,rfl,q1,q2,O,G⟩:=C
      repeat (any_goals (first | assumption | wp_step))
      exact h h' B es ep t q1 q2 O G
     | _=>exact C.elim
  | _=>exact Y.elim
end PySem
namespace PySem
namespace F
theorem zd:Slot "set_iterator" "__next__" "set_iterator.__next__":=
 .of (owner:="set_iterator") (n:="__next__") (by rw[rX,r6];kernel_rfl) (by decide +kernel) (by decide +kernel) (by decide +kernel)
  (by first | exact .inl (by decide +kernel) | exact .inr (by decide +kernel)) (by rw[isSubtype_type];kernel_rfl)
theorem Kl:Slot "set_iterator" "__iter__" "set_iterator.__iter__":=
 .of (owner:="set_iterator") (n:="__iter__") (by rw[rX,r6];kernel_rfl) (by decide +kernel) (by decide +kernel) (by decide +kernel)
  (by first | exact .inl (by decide +kernel) | exact .inr (by decide +kernel)) (by rw[isSubtype_type];kernel_rfl)
theorem Yh:entryFor table "set_iterator.__next__" = aV Builtin.«set_iterator.__next__»:=entryFor_of_tree (by kernel_rfl)
theorem Yg:entryFor table "set_iterator.__iter__" = aV Builtin.«dict_keyiterator.__iter__»:=
 entryFor_alias (id':="dict_keyiterator.__iter__") (by kernel_rfl) (by first | rfl | decide +kernel | (unfold String.splitOn;simp +decide [String.splitOnAux])) (by decide +kernel) (by kernel_rfl)
theorem mK:Manifest.owners.lookup (String.ofList ['r','o','t','a','r','e','t','i','_','t','e','s'].reverse)=aV Manifest.sig_set_iterator:=by kernel_rfl
theorem Ye(a:Value):argsOk "set_iterator.__next__" ⟨[a],[]⟩:=by
 unfold argsOk;rw[signature?_of (id:="set_iterator.__next__") (n:=['_','_','t','x','e','n','_','_']) (o:=['r','o','t','a','r','e','t','i','_','t','e','s']) (by kernel_rfl) mK];kernel_rfl
theorem Yd(a:Value):argsOk "set_iterator.__iter__" ⟨[a],[]⟩:=by
 unfold argsOk;rw[signature?_of (id:="set_iterator.__iter__") (n:=['_','_','r','e','t','i','_','_']) (o:=['r','o','t','a','r','e','t','i','_','t','e','s']) (by kernel_rfl) mK];kernel_rfl
theorem Yi:entryFor table "set.__iter__" = aV Builtin.«frozenset.__iter__»:=
 entryFor_alias (id':="frozenset.__iter__") (by kernel_rfl) rfl (by decide +kernel) (by kernel_rfl)
end F
theorem VL{α:Type}:∀(l:List α) (i:Nat) (h:i<l.length),(l[i]::l.eraseIdx i).Perm l
 | [],i,h=>absurd h (ki _)
 | a::r,0,h=>.refl _
 | a::r,i+1,h=>(List.Perm.swap _ _ _).trans (.cons a (VL r i (by simpa using h)))
theorem uV{α:Type}(next:Nat->Nat):∀(B k:Nat) (left:List α) (out:Array α),B=left.length->(pickOrder.go next B k left out).toList.Perm (out.toList++left)
 | 0,k,left,out,h=>by
  have:left=[]:=sa h.symm;subst this;simp[pickOrder.go]
 | B+1,k,left,out,h=>by
  have hp:0<left.length:=by lia
  have hi:next k % left.length<left.length:=Nat.mod_lt _ hp
  unfold pickOrder.go;rw[eg hi];dsimp only;refine(uV next B (k+1) _ _ (by rw[List.length_eraseIdx_of_lt hi];lia)).trans ?_;rw[Array.toList_push,vk];exact List.Perm.append_left _ (VL _ _ hi)
theorem QJ{α:Type}(next:Nat->Nat)(xs:Array α):(pickOrder next xs).toList.Perm xs.toList:=by
 have:=uV next xs.size 0 xs.toList #[] (by simp)
 simpa[pickOrder] using this
theorem eN{src:Source}{Q:Nat->fu->Prop}(B:n≠0)(h:∀i d',i<n->Q i { s with drawn:=d' }):fj (gx prog w) A (choose src n) Q E s:=λ_ _ _=>⟨B,h _ _ (Nat.mod_lt _ (Nat.pos_of_ne_zero B))⟩
theorem cU{α:Type}:∀(n:Nat) (xs:List α) (s:fu) (Q:List α->fu->Prop),xs.length=n->(∀ys d',ys.Perm xs->Q ys { s with drawn:=d' })->fj (gx prog w) A (drawOrder n xs) Q E s
 | 0,xs,s,Q,hl,h=>by
  have:xs=[]:=sa hl;subst this;unfold drawOrder;exact ag (h [] s.drawn .nil)
 | n+1,[],s,Q,hl,h=>by simp at hl
 | n+1,x::r,s,Q,hl,h=>by
  unfold drawOrder;refine ab (eN (by simp) λi d' hi=>?_);rw[eg hi];dsimp only;refine ab (cU n _ _ _ (by rw[List.length_eraseIdx_of_lt hi];simp at hl ⊢;lia) λys B hp=>?_);exact ag (h _ B ((List.Perm.cons _ hp).trans (VL _ _ hi)))
abbrev pT (h:Heap) (I:Addr) (B:Value) (i:Nat) (a:Addr) (n ep:Nat):Prop:=h.get? I=aV { cls:=.type "set_iterator",data:=.fields #[B,qf i,.ref a,qf n,qf ep] }
section
variable{es:Array (Int×Value)}{ep:Nat}{t:SetTable}{f0:Value}
theorem U0(S:SetB w s.heap a es ep t)(G:pT s.heap I f0 i a es.size ep){Q:Option Value->fu->Prop}(h:(∃sl:Nat,f0=qf (sl:Nat)/\fj (gx prog w) A.in1 (setNext a sl i ep) (λr s'=>s'=s/\((∃x nx,r=aV (x,nx)/\∀h',pT h' I (qf (nx:Nat)) (i+1) a es.size ep->vw I s.heap h'->Q (aV x) { s with heap:=h' })\/(r=a0/\A.handled=a0/\∀h',Heap.ExtBut I s.heap h'->Q a0 { s with heap:=h' }))) (λ_ _=>False) s)\/
   (∃T pl,f0=.ref T/\s.heap.IsTuple T pl/\((∃(p:Nat) (Z:Tok) (e:Int×Value),pl[i]?=aV (.int p Z)/\es[p]?=aV e/\∀h',pT h' I f0 (i+1) a es.size ep->vw I s.heap h'->Q (aV e.2) { s with heap:=h' })\/(pl[i]?=a0/\A.handled=a0/\∀h',Heap.ExtBut I s.heap h'->Q a0 { s with heap:=h' })))) :
  fj (gx prog w) A (pyNext (.ref I)) Q E s:=by
 have hT:s.TypeIs (.ref I) "set_iterator":=⟨_,G,rfl⟩
 unfold pyNext;refine ab (wpAny_attempt (zm (name:=fi "__next__") hT F.zd (kg F.zd hT F.Yh ?_ (F.Ye _))));unfold Builtin.«set_iterator.__next__»;refine ab (wpAny_of_eq (a:=(gg I,[])) rfl ?_);refine ab (wpAny_fieldsOf G rfl ?_);show fj _ _ (setEntries a >>= _) _ _ s;refine ab (wpAny_setEntries_of S.ob rfl S.fit ?_);have dq:(((es.size:Nat):Int) != ((es.size:Nat):Int))=en:=by simp
 rw[dq];simp only[ft,if_false];rcases h with ⟨sl,rfl,h⟩ | ⟨T,pl,rfl,vt,h⟩
 .show fj _ _ (setNext a (Int.toNat (sl:Int)) (Int.toNat (i:Int)) (Int.toNat (ep:Int)) >>= _) _ _ s
  rw[qp,qp,qp];refine ab (e9 h (λr s' ai=>?_) λ_ _ f=>f.elim);obtain⟨je,q⟩:=ai;subst je;rcases q with ⟨x,nx,rfl,q⟩ | ⟨rfl,Y,q⟩
  .dsimp only
   refine ab (wpAny_setField_rec G (by simp) λB C s1=>?_);refine ab (wpAny_setField_rec (s:={ s' with heap:=B }) C (by simp) λO HM s2=>ag ⟨x,rfl,ag (q O HM (s1.trans s2))⟩)
  .dsimp only
   refine ab (wpAny_setField_rec G (by simp) λB C s1=>?_);exact e9 (ZF (s:={ s' with heap:=B }) (h:=s'.heap) (it:=I) (Q:=Q) (E:=E) Y (λb o U e=>s1.extBut b o U e) λh' hk=>q h' hk) (λ_ _ f=>f.elim) λe s2 q=>q
 .obtain⟨aaJ,eT,cT,aaF,dT⟩:=vt
  show fj _ _ (seqItems? (.ref T) >>= _) _ _ s;refine ab (D4 eT dT ?_);rcases h with ⟨p,Z,e,hp,he,q⟩ | ⟨hp,Y,q⟩
  .dsimp only
   rw[show Int.toNat (i:Int)=i from qp i,hp];dsimp only;refine ab ?_;unfold setNextDrawn;refine ab (n9 S.ob rfl S.fit ?_);have O:(ep != (Int.toNat (ep:Int)))=en:=by rw[qp];simp
   dsimp only;rw[O,show Int.toNat (p:Int)=p from qp p,he];simp only[ft,if_false];refine ag ?_;refine ab (wpAny_setField_rec G (by simp) λB C s1=>ag ⟨e.2,rfl,ag (q B C s1)⟩)
  .dsimp only
   rw[show Int.toNat (i:Int)=i from qp i,hp];dsimp only;refine ab (wpAny_setField_rec G (by simp) λB C s1=>?_);refine ab (wpAny_setField_rec (s:={ s with heap:=B }) C (by simp) λO HM s2=>?_);exact e9 (ZF (s:={ s with heap:=O }) (h:=s.heap) (it:=I) (Q:=Q) (E:=E) Y (λb o U e=>s2.extBut b o U (s1.extBut b o U e)) λh' hk=>q h' hk) (λ_ _ f=>f.elim) λe s2 q=>q
end
end PySem
namespace PySem
section
variable{es:Array (Int×Value)}{ep:Nat}{t:SetTable}
theorem SetB.at(S:SetB w h a es ep t)(e:∀o,h.get? a=aV o->h'.get? a=aV o):SetB w h' a es ep t:={ S with ob:=e _ S.ob }
theorem j6{G:Value}(C:pT s.heap I G i a n ep)(h:Q (.ref I) s):fj (gx prog w) A (pyIter (.ref I)) Q E s:=by
 have B:s.TypeIs (.ref I) "set_iterator":=⟨_,C,rfl⟩
 refine wpAny_pyIter_slot B F.Kl (kg F.Kl B F.Yg ?_ (F.Yd _));show fj _ _ (ret (.ref I)) _ _ s;exact ag ⟨_,rfl,"set_iterator",_,B,F.zd.lookup,h⟩
theorem Walks.Yc(Y:w.params.followText "set-order" = cf)(hA:A.handled=a0)(dq:a≠I):Walks prog w A I [I,a] [I] es.size (λi v=>∃e,(pickOrder (w.params.setOrder a ep) es)[i]?=aV e/\v=e.2) (λi h=>(∃sl:Nat,pT h I (qf (sl:Nat)) i a es.size ep)/\SetB w h a es ep t) where
 sub:=λb B=>by simp at B;simp[B]
 frame:=λ_ _ _ x hk=>⟨let ⟨sl,q⟩:=x.1;⟨sl,hk I (by simp) _ q⟩,x.2.at λo q=>hk a (by simp) o q⟩
 item:=λi s Q E hi x G=>by
  obtain⟨⟨sl,O⟩,S⟩:=x;have C:(pickOrder (w.params.setOrder a ep) es).size=es.size:=by
   have:=(QJ (w.params.setOrder a ep) es).length_eq;simpa using this
  have U:(pickOrder (w.params.setOrder a ep) es)[i]?=aV ((pickOrder (w.params.setOrder a ep) es)[i]'(by lia)):=h8 (by lia);refine U0 S O (.inl ⟨sl,rfl,?_⟩);unfold setNext;refine ab (n9 S.ob rfl S.fit ?_);unfold setsByText;refine ab (ab (z8 (ag ?_)));show fj _ _ (if w.params.followText "set-order" = cf then _ else _) _ _ _;rw[Y];simp only[if_true,bne_self_eq_false,ft,if_false];refine ab ?_;unfold setWalk;refine ab (n9 S.ob rfl S.fit ?_);unfold setsByText;refine ab (ab (z8 (ag ?_)));show fj _ _ (if w.params.followText "set-order" = cf then _ else _) _ _ _;rw[Y];simp only[if_true];refine ab (z8 (ag ?_));show fj _ _ (pure (((pickOrder (w.params.setOrder a ep) es)[i]?).map λe=>(e.2,sl))) _ _ _;rw[U];refine ag ⟨rfl,.inl ⟨_,sl,rfl,λh' xD Z=>?_⟩⟩;exact G _ h' s.toks ⟨_,U,rfl⟩ ⟨⟨sl,xD⟩,S.at λo q=>Z.extBut _ _ dq q⟩ λb o B e=>Z.extBut b o (λz=>B (by simp[z])) e
 done:=λs Q E x G=>by
  obtain⟨⟨sl,O⟩,S⟩:=x;have C:(pickOrder (w.params.setOrder a ep) es).size=es.size:=by
   have:=(QJ (w.params.setOrder a ep) es).length_eq;simpa using this
  have U:(pickOrder (w.params.setOrder a ep) es)[es.size]?=a0:=by simp[C]
  refine U0 S O (.inl ⟨sl,rfl,?_⟩);unfold setNext;refine ab (n9 S.ob rfl S.fit ?_);unfold setsByText;refine ab (ab (z8 (ag ?_)));show fj _ _ (if w.params.followText "set-order" = cf then _ else _) _ _ _;rw[Y];simp only[if_true,bne_self_eq_false,ft,if_false];refine ab ?_;unfold setWalk;refine ab (n9 S.ob rfl S.fit ?_);unfold setsByText;refine ab (ab (z8 (ag ?_)));show fj _ _ (if w.params.followText "set-order" = cf then _ else _) _ _ _;rw[Y];simp only[if_true];refine ab (z8 (ag ?_));show fj _ _ (pure (((pickOrder (w.params.setOrder a ep) es)[es.size]?).map λe=>(e.2,sl))) _ _ _;rw[U];exact ag ⟨rfl,.inr ⟨rfl,hA,λh' hk=>G h' s.toks λb o B e=>hk b o (λz=>B (by simp[z])) e⟩⟩
 self:=λ_ _ _ _ x G=>let ⟨⟨sl,O⟩,_⟩:=x;j6 O G
theorem Walks.X9(hA:A.handled=a0){T:Addr}{ys:List Nat}(dq:a≠I)(hT:T≠I)(Y:ys.Perm (iS es.size)):Walks prog w A I [I,a,T] [I] es.size (λi v=>∃(p:Nat) (e:Int×Value),ys[i]?=aV p/\es[p]?=aV e/\v=e.2) (λi h=>pT h I (.ref T) i a es.size ep/\SetB w h a es ep t/\h.IsTuple T (ys.map λ(p:Nat)=>qf p).toArray) where
 sub:=λb B=>by simp at B;simp[B]
 frame:=λ_ _ _ x hk=>⟨hk I (by simp) _ x.1,x.2.1.at λo q=>hk a (by simp) o q,let ⟨o,e,c⟩:=x.2.2;⟨o,hk T (by simp) _ e,c⟩⟩
 item:=λi s Q E hi x C=>by
  obtain⟨Z,S,G⟩:=x;have hl:ys.length=es.size:=by rw[Y.length_eq,qw]
  have U:i<ys.length:=by lia
  have hp:ys[i]<es.size:=my.mp (Y.mem_iff.mp (List.getElem_mem U));refine U0 S Z (.inr ⟨T,_,rfl,G,.inl ⟨ys[i],0,es[ys[i]],by simp[U,qf],by simp[hp],λh' xD O=>?_⟩⟩);exact C _ h' s.toks ⟨_,_,eg U,by simp[hp],rfl⟩ ⟨xD,S.at λo q=>O.extBut _ _ dq q,let ⟨o,e,c⟩:=G;⟨o,O.extBut _ _ hT e,c⟩⟩ λb o B e=>O.extBut b o (λz=>B (by simp[z])) e
 done:=λs Q E x C=>by
  obtain⟨Z,S,G⟩:=x;have hl:ys.length=es.size:=by rw[Y.length_eq,qw]
  refine U0 S Z (.inr ⟨T,_,rfl,G,.inr ⟨by simp[hl],hA,λh' hk=>C h' s.toks λb o B e=>hk b o (λz=>B (by simp[z])) e⟩⟩)
 self:=λ_ _ _ _ x C=>j6 x.1 C
theorem Walks.Yb(Z:w.params.followText "set-order" = en)(hA:A.handled=a0)(dq:a≠I)(h1:(!t.plain&&eH (es.size > 1))=en)(B:∀i≤t.place.size,SetTable.below t.place (aU t.place.toList i)=i):Walks prog w A I [I,a] [I] es.size (λi v=>∃e,es[i]?=aV e/\v=e.2) (λi h=>pT h I (qf (aU t.place.toList i:Nat)) i a es.size ep/\SetB w h a es ep t):=by
 have U:∀{h:Heap},SetB w h a es ep t->t.place.size=es.size:=λS=>by
  have:=S.fit;simp only[SetTable.fits,gS,beq_iff_eq]at this;exact this.1
 have nx:∀{i:Nat} {s:fu} {R:Option (Value×Nat)->fu->Prop},SetB w s.heap a es ep t->i<=es.size->R (match es[i]?,t.place[i]? with | some (_,x),aV j=>aV (x,j+1) | _,_=>a0) s->fj (gx prog w) A.in1 (setNext a (aU t.place.toList i) i ep) R (λ_ _=>False) s:=by
  intro i s R S hi q;have vx:t.led=cf:=by rw[S.led,Z];rfl
  unfold setNext;refine ab (n9 S.ob rfl S.fit ?_);unfold setsByText;refine ab (ab (z8 (ag ?_)));show fj _ _ (if w.params.followText "set-order" = cf then _ else _) _ _ _;rw[Z];simp only[ft,if_false];show fj _ _ (if (!t.plain&&eH (es.size > 1))=cf then _ else _) _ _ _;rw[h1,ak (by simp)];refine ab ?_;show fj _ _ (if (!t.led&&!es.isEmpty)=cf then _ else _) _ _ _;rw[ak (by simp[vx])];refine ag ?_;show fj _ _ (pure (match es[SetTable.below t.place (aU t.place.toList i)]?,t.place[SetTable.below t.place (aU t.place.toList i)]? with | some (_,x),aV j=>aV (x,j+1) | _,_=>a0)) _ _ _;rw[B i (by rw[U S];exact hi)];exact ag q
 refine⟨λb B=>by simp at B;simp[B],λ_ _ _ x hk=>⟨hk I (by simp) _ x.1,x.2.at λo q=>hk a (by simp) o q⟩,λi s Q E hi x C=>?_,λs Q E x C=>?_,λ_ _ _ _ x C=>j6 x.1 C⟩
 .obtain⟨G,S⟩:=x
  have Y:i<t.place.size:=by rw[U S];exact hi
  refine U0 S G (.inl ⟨_,rfl,nx S (mf hi) ?_⟩);rw[h8 hi,h8 Y];refine⟨rfl,.inl ⟨_,_,rfl,λh' xD O=>C _ h' s.toks ⟨_,h8 hi,rfl⟩ ⟨?_,S.at λo q=>O.extBut _ _ dq q⟩ λb o B e=>O.extBut b o (λz=>B (by simp[z])) e⟩⟩;have:aU t.place.toList (i+1)=t.place[i]+1:=by simp[aU,js,Y]
  rw[this];exact xD
 .obtain⟨G,S⟩:=x
  refine U0 S G (.inl ⟨_,rfl,nx S (a8 _) ?_⟩);rw[Array.getElem?_eq_none (a8 _)];exact⟨rfl,.inr ⟨rfl,hA,λh' hk=>C h' s.toks λb o B e=>hk b o (λz=>B (by simp[z])) e⟩⟩
end
end PySem
namespace PySem
section
variable{es:Array (Int×Value)}{ep:Nat}{t:SetTable}
def SF(prog:Program)(w:wy)(es:Array (Int×Value))(a I:Addr)(h':Heap)(C:Nat):Prop:=∃(fp:List Addr) (P:Nat->Value->Prop) (St:Nat->Heap->Prop),(∀A:Around,A.handled=a0->Walks prog w A I fp [I] es.size P St)/\St 0 h'/\(∀b∈fp,b<h'.objs.size)/\C<=I/\(∀b∈fp,b=a\/C<=b)/\(∀B,ItemsOf P B es.size->B.toList.Perm (es.toList.map (·.2)))
theorem VJ{P:Nat->Value->Prop}{acc:Array Value}{L:List Value}(h:ItemsOf P acc n)(B:L.length=n)(hp:∀i v,P i v->L[i]?=aV v):acc.toList=L:=by
 apply yv;intro i
 by_cases hi:i<acc.size
 .have e:acc[i]?=aV acc[i]:=h8 hi
  rw[gz,e];exact(hp i _ (h.2 i _ e)).symm
 .have:=h.1
  rw[kv (by rw[di];lia),kv (by lia)]
theorem SetB.xn(S:SetB w h a es ep t)(B:(!t.plain&&eH (es.size > 1))=en):∀i≤t.place.size,SetTable.below t.place (aU t.place.toList i)=i:=by
 have G:=S.fit;simp only[SetTable.fits,gS,beq_iff_eq]at G;rcases S.pl with q | q
 .have C:t.place.size<=1:=by
   rw[q]at B;simp at B;lia
  obtain⟨m,⟨p⟩,d,f,l,v,u⟩:=t
  match p,C with
  | [],_=>intro i hi;simp at hi;subst hi;rfl
  | [j],_=>
   intro i hi;have:i=0\/i=1:=by simp at hi;lia
   rcases this with rfl | rfl<;>simp[SetTable.below,SetTable.below.go,aU]
 .exact q
theorem MB(S:SetB w s.heap a es ep t)(hle:es.size<=1000)(h:∀I h' d',SF prog w es a I h' s.heap.objs.size->(∀b o,s.heap.get? b=aV o->h'.get? b=aV o)->h'.objs.size<=s.heap.objs.size+2->Q (.ref I) { s with heap:=h',drawn:=d' }):fj (gx prog w) A (pyIter (.ref a)) Q E s:=by
 have hT:s.TypeIs (.ref a) "set":=⟨_,S.ob,rfl⟩
 have Z:=bg S.ob;refine wpAny_pyIter_slot hT F.slot_set_iter (kg F.slot_set_iter hT F.Yi ?_ (F.args_set_iter_1 _));unfold Builtin.«frozenset.__iter__»;refine ab (wpAny_of_eq (a:=a) rfl ?_);unfold Builtin.Frozenset.sizeOf;refine ab (ab (wpAny_setEntries_of S.ob rfl S.fit (ag ?_)));have plain:∀(B:Bool),w.params.followText "set-order" = B->(B=cf\/(!t.plain&&eH (es.size > 1))=en)->∀d':Drawn,fj (gx prog w) A.in1 (newFields "set_iterator" [qf 0,qf 0,.ref a,qf es.size,qf ep] >>= λit=>ret it) (λfin s'=>∃v,fin=Fin.done (.ret v)/\∃T m,s'.TypeIs v T/\typeLookup (.type T) "__next__" = pure (aV m)/\Q v s') E { s with drawn:=d' }:=by
  intro B hB yj d';unfold newFields;refine ab (kn (ag ⟨_,rfl,"set_iterator",_,⟨_,dm _ rfl,rfl⟩,F.zd.lookup,?_⟩));have hI:pT (s.heap.push { cls:=.type "set_iterator",data:=.fields #[qf 0,qf 0,.ref a,qf es.size,qf ep] }) s.heap.objs.size (qf 0) 0 a es.size ep:=dm _ rfl;have kp:∀b o,s.heap.get? b=aV o->(s.heap.push { cls:=.type "set_iterator",data:=.fields #[qf 0,qf 0,.ref a,qf es.size,qf ep] }).get? b=aV o:=λb o e=>cx _ e
  have hz:(s.heap.push { cls:=.type "set_iterator",data:=.fields #[qf 0,qf 0,.ref a,qf es.size,qf ep] }).objs.size=s.heap.objs.size+1:=kS ..;have xx:∀b∈[s.heap.objs.size,a],b<(s.heap.push { cls:=.type "set_iterator",data:=.fields #[qf 0,qf 0,.ref a,qf es.size,qf ep] }).objs.size:=λb C=>by
   rw[hz];rcases cq C with q | q
   .rw[q];exact qd _
   .rw[fw q];exact jn Z
  have Hz:∀b∈[s.heap.objs.size,a],b=a\/s.heap.objs.size<=b:=λb C=>by
   rcases cq C with q | q
   .exact .inr (by rw[q];exact a8 _)
   .exact .inl (fw q)
  refine h _ _ d' ?_ kp (by rw[hz];exact oo _);cases B with
  | true=>
   refine⟨_,_,_,λA U=>Walks.Yc (t:=t) hB U (cc Z),⟨⟨0,hI⟩,S.at λo q=>kp _ _ q⟩,xx,a8 _,Hz,λacc Y=>?_⟩;have hp:=QJ (w.params.setOrder a ep) es;rw[VJ (L:=(pickOrder (w.params.setOrder a ep) es).toList.map (·.2)) Y (by rw[a6,hp.length_eq,di]) λi v ⟨e,q1,q2⟩=>by rw[fc,gz,q1,q2];rfl];exact hp.map _
  | false=>
   have h1:=yj.resolve_left λq=>by cases q
   refine⟨_,_,_,λA U=>Walks.Yb (t:=t) hB U (cc Z) h1 (S.xn h1),⟨hI,S.at λo q=>kp _ _ q⟩,xx,a8 _,Hz,λacc Y=>?_⟩;rw[VJ (L:=es.toList.map (·.2)) Y (by simp) λi v ⟨e,q1,q2⟩=>by rw[fc,gz,q1,q2];rfl]
 refine ab ?_;unfold setDrawn;refine ab (n9 S.ob rfl S.fit ?_);unfold setsByText;refine ab (ab (z8 (ag (ag ?_))));show fj _ _ (if (!w.params.followText "set-order"&&(!t.plain&&eH (es.size > 1)))=cf then _ else _) _ _ _
 by_cases hd:(!w.params.followText "set-order"&&(!t.plain&&eH (es.size > 1)))=cf
 .rw[ah hd]
  refine ab (cU es.size _ _ _ (by simp) λys d' hp=>?_);refine ab (wpAny_newTuple (hsz:=by rw[a6,hp.length_eq,qw];exact fN hle (by decide)) ?_);generalize De:s.heap.push { cls:=.type "tuple",data:=.seq (ys.map λ(p:Nat)=>qf p).toArray }=G;have Jr:∀b o,s.heap.get? b=aV o->G.get? b=aV o:=λb o e=>by rw[<-De];exact cx _ e
  have xF:G.IsTuple s.heap.objs.size (ys.map λ(p:Nat)=>qf p).toArray:=by rw[<-De];exact⟨_,dm _ rfl,rfl,_,rfl⟩
  have O:G.objs.size=s.heap.objs.size+1:=by rw[<-De];exact kS ..
  have S1:SetB w G a es ep t:=S.at λo q=>Jr _ _ q
  refine ab (wpAny_setEpoch_of (s:={ s with heap:=G,drawn:=d' }) S1.ob rfl S.fit ?_);unfold newFields;refine ab (kn (ag ⟨_,rfl,"set_iterator",_,⟨_,dm _ rfl,rfl⟩,F.zd.lookup,?_⟩));generalize Aw:G.push { cls:=.type "set_iterator",data:=.fields [.ref s.heap.objs.size,qf 0,.ref a,qf es.size,qf ep].toArray }=H2;have Ej:∀b o,G.get? b=aV o->H2.get? b=aV o:=λb o e=>by rw[<-Aw];exact cx _ e
  have hI:pT H2 G.objs.size (.ref s.heap.objs.size) 0 a es.size ep:=by rw[<-Aw];exact dm _ rfl
  have vT:H2.objs.size=s.heap.objs.size+2:=by rw[<-Aw,kS,O]
  refine h _ H2 d' ⟨_,_,_,λA U=>Walks.X9 (t:=t) U (T:=s.heap.objs.size) (by rw[O];exact cc (jn Z)) (by rw[O];exact cc (qd _)) hp,⟨hI,S1.at λo q=>Ej _ _ q,let ⟨o,e,c⟩:=xF;⟨o,Ej _ _ e,c⟩⟩,λb C=>?_,by rw[O];exact oo _,λb C=>?_,λacc Y=>?_⟩ (λb o e=>Ej b o (Jr b o e)) (by rw[vT];exact a8 _)
  .rw[vT]
   simp only[h7,jI,or_false]at C;rcases C with rfl | rfl | rfl
   .rw[O];exact qd _
   .exact jn (jn Z)
   .exact jn (qd _)
  .simp only[h7,jI,or_false]at C
   rcases C with rfl | rfl | rfl
   .right;rw[O];exact oo _
   .exact .inl rfl
   .exact .inr (a8 _)
  .have hl:ys.length=es.size:=by rw[hp.length_eq,qw]
   rw[VJ (L:=ys.map λp=>(es.toList.map (·.2)).getD p .none) Y (by rw[a6,hl]) λi v ai=>by
    obtain⟨p,e,q1,q2,q3⟩:=ai;rw[fc,q1,q3];have:(es.toList.map (·.2))[p]?=aV e.2:=by rw[fc,gz,q2];rfl
    simp only[j2,js,this,Option.getD_some]]
   refine(hp.map _).trans ?_;have:(iS es.size).map (λp=>(es.toList.map (·.2)).getD p ye)=es.toList.map (·.2):=by
    apply yv;intro i
    by_cases hi:i<es.size
    .rw[fc,List.getElem?_range hi]
     simp[js,hi]
    .rw[kv (by simp;lia),kv (by simp;lia)]
   rw[this]
 .rw[ak hd]
  refine ab (ag (ab (wpAny_setEpoch_of S.ob rfl S.fit ?_)));refine plain _ rfl ?_ s.drawn;cases hB:w.params.followText "set-order" with
  | true=>exact .inl rfl
  | false=>rw[hB]at hd;exact .inr (by simpa using hd)
end
end PySem
namespace PySem
section
variable{es:Array (Int×Value)}{ep:Nat}{t:SetTable}
theorem Mo(S:SetB w h a es ep t)(hs:s.heap=h){Q:Bool->fu->Prop}(q:Q en s):fj (gx prog w) A (t8 (.ref a)) Q E s:=by
 have B:s.TypeIs (.ref a) "set":=⟨_,by rw[hs];exact S.ob,rfl⟩
 unfold t8;refine ab (va B F.slot_set_len.lookup ?_);generalize G:("set.__len__" : String)=Eb
 wp_delta
 rw[show splitId Eb=aV ("set","__len__") from by subst G;decide +kernel];subst G;refine ab (zk (T:="set") (b:=cf) B sub_set_self ?_);refine wpAny_ite_split (λC=>absurd C (by decide)) (λ_=>?_);refine wpAny_ite_split (λ_=>?_) (λC=>absurd (by decide +kernel) C);exact ab (vz B (ag q))
theorem bL(S:SetB w s.heap a es ep t)(U:es.size<=1000)(hh:A.handled=a0){R:List Value->fu->Prop}(h:∀(h':Heap) (tk:Nat) (d':Drawn) (acc:Array Value),(∀b o,s.heap.get? b=aV o->h'.get? b=aV o)->acc.toList.Perm (es.toList.map (·.2))->R acc.toList { s with heap:=h',toks:=tk,drawn:=d' }) :
  fj (gx prog w) A (collect (.ref a)) R E s:=by
 have b8:=bg S.ob;unfold collect;refine ab (yu (jc PyProof.Rows.entry_proto_collect' ?_));rw[j3 PySem.F.plain_proto_collect _];show fj _ A.in1 (newList [] >>= λl=>again (.builtin "list.__iadd__" ⟨[l,.ref a],[]⟩)) _ _ s;refine ab (kn ?_);refine ag ⟨rz PySem.F.plain_list_iadd _,jc PyProof.Rows.entry_list_iadd' ?_⟩;rw[j3 PySem.F.plain_list_iadd _];show fj _ A.in1 (ub (.ref s.heap.objs.size) (.ref a) (.ref s.heap.objs.size)) _ _ _;generalize hH:s.heap.push { cls:=.type "list",data:=.seq ([]:List Value).toArray }=G;have hL:G.get? s.heap.objs.size=aV { cls:=.type "list",data:=.seq #[] }:=by rw[<-hH];exact dm _ rfl
 have k1:∀b o,s.heap.get? b=aV o->G.get? b=aV o:=λb o e=>by rw[<-hH];exact cx _ e
 have qx:G.objs.size=s.heap.objs.size+1:=by rw[<-hH];exact kS ..
 have S1:SetB w G a es ep t:=S.at λo q=>k1 _ _ q
 unfold ub;refine ab (vz (T:="set") ⟨_,S1.ob,rfl⟩ ?_);rw[ak (by simp[Builtin.List.listSameRef,iz b8])];refine ab (MB (s:={ s with heap:=G }) S1 U λI C d' ⟨fp,P,St,W,st,aag,VS,yj,qt⟩ k2 _=>?_);have Ax:s.heap.objs.size∉fp:=λhm=>by
  rcases yj _ hm with q | q
  .exact absurd q (iz b8)
  .have:G.objs.size<=s.heap.objs.size:=q
   rw[qx]at this;exact absurd this (Nat.not_succ_le_self _)
 have hI:s.heap.objs.size<I:=by
  have:G.objs.size<=I:=VS;rw[qx]at this;exact this
 have oz:C.get? s.heap.objs.size=aV { cls:=.type "list",data:=.seq #[] }:=k2 _ _ hL;have S2:SetB w C a es ep t:=S1.at λo q=>k2 _ _ q
 have O:∀(Y:Heap) (c:Nat),St 0 Y->(∀b o,b≠s.heap.objs.size->C.get? b=aV o->Y.get? b=aV o)->Y.get? s.heap.objs.size=aV { cls:=.type "list",data:=.seq #[] c }->
   codeAny (gx prog w) A (.builtin "list.extend.loop" ⟨[.ref s.heap.objs.size,.ref I,.ref s.heap.objs.size],[]⟩) (λr c8=>match r with | .ok (.ret v)=>fj (gx prog w) A (match v with | .ref x=>load x >>= λo=>(match o.data with | .seq xs _=>pure xs.toList | _=>unsupported "internal:collect") | _=>unsupported "internal:collect") R E c8 | .ok _=>False | .error e=>E e c8) { s with heap:=Y,drawn:=d' }:=by
  intro Y c Bh k3 Z;refine codeAny_extend_loopS ((W A.in1 (by simp[hh])).toS) (fN U (by decide)) _ Ax _ es.size 0 _ #[] c rfl (eC _) Bh Z (ItemsOf.nil _) λs' ic dh hm ko gq=>?_
  rw[Moved.eq_with hm];show fj _ A (load s.heap.objs.size >>= _) _ _ _;refine ab (wpAny_load ko (ag (h s'.heap s'.toks d' ic (λb o e=>?_) (qt ic gq))));have B:b<s.heap.objs.size:=bg e;refine hm.heap b o (λz=>?_) (k3 b o (cc B) (k2 b o (k1 b o e)));rcases cq z with z | z
  .exact absurd z (cc B)
  .rw[fw z]at B
   exact absurd (L4 hI B) (iA _)
 refine ab (fg (Mo (s:={ s with heap:=C,drawn:=d' }) S2 rfl ?_));refine wpAny_ite_split (λ_=>?_) (λ_=>ag ⟨rz sx _,O C 0 st (λb o _ e=>e) oz⟩);refine ab (mE ?_);refine ab ?_;show fj _ _ (updateSeq s.heap.objs.size (·.push .none) >>= λ_=>updateSeq s.heap.objs.size (·.pop)) _ _ _;refine ab (wpAny_updateSeq (s:={ s with heap:=C,drawn:=d' }) oz rfl ?_);have Z:=nv (sX (·.push ye)) oz rfl;refine wpAny_updateSeq (hz:=by seq_fits) Z rfl ?_;have Df:=nv (sX (·.pop)) Z rfl;have k4:∀b o,b≠s.heap.objs.size->C.get? b=aV o->((C.update s.heap.objs.size (sX (·.push ye))).update s.heap.objs.size (sX (·.pop))).get? b=aV o:=λb o B e=>(wh _ _ (Ne.symm B)).trans ((wh _ _ (Ne.symm B)).trans e)
 exact ag ⟨rz sx _,O _ _ ((W A hh).frame 0 _ _ st λb B o e=>k4 b o (λz=>Ax (z▸B)) e) k4 Df⟩
end
end PySem
namespace L2
open PySem PySem.Spec PyProof.Rows
theorem xW{l:List (Int×Value)}{acc:List Value}(hs:SE w l)(hp:acc.Perm (l.map (·.2))):Vals ((acc.map sM).map kV) acc/\(acc.map sM).Perm (l.map gj):=by
 have one:∀v∈acc,RelV (kV (sM v)) v:=λv U=>by
  obtain⟨e,Y,rfl⟩:=ck (hp.mem_iff.mp U);obtain⟨k,C,_⟩:=hs e Y;rw[(nZ C).1];rcases FT C with ⟨i,t,rfl,e⟩ | ⟨x,t,rfl,e⟩<;>exact⟨t,e⟩
 have B:∀vs:List Value,(∀v∈vs,RelV (kV (sM v)) v)->Vals ((vs.map sM).map kV) vs:=λvs=>by
  induction vs with
  | nil=>exact λ_=>.nil
  | cons v r G=>exact λh=>.cons (h v bw) (G λy O=>h y (bx _ O))
 have:=hp.map sM;rw[b6]at this;exact⟨B acc one,this⟩
def wt(b:Bool)(k:Key):Prop:=k.isRight=b
def Ba:Bool->List Key->Prop
 | true,ks=>∃ss,ks=ss.map .inr/\sortedS ss=cf
 | false,ks=>∃ns:List Int,ks=ns.map .inl/\ns.Pairwise (·<=·)
theorem ty_map{b:Bool}:∀{ks:List Key},(∀k∈ks,wt b k)->(b=cf/\∃ss:List Str,ks=ss.map .inr)\/(b=en/\∃ns:List Int,ks=ns.map .inl)
 | [],_=>by
  cases b
  .exact .inr ⟨rfl,[],rfl⟩
  .exact .inl ⟨rfl,[],rfl⟩
 | k::r,h=>by
  have B:k.isRight=b:=h k bw;rcases ty_map λx C=>h x (bx _ C) with ⟨rfl,ss,rfl⟩ | ⟨rfl,ns,rfl⟩
  .cases k with
   | inl i=>cases B
   | inr x=>exact .inl ⟨rfl,x::ss,rfl⟩
  .cases k with
   | inl i=>exact .inr ⟨rfl,i::ns,rfl⟩
   | inr x=>cases B
theorem Yn{b:Bool}(B:Vals (ks.map kV) vs)(ht:∀k∈ks,wt b k)(d5:vs.length<64)(ho:s.heap.get? a=aV (seqObj "list" vs.toArray 0)){P:Fin->fu->Prop}(h:∀(out:Array Value) (Y:List Key),Vals (Y.map kV) out.toList->Y.Perm ks->Ba b Y->P (.done (.ret .none)) { s with heap:=sortedHeap s.heap a vs out }):fj (gx prog w) A (Builtin.«list.sort» ⟨[.ref a],[]⟩) P E s:=by
 rcases ty_map ht with ⟨rfl,ss,rfl⟩ | ⟨rfl,ns,rfl⟩
 .rw[b6]at B
  have C:StrsAre vs ss:=bI B;refine list_sort_treeK strKind_oneLt ho C.keysOf (λYy Yz rest e=>keyKind_strs (by rw[<-e];exact C)) d5 λiO hp hs=>?_
  obtain⟨h9,U,O,G⟩:=sorted_out_str C hp hs;refine h _ (h9.map .inr) ?_ (O.map _) ⟨h9,rfl,G⟩;rw[b6];exact Y9 U
 .rw[b6]at B
  refine list_sort_tree ho (intsAre_of B) d5 λout Z U O G=>h out (Z.map .inl) ?_ (O.map _) ⟨Z,rfl,G⟩
  rw[b6];exact eZ U
theorem wW{b:Bool}{es:Array (Int×Value)}{ep:Nat}{t:SetTable}(S:lR w s.heap a es ep t)(Z:∀k∈es.toList.map gj,wt b k)(d5:es.size<64)(hh:A.handled=a0)(h:∀(B h':Heap) (C:Nat) (d':Drawn) (D:Addr) (out:Array Value) (ks:List Key) (c:Nat),(∀b o,s.heap.get? b=aV o->B.get? b=aV o)->D=B.objs.size->(∀b o,B.get? b=aV o->h'.get? b=aV o)->h'.get? D=aV { cls:=.type "list",data:=.seq out c }->Vals (ks.map kV) out.toList->ks.Perm (es.toList.map gj)->Ba b ks->
   Q (.ref D) { s with heap:=h',toks:=C,drawn:=d' }):fj (gx prog w) A (call (.builtin "sorted") [.ref a]) Q E s:=by
 refine vo kind_sorted plain_sorted entry_sorted (args_sorted1 _) ?_;unfold Builtin.«sorted»;refine ab (m:=checkCount "sorted" 1 1 _) (ag ?_);refine ab (bL (A:=A.in1) S.toSetB (by lia) (by simp[hh]) λB C d' acc Y O=>?_);obtain⟨hS,IE⟩:=xW S.se O;have hl:acc.toList.length=es.size:=by rw[O.length_eq,a6,di]
 refine ab (t5 ?_ (by rw[hl,fS];lia));have G:(B.push (seqObj "list" acc.toList.toArray 0)).get? B.objs.size=aV (seqObj "list" acc.toList.toArray 0):=dm _ rfl;refine ab (fg (kg slot_list_sort ⟨_,G,rfl⟩ entry_list_sort (Yn hS (λk hk=>Z k (IE.mem_iff.mp hk)) (by rw[hl];exact d5) G λout ks g1 g2 g3=>⟨_,rfl,?_⟩) (args_list_sort _)));refine ag ⟨_,rfl,?_⟩;obtain⟨c,hc⟩:=sortedHeap_at (vs:=acc.toList) (out:=out) G;refine h B _ C d' _ _ ks c Y rfl (λb o e=>?_) hc g1 (g2.trans IE) g3;have U:b<B.objs.size:=bg e;rw[sortedHeap_old (cc U) (by rw[kS];exact jn U)];exact cx _ e
theorem Inv.drawn{pi:List (Addr×Obj)}{σ:St}{H:Hp}{s:fu}(I:Inv X pi σ H s)(d':Drawn):Inv X pi σ H { s with drawn:=d' }:=
 I.step (h':=s.heap) (t':=s.toks) (g':=s.gens) (d':=d') (ch:=[]) (λ_ z=>nomatch z) (λb o _ _ _ e _=>e) (λb o _ _ _ e _=>⟨o.slots,e⟩) (λ_ _ _ _ n=>n) (λb o _ e=>⟨o,e⟩) (λ_ _ e=>e) (λ_ _ _ e=>e) (λb ps e=>⟨#[],by rw[e];simp⟩) (λm B=>B) I.aS I.bare
def W8(b:Bool)(K:p5)(vs:List V)(B:Hp)(Q:VK):Prop:=∃(a:Addr) (xs:List Key),vs=[V.ref a]/\cg K B a (xs.map kV)/\xs.length<=4000/\(∀x∈xs,wt b x/\((∃y,x=.inr y)\/x∈aN))/\(∀ys:List Key,ys.Nodup->(∀y,y∈ys↔y∈xs)->ys.length<64)/\
 ∀(p:Addr) (ks:List Key),B p=a0->ks.Nodup->(∀y,y∈ks↔y∈xs)->Ba b ks->Q (.ref p) (upd B p (.lst (ks.map kV)))
theorem WQ{b:Bool}(hc:X.calm=cf)(fT:Gl X "sorted")(dE:X.mg "sorted" = a0)(f6:Gl X "set")(fI:X.mg "set" = a0)(he:PE X e te)(cv:gm [Expr.Call (.Name "set" p2) [e] [] q2] X.env=[(en,eval (.Call (.Name "set" p2) [e] [] q2) X.env)]:=by rfl)(c6:gm [e] X.env=[(en,eval e X.env)]:=by rfl) :
  PE X (.Call (.Name "sorted" p1) [.Call (.Name "set" p2) [e] [] q2] [] q1) (λ σ H Q=>te σ H λx B=>W8 b X.K [x] B Q):=by
 intro pi s σ H Q I h;refine Call_ (K4 I fT dE boot_sorted (XH ?_ cv rfl));have C:fj (gx X.prog X.w) X.A (eval (.Call (.Name "set" p2) [e] [] q2) X.env)
   (λv s1=>∃(S:Addr) (xs:List Key) (es:Array (Int×Value)) (ep:Nat) (t:SetTable) (B:Hp),v=.ref S/\Inv X pi σ B s1/\lR X.w s1.heap S es ep t/\(∀y,y∈es.toList.map gj↔y∈xs)/\(∀x∈xs,wt b x)/\(∀ys:List Key,ys.Nodup->(∀y,y∈ys↔y∈xs)->ys.length<64)/\
    ∀(p:Addr) (ks:List Key),B p=a0->ks.Nodup->(∀y,y∈ks↔y∈xs)->Ba b ks->Q (.ref p) (upd B p (.lst (ks.map kV)))) X.xe s:=by
  refine Call_ (K4 I f6 fI boot_set (l5 (a9 (GK he JC c6 q2 pi s σ H (λvs B=>W8 b X.K vs B Q) I ?_) λus s1 ⟨vs,B,G,r1,q1⟩=>?_) c6 rfl))
  .exact h
  .obtain⟨a,xs,rfl,hq,hl,U,d5,q⟩:=q1
   obtain⟨u,rfl,ru⟩:=r1.one;cases ru;obtain⟨its,rv,pl,hz⟩:=G.list hq;have DF:=rv.length;rw[a6]at DF;refine Mq (G.ok.hd hc) pl.isList rv (λx Y=>(U x Y).2) (by show its.length+1<4096;lia) λh' O es ep t g1 g2 g3 g4=>?_
   exact⟨_,xs,es,ep,t,B,rfl,G.kept g4,g1,g3,λx Y=>(U x Y).1,d5,q⟩
 rw[cv];refine ny (a9 C λv s1 ai=>?_);obtain⟨S,xs,es,ep,t,B,ev,G,hS,Z,U,d5,q⟩:=ai;refine qh ?_;subst ev;have hz:es.size<64:=by
  have:=d5 _ hS.nd Z;rw[a6,di]at this;exact this
 refine wW hS (λk hk=>U k ((Z k).mp hk)) hz (G.ok.hd hc) λh1 h' O d' D out ks c k1 eD k2 hD hO hp hs=>?_
 subst eD;have I2:Inv X pi σ B { s1 with heap:=h1,toks:=O,drawn:=d' }:=(G.kept (t':=O) k1).drawn d';have I3:Inv X pi σ (upd B h1.objs.size (.lst (ks.map kV))) { s1 with heap:=h',toks:=O,drawn:=d' }:=I2.laid (t':=O) (λb o e=>k2 b o e) (a8 _) ⟨?_,out.toList,c,hO,by simpa using hD⟩
 .exact⟨.ref _,_,I3,rfl,q _ ks (I2.aS.fresh (a8 _)) (hp.nodup_iff.mpr hS.nd) (λy=>by rw[hp.mem_iff];exact Z y) hs⟩
 .rw[a6,hp.length_eq,a6,di,fS]
  lia
end L2
namespace WL
open PySem PySem.Spec PyProof.Rows L2
theorem Bu{x:Str}:∀{l:List Str},x∈uniq l↔x∈l
 | []=>by simp[uniq]
 | y::r=>by
  rw[uniq]
  by_cases h:y∈r
  .rw[ah h,Bu,h7]
   exact⟨.inr,λq=>q.elim (λe=>e▸h) id⟩
  .rw[ak h,h7,h7,Bu]
theorem iV:∀l:List Str,(uniq l).Nodup
 | []=>lu
 | y::r=>by
  rw[uniq]
  by_cases h:y∈r
  .rw[ah h];exact iV r
  .rw[ak h];exact List.nodup_cons.mpr ⟨λq=>h (Bu.mp q),iV r⟩
theorem YB{l ys:List Str}(B:ys.Nodup)(C:∀y,y∈ys↔y∈l):ys.Perm (uniq l):=
 (xA B (iV l)).mpr λy=>by rw[C,Bu]
theorem aG{K:p5}{ρ:List Addr}{H:Hp}:∀l:List Str,a7 K ρ H (l.map D.str) (l.map V.str)
 | []=>rfl
 | x::r=>⟨_,_,rfl,rfl,aG r⟩
theorem BH{α β:Type}{f:α->β}{l:List α}(h:(l.map f).Nodup):l.Nodup:=List.Pairwise.of_map f (λa b z e=>z (congrArg f e)) h
theorem qX{α:Type}{f:α->Key}(O:∀a b,f a=f b->a=b){B ss:List α}(G:∀y,y∈B.map f↔y∈ss.map f)(z:α):z∈B↔z∈ss:=by
 have one:∀{l:List α},f z∈l.map f↔z∈l:=λ {l}=>⟨λh=>by
  obtain⟨y,C,e⟩:=ck h;exact O _ _ e▸C,λh=>gh h⟩
 rw[<-one,G,one]
section
variable{a:Expr}
theorem j8(ha:PE X a (tD C X.K pa))(mu:Bool:=en)(Z:X.calm=cf:=by kernel_rfl)(fT:Gl X "sorted":=by kernel_rfl)(dE:X.mg "sorted" = a0:=by assumption)(f6:Gl X "set":=by kernel_rfl)(fI:X.mg "set" = a0:=by assumption)(cv:gm [Expr.Call (.Name "set" p2) [a] [] q2] X.env=[(en,eval (.Call (.Name "set" p2) [a] [] q2) X.env)]:=by kernel_rfl)(c6:gm [a] X.env=[(en,eval a X.env)]:=by kernel_rfl):
  PE X (.Call (.Name "sorted" p1) [.Call (.Name "set" p2) [a] [] q2] [] q1) (tD C X.K (.b1 (.Bg mu) pa)):=
 V9 (r:=λx H1 Q=>W8 cf X.K [x] H1 Q) (f:=cw (.Bg mu)) (WQ Z fT dE f6 fI ha cv c6) (by
  intro ρ m U H dx d x Q M ax e q;obtain⟨xs,e1,e⟩:=az (show ((G4 dx m).bind λxs=>(strsOf xs).bind λss=>if ss.length<=4000/\(uniq ss).length<64 then aV (bj mu ((CQ (uniq ss)).map .str) m) else a0)=aV (d,U) from e);obtain⟨ss,e2,e⟩:=az e
  by_cases h:ss.length<=4000/\(uniq ss).length<64
  .rw[ah h]at e
   have au:bj mu ((CQ (uniq ss)).map .str) m=(d,U):=b5 e;obtain⟨p,vs,rfl,Y,as⟩:=IV M ax e1;cases (dH e2 as);have inj:∀a b:Str,(kf a:Key)=.inr b->a=b:=λa b=>j1
   have hk:∀x∈ss.map (kf:Str->Key),wt cf x:=λx B=>by obtain⟨y,_,rfl⟩:=ck B;rfl
   refine⟨p,ss.map .inr,rfl,by rw[b6];exact Y,by rw[a6];exact h.1,λx B=>⟨hk x B,.inl ?_⟩,λys O G=>?_,λfm ks hp O G hs=>?_⟩
   .obtain⟨y,_,rfl⟩:=ck B;exact⟨y,rfl⟩
   .rcases ty_map λk z=>hk k ((G k).mp z) with ⟨_,zs,rfl⟩ | ⟨z,_⟩
    .rw[a6,(YB (BH O) (qX inj G)).length_eq];exact h.2
    .cases z
   .obtain⟨h9,rfl,hs⟩:=hs
    have es:=u5 (YB (BH O) (qX inj G)) hs;subst es;have c9:eA X.K ρ H (bj mu ((CQ (uniq ss)).map .str) m).1 (bj mu ((CQ (uniq ss)).map .str) m).2 Q:=by rw[au];exact q
    rw[b6];exact c9.lst M (aG _) hp
  .rw[ak h]at e
   cases e) λ_ _=>rfl
end
end WL
namespace WL
open PySem L2
theorem Oa{k:Nat}(B:hE k A):A.units+11<cLine:=by have:=B.un;lia
theorem N9{k:Nat}(B:hE k A):A.units+20<cLine:=by have:=B.un;lia
theorem tS{a b:FK}:X5 a b=cf↔a=b\/YS a b=cf:=by
 unfold X5
 by_cases h:a=b
 .subst h;simp[rV.mI]
 .rw[rV.kQ a b h];simp[h]
theorem LI{a b:FK}(C:X5 a b=cf)(B:X5 b a=cf):a=b:=by
 rcases tS.mp C with h | h
 .exact h
 .rcases tS.mp B with h' | h'
  .exact h'.symm
  .have:=rV.tr _ _ _ h h'
   rw[rV.mI]at this;cases this
theorem QO{a b c:FK}(C:X5 a b=cf)(B:X5 b c=cf):X5 a c=cf:=by
 rcases tS.mp C with rfl | h
 .exact B
 .rcases tS.mp B with rfl | h'
  .exact C
  .exact tS.mpr (.inr (rV.tr _ _ _ h h'))
theorem Ol(a b:FK):(X5 a b||X5 b a)=cf:=by
 by_cases h:a=b
 .subst h;simp[tS]
 .have:=rV.kQ a b h
  unfold X5;rw[this];cases YS a b<;>rfl
theorem K0(l:List FK):(HN l).Pairwise (λa b=>X5 a b=cf):=List.pairwise_mergeSort (le:=X5) (λa b c h h'=>QO h h') Ol l
theorem qK(l:List FK):(HN l).Perm l:=jb l _
theorem mH{l ys:List FK}(hp:ys.Perm l)(hs:ys.Pairwise (λa b=>YS a b=cf)):ys=HN l:=
 yz (le:=λa b=>X5 a b=cf) (λa b _ _ C B=>LI C B) (hs.imp λh=>tS.mpr (.inr h)) (K0 l) (hp.trans (qK l).symm)
theorem O3:∀{x:Key} {v:V},At K ρ H (eK x) v->v=kV x
 | .inl _,_,h=>h
 | .inr _,_,h=>h
theorem X3{k:FK}{v:V}(h:At K ρ H (fD k) v):∃b,v=.ref b/\Q0 K H k b:=by
 obtain⟨b,vs,rfl,U,C,r1,rfl,h1,v2,O,rfl,Z,Y⟩:=h;obtain⟨c,us,rfl,B,G,s1,rfl,g1,u2,s2,rfl,g2,g3⟩:=Z;cases (show C=.str k.1 from h1);cases (show O=[] from Y);cases (show G=.str k.2.1 from g1);cases (show s2=[] from g3);rw[O3 g2]at B;exact⟨b,rfl,c,U.sq,B.sq⟩
theorem rM:∀{y:D} {k:FK},ml y=aV k->y=fD k:=by
 intro y k h;unfold ml at h;split at h
 .rename_i a b x
  obtain⟨q,e,rfl⟩:=bX h;cases x with
  | int i=>cases e;rfl
  | str z=>cases e;rfl
  | _=>cases e
 .cases h
section
variable{a:Expr}
theorem MS:PE X (.Dict [] [] pos) (tD C X.K .Hw):=XI.imp λ σ H Q B=>by
 obtain⟨G,m,ρ,d,O,S,M,e,q⟩:=B;cases e;intro p hp;refine q _ _ (ρ++[p]) (jT M hp) (M.push hp ⟨[],CT,rfl,by simp⟩) ⟨p,?_,rfl⟩;rw[<-M.len];simp
theorem zE{xs:List (FK×Addr)}{ks:List FK}{k:FK}{p:Addr}(h:xs.map (·.1)=ks):(dN xs k p).map (·.1)=XR ks k:=by
 subst h;unfold dN XR;rw[List.any_map,show xs.any ((λx:FK=>eH (x=k))∘λx=>x.1)=xs.any (λx=>eH (x.1=k)) from rfl]
 by_cases q:xs.any (λx=>eH (x.1=k))=cf
 .rw[ah q,ah q]
 .rw[ak q,ak q];simp
theorem Mp(ha:PE X a (tD C X.K pa))(hb:PE X b (tD C X.K pb))(hu:X.A.units+11<cLine:=by assumption):PS X (.Assign [.Subscript a b pos'] (.Constant (.bool cf) j p1) pos) (mP C W X.K (.C2 pa pb)):=
 (Ng hu ha hb).imp λE σ H ai=>by
 obtain⟨aj,m,ρ,o,af,S,M,e,q⟩:=ai;obtain⟨⟨x,m1⟩,e1,e⟩:=az e;obtain⟨⟨y,G⟩,e2,e⟩:=az e;refine⟨aj,m,ρ,x,m1,S,M,e1,λu H1 aq Y M1 A1=>⟨aj,m1,aq,y,G,S.mono M Y,M1,e2,λw H2 cp U M2 A2=>?_⟩⟩;have lj:=A1.mono M1 U;have S2:=(S.mono M Y).mono M1 U;cases x with
 | aI i=>
  obtain⟨p,hi,rfl⟩:=lj;have e:(match G[i]?,ml y with
   | some (.fd ks),aV k=>if ks.length<10000 then aV (Out.nx aj,G.set i (.fd (XR ks k))) else a0
   | _,_=>a0)=aV (o,af):=e
  split at e
  .rename_i ks k hm hk
   split at e
   .rename_i B
    cases e;obtain⟨xs,hp,hV,O⟩:=M2.at' i p _ hi hm;have hy:=rM hk;subst hy;obtain⟨c,rfl,jr⟩:=X3 A2;have Z:HS H2 (upd H2 p (.dF (dN xs k c))):=λil bt iu bE=>by
     rw[CJ]
     .exact bE
     .rintro rfl;rw[hp]at bE;cases bE
    have Ww:xs.length=ks.length:=by rw[<-hV,a6]
    obtain⟨M4,g4⟩:=M2.write (o:=.dF (dN xs k c)) (q:=.fd (XR ks k)) hi ⟨_,CT,zE hV,λz B=>by
     unfold dN at B;split at B
     .exact(O z B).dn Z (.refl _)
     .rcases dg B with B | B
      .exact(O z B).dn Z (.refl _)
      .rw[fw B]
       refine A2.clean (ρ':=cp.take i) Z ?_;rcases k with ⟨k1,k2,k3 | k3⟩<;>rfl⟩
    exact⟨p,c,k,xs,rfl,rfl,hp,jr,λz B=>by
     obtain⟨jm,eb,ir⟩:=X3 (O z B);cases eb;exact ir,iq (by lia:xs.length<100000) (J3 (a8 _)),q _ cp (Y.trans (U.trans g4)) M4 σ (S2.mono M2 g4)⟩
   .cases e
  .cases e
 | _=>cases e
theorem qP(ha:PE X a (tD C X.K pa))(mu:Bool:=en)(hu:X.A.units+20<cLine:=by assumption)(hc:X.calm=cf:=by kernel_rfl)(hg:Gl X "sorted":=by kernel_rfl)(hm:X.mg "sorted" = a0:=by assumption)(he:gm [a] X.env=[(en,eval a X.env)]:=by kernel_rfl):PE X (.Call (.Name "sorted" p1) [a] [] q1) (tD C X.K (.b1 (.EG mu) pa)):=
 fQ (lE hc hu) (by
  intro ρ m af H dx d x Q M ax e q;cases dx with
  | aI i=>
   obtain⟨p,hi,rfl⟩:=ax;have e:(match m[i]? with
    | some (.fd ks)=>if ks.length<64/\ks.all MP=cf then aV (bj mu ((HN ks).map fD) m) else a0
    | _=>a0)=aV (d,af):=e
   split at e
   .rename_i ks VM
    split at e
    .rename_i B
     obtain⟨xs,hp,G,Z⟩:=M.at' i p _ hi VM;have Ww:xs.length=ks.length:=by rw[<-G,a6]
     refine⟨p,xs,rfl,hp,λz B=>?_,by lia,λy O z kH=>?_,λl ys hl Y oI=>?_⟩
     .obtain⟨jm,eb,ir⟩:=X3 (Z z B)
      cases eb;exact ir
     .have ok:=nq B.2
      have U:=ok y.1 (by rw[<-G];exact gh O);have h2:=ok z.1 (by rw[<-G];exact gh kH)
      by_cases q:y.1.2.1=z.1.2.1
      .refine .inl ?_
       unfold MP at U h2;rw[q]at U;cases yt:y.1.2.2<;>cases vT:z.1.2.2<;>simp only[yt,vT]at U h2<;>first | rfl | (exfalso;simp_all)
      .exact .inr q
     .have nV:ys.map (·.1)=HN ks:=mH (by rw[<-G];exact Y.map _) (by rw[L5];exact oI)
      have c9:eA X.K ρ H (bj mu ((HN ks).map fD) m).1 (bj mu ((HN ks).map fD) m).2 Q:=by rw[b5 e];exact q
      refine c9.lst M ?_ hl;rw[<-nV,b6];have:∀l:List (FK×Addr),(∀z∈l,z∈xs)->a7 X.K ρ H (l.map (fD∘(·.1))) (l.map λx=>V.ref x.2):=λl=>by
       induction l with
       | nil=>exact λ_=>rfl
       | cons z r ih=>exact λhl=>⟨_,_,rfl,(Z z (hl z bw)).dn (λ_ _ _ h=>h) (jk.take ρ i),ih λy O=>hl y (bx _ O)⟩
      exact this ys λz B=>Y.mem_iff.mp B
    .cases e
   .cases e
  | _=>cases e) PyProof.Rows.boot_sorted hg hm ha (by decide) (by decide) he
end
end WL
namespace PySem.SetTable
noncomputable def kL(mask:Nat):Nat->Nat×Nat->Nat×Nat
 | 0,s=>s
 | n+1,s=>kL mask n (leap mask s.1 s.2)
theorem jN(mask:Nat):∀(a b:Nat) (s:Nat×Nat),kL mask (a+b) s=kL mask b (kL mask a s)
 | 0,b,s=>by rw[Nat.zero_add];rfl
 | a+1,b,s=>by rw[Nat.add_right_comm];exact jN mask a b _
theorem oE(mask:Nat):∀(n:Nat) (s:Nat×Nat),(kL mask n s).2=s.2 / 32 ^ n
 | 0,s=>by rw[Nat.pow_zero,Nat.div_one];rfl
 | n+1,s=>by
  show (kL mask n (leap mask s.1 s.2)).2=_;rw[oE mask n];show s.2 / 32 / 32 ^ n=_;rw[Nat.div_div_eq_div_mul,Nat.pow_succ,Nat.mul_comm]
theorem OS(h:Int):bits h<2 ^ 64:=by
 unfold bits;have C:=Int.emod_nonneg h (show (2 ^ 64:Int)≠0 by decide);have B:=Int.emod_lt_of_pos h (show (0:Int)<2 ^ 64 by decide);lia
theorem Lu(mask:Nat)(h:Int)(i:Nat):(kL mask 13 (i,bits h)).2=0:=by
 rw[oE];exact Nat.div_eq_of_lt (L4 (OS h) (by decide))
noncomputable def jg(mask:Nat):Nat->Nat
 | 0=>0
 | n+1=>(jg mask n*5+1) % (mask+1)
theorem v7(mask:Nat):∀(n a:Nat),kL mask n (jg mask a,0)=(jg mask (a+n),0)
 | 0,a=>rfl
 | n+1,a=>by
  show kL mask n (leap mask (jg mask a) 0)=_;rw[show leap mask (jg mask a) 0=(jg mask (a+1),0) by simp[leap,jg],v7 mask n (a+1),Nat.add_right_comm,Nat.add_assoc]
def Full(mask:Nat):Prop:=∀j,j<=mask->∀a,∃n,n<=mask/\jg mask (a+n)=j
theorem jU(Y:jg mask (mask+1)=0)(h:∀j,j<mask+1->∃n,n<mask+1/\jg mask n=j):Full mask:=by
 have XN:∀a,jg mask (a+(mask+1))=jg mask a:=λa=>by
  induction a with
  | zero=>rw[Nat.zero_add,Y];rfl
  | succ a C=>rw[Nat.add_right_comm];show (jg mask (a+(mask+1))*5+1) % (mask+1)=_;rw[C];rfl
 have perm:∀k a,jg mask (a+k*(mask+1))=jg mask a:=λk=>by
  induction k with
  | zero=>intro a;rw[Nat.zero_mul,Nat.add_zero]
  | succ k C=>intro a;rw[Nat.succ_mul,<-Nat.add_assoc,XN,C]
 have B:∀a,jg mask a=jg mask (a % (mask+1)):=λa=>by
  have:=perm (a / (mask+1)) (a % (mask+1));rw[Nat.mul_comm,Nat.mod_add_div]at this;exact this
 intro j G a;obtain⟨b,Z,e⟩:=h j (Nat.lt_succ_of_le G);have O:a % (mask+1)<mask+1:=Nat.mod_lt a (Nat.succ_pos mask);refine⟨(b+(mask+1)-a % (mask+1)) % (mask+1),Nat.le_of_lt_succ (Nat.mod_lt _ (Nat.succ_pos _)),?_⟩;have hs:b+(mask+1)-a % (mask+1)+a % (mask+1)=b+(mask+1):=Nat.sub_add_cancel (fN (mf O) (Nat.le_add_left _ _));have U:(a+(b+(mask+1)-a % (mask+1)) % (mask+1)) % (mask+1)=b % (mask+1):=by
  rw[Nat.add_mod_mod,Nat.add_comm,<-Nat.add_mod_mod,hs,Nat.add_mod_right]
 rw[B,U,<-B,e]
theorem Uo:Full 7:=jU (by decide) (by decide)
theorem Um:Full 31:=jU (by decide) (by decide)
theorem Ul:Full 127:=jU (by decide +kernel) (by decide +kernel)
theorem meets(F:Full mask)(h:Int)(i j:Nat)(G:j<=mask):∃n,n<=13+mask/\(kL mask n (i,bits h)).1=j:=by
 have hp:=Lu mask h i;have hi:(kL mask 13 (i,bits h)).1<=mask:=by
  rw[show (13:Nat)=12+1 from rfl,jN];exact Nat.le_of_lt_succ (Nat.mod_lt _ (Nat.succ_pos _))
 obtain⟨a,_,B⟩:=F _ hi 0;rw[Nat.zero_add]at B;obtain⟨n,C,O⟩:=F j G a;refine⟨13+n,Nat.add_le_add_left C _,?_⟩;rw[jN,show kL mask 13 (i,bits h)=(jg mask a,0) from Prod.ext B.symm hp,v7];exact O
end PySem.SetTable
namespace PySem.SetTable
section
variable{t:SetTable}
noncomputable def dv(t:SetTable):Nat->Probe->Probe
 | 0,p=>p
 | n+1,p=>dv t n (t.advance p)
theorem XM(t:SetTable):∀(a b:Nat) (p:Probe),dv t (a+b) p=dv t b (dv t a p)
 | 0,b,p=>by rw[Nat.zero_add];rfl
 | a+1,b,p=>by rw[Nat.add_right_comm];exact XM t a b _
noncomputable def ow(t:SetTable)(s:Nat×Nat)(d:Option Nat):Probe:={ j:=s.1,more:=runEnd t.mask s.1-s.1,i:=s.1,perturb:=s.2,dummy:=d }
theorem PR(mask i:Nat):runEnd mask i-i<=9:=by
 unfold runEnd;split<;>lia
theorem lM:∀(m:Nat) (p:Probe),p.more=m->dv t (m+1) p=ow t (leap t.mask p.i p.perturb) p.dummy
 | 0,p,h=>by
  show t.advance p=_;unfold advance;rw[ak (by lia)];rfl
 | m+1,p,h=>by
  show dv t (m+1) (t.advance p)=_;have e:t.advance p={ p with j:=p.j+1,more:=p.more-1 }:=by
   unfold advance;rw[ah (by lia)]
  rw[e,lM m _ (by show p.more-1=m;lia)]
theorem wH:∀(n:Nat) (s:Nat×Nat) (d:Option Nat),∃k,k<=10*n/\dv t k (ow t s d)=ow t (kL t.mask n s) d
 | 0,s,d=>⟨0,a8 _,rfl⟩
 | n+1,s,d=>by
  obtain⟨k,hk,e⟩:=wH n (leap t.mask s.1 s.2) d;have B:=PR t.mask s.1;refine⟨(runEnd t.mask s.1-s.1)+1+k,by lia,?_⟩;rw[XM,lM (runEnd t.mask s.1-s.1) (ow t s d) rfl];exact e
end
end PySem.SetTable
namespace PySem.SetTable
theorem jB(mask i:Nat):i<=runEnd mask i:=by
 unfold runEnd;split<;>lia
theorem gG{mask:Nat}{owner:Array (Option Nat)}:∀(n B:Nat) (s:Nat×Nat),n<B->(owner.getD (kL mask n s).1 (aV 0)).isNone=cf->∃j,layClean.free mask owner B s.1 s.2=aV j/\(owner.getD j (aV 0)).isNone=cf
 | n,0,s,h,_=>absurd h (ki _)
 | n,B+1,s,h,G=>by
  unfold layClean.free;cases C:(iS (runEnd mask s.1+1-s.1)).find? λk=>(owner.getD (s.1+k) (aV 0)).isNone with
  | some k=>exact⟨s.1+k,rfl,List.find?_some (p:=λk=>(owner.getD (s.1+k) (aV 0)).isNone) C⟩
  | none=>
   dsimp only;cases n with
   | zero=>
    have O:=List.find?_eq_none.mp C 0 (my.mpr (by have:=jB mask s.1;lia));rw[Nat.add_zero]at O;exact absurd G O
   | succ n=>exact gG n B (leap mask s.1 s.2) (by lia) G
theorem Of(F:Full mask){h:Int}{e:Nat}(B:e<=mask)(C:(owner.getD e (aV 0)).isNone=cf):∃j,layClean.free mask owner (turns mask) (bits h % (mask+1)) (bits h)=aV j/\(owner.getD j (aV 0)).isNone=cf:=by
 obtain⟨n,O,G⟩:=meets F h (bits h % (mask+1)) e B;exact gG n _ (bits h % (mask+1),bits h) (by unfold turns;lia) (by rw[G];exact C)
end PySem.SetTable
namespace PySem.SetTable
theorem mO{α:Type}{k:α}:∀{L:List (Option α)} {j:Nat},L[j]?=aV a0->((L.set j (aV k)).filterMap id).Perm (k::L.filterMap id)
 | [],j,h=>by simp at h
 | a::r,0,h=>by
  have:a=a0:=by simpa using h
  subst this;exact .refl _
 | a::r,j+1,h=>by
  have B:=mO (k:=k) (L:=r) (j:=j) (by simpa using h);cases a with
  | none=>exact B
  | some x=>exact(B.cons x).trans (List.Perm.swap _ _ _)
theorem none_of{α:Type}:∀{L:List (Option α)},(L.filterMap id).length<L.length->∃j:Nat,L[j]?=aV a0
 | [],h=>by simp at h
 | none::r,_=>⟨0,rfl⟩
 | some x::r,h=>by
  obtain⟨j,B⟩:=none_of (L:=r) (by simpa using h);exact⟨j+1,B⟩
structure Lay(mask k:Nat)(owner:Array (Option Nat)):Prop where
 sz:owner.size=mask+1
 pm:(owner.toList.filterMap id).Perm (iS k)
theorem Lay.step{k:Nat}(F:Full mask)(L:Lay mask k owner)(hk:k<=mask)(h:Int):∃j,layClean.free mask owner (turns mask) (bits h % (mask+1)) (bits h)=aV j/\Lay mask (k+1) (owner.setIfInBounds j (aV k)):=by
 have C:(owner.toList.filterMap id).length=k:=by rw[L.pm.length_eq,qw]
 obtain⟨e,O⟩:=none_of (L:=owner.toList) (by rw[C,di,L.sz];lia);have U:e<owner.size:=by
  have:=fx.mp O;simpa using this.1
 have Vd:(owner.getD e (aV 0)).isNone=cf:=by
  rw[qg,<-gz,O];rfl
 obtain⟨j,Y,B⟩:=Of F (h:=h) (owner:=owner) (e:=e) (by rw[L.sz]at U;lia) Vd;refine⟨j,Y,?_,?_⟩
 .rw[Array.size_setIfInBounds];exact L.sz
 .have Vq:owner.toList[j]?=aV a0:=by
   rw[gz];rw[qg]at B;cases G:owner[j]? with
   | none=>rw[G]at B;cases B
   | some v=>
    rw[G]at B;cases v with
    | none=>rfl
    | some x=>cases B
  rw[Array.toList_setIfInBounds];refine(mO Vq).trans ?_;refine(L.pm.cons k).trans ?_;rw[List.range_succ];exact(List.perm_append_comm (l₁:=[k]) (l₂:=iS k))
theorem Lay.start(mask:Nat):Lay mask 0 (Array.replicate (mask+1) a0):=by
 refine⟨Array.size_replicate,?_⟩;rw[Array.toList_replicate];have:∀n:Nat,(i5 n (a0:Option Nat)).filterMap id=[]:=λn=>by
  induction n with
  | zero=>rfl
  | succ n B=>exact B
 rw[this];exact .refl _
end PySem.SetTable
namespace PySem.SetTable
theorem L6(owner:Array (Option Nat)):owner.toList=(iS owner.size).map λj=>owner.getD j a0:=by
 apply yv;intro i;rw[gz,fc]
 by_cases h:i<owner.size
 .rw[List.getElem?_range h,h8 h]
  show _=aV (owner.getD i a0);rw[qg,h8 h];rfl
 .rw[Array.getElem?_eq_none (by lia),kv (by rw[qw];lia)];rfl
end PySem.SetTable
namespace PySem.SetTable
def pP(xs:Array Nat):Prop:=∀a b,(C:a<b)->(B:b<xs.size)->xs[a]'(L4 C B)<xs[b]
structure Cut(xs:Array Nat)(j r:Nat):Prop where
 le:r<=xs.size
 lo:∀k,(hk:k<xs.size)->k<r->xs[k]<j
 hi:∀k,(hk:k<xs.size)->r<=k->j<=xs[k]
theorem rG{xs:Array Nat}(R:pP xs){j:Nat}:∀(B lo hi:Nat),lo<=hi->hi<=xs.size->hi-lo<=B->(∀k,(hk:k<xs.size)->k<lo->xs[k]<j)->(∀k,(hk:k<xs.size)->hi<=k->j<=xs[k])->Cut xs j (below.go xs j B lo hi)
 | 0,lo,hi,h1,U,Z,O,G=>by
  have:lo=hi:=by lia
  subst this;exact⟨U,O,G⟩
 | B+1,lo,hi,h1,U,Z,O,G=>by
  unfold below.go
  by_cases hl:lo<hi
  .rw[ah hl]
   have Y:(lo+hi) / 2<xs.size:=by lia
   have e:xs.getD ((lo+hi) / 2) j=xs[(lo+hi) / 2]:=by rw[qg,h8 Y];rfl
   dsimp only;rw[e]
   by_cases C:xs[(lo+hi) / 2]<j
   .rw[ah C]
    refine rG R B _ _ (by lia) U (by lia) (λk hk dC=>?_) G
    by_cases DC:k=(lo+hi) / 2
    .subst DC;exact C
    .exact L4 (R k _ (by lia) Y) C
   .rw[ak C]
    refine rG R B _ _ (by lia) (by lia) (by lia) O (λk hk dC=>?_)
    by_cases DC:k=(lo+hi) / 2
    .subst DC;lia
    .have:=R _ k (show (lo+hi) / 2<k by lia) hk
     lia
  .rw[ak hl]
   have:lo=hi:=by lia
   subst this;exact⟨U,O,G⟩
theorem Z4{xs:Array Nat}(R:pP xs)(j:Nat):Cut xs j (below xs j):=
 rG R _ _ _ (eC _) (a8 _) (by lia) (λk _ h=>absurd h (ki _)) (λk hk h=>absurd hk (by lia))
theorem jR{xs:Array Nat}(R:pP xs)(j:Nat):xs[below xs j]?=aV j↔j∈xs.toList:=by
 have C:=Z4 R j;constructor
 .intro h
  rw[<-gz]at h;exact gL h
 .intro h
  obtain⟨k,hk,e⟩:=kR h;have B:k<xs.size:=by simpa using hk
  have U:xs[k]=j:=by simpa using e
  have O:below xs j<=k:=xq λq=>by have:=C.lo k B q;lia
  have G:k<=below xs j:=xq λq=>by
   have a:=C.hi (below xs j) (by lia) (a8 _);have b:=R _ k q B;lia
  have:below xs j=k:=Nat.le_antisymm O G;rw[this,h8 B,U]
theorem qL{t:SetTable}(R:pP t.place)(hd:t.dummies=#[])(j:Nat):t.slot j=.empty↔j∉t.place.toList:=by
 have B:has t.dummies j=en:=by rw[hd];rfl
 unfold slot;dsimp only
 by_cases h:t.place[below t.place j]?=aV j
 .rw[ah (by rw[h];exact beq_self_eq_true _)]
  exact⟨λq=>(by cases q),λq=>absurd ((jR R j).mp h) q⟩
 .rw[ak (by simpa using h),B]
  exact⟨λ_ q=>h ((jR R j).mpr q),λ_=>rfl⟩
end PySem.SetTable
namespace PySem.SetTable
theorem Ed{α:Type}(xs:Array α)(p:Nat)(x:α):(insertAt xs p x).toList=xs.toList.take p++x::xs.toList.drop p:=by
 unfold insertAt;rw[Array.toList_append,Array.toList_push,Array.toList_extract,Array.toList_extract];simp[List.extract_eq_take_drop];exact r9 (by simp)
theorem S9(xs:Array Nat):pP xs↔xs.toList.Pairwise (·<·):=by
 rw[List.pairwise_iff_getElem];constructor
 .intro R i j hi O G
  have:=R i j G (by simpa using O);simpa using this
 .intro P a b C B
  have:=P a b (by simpa using L4 C B) (by simpa using B) C;simpa using this
theorem Ld{t:SetTable}(R:pP t.place)(hj:j∉t.place.toList):pP (t.put j).1.place/\(t.put j).1.place.toList.Perm (j::t.place.toList)/\(t.put j).1.mask=t.mask:=by
 have C:=Z4 R j;have e:(t.put j).1.place.toList=t.place.toList.take (below t.place j)++j::t.place.toList.drop (below t.place j):=Ed _ _ _;refine⟨?_,?_,rfl⟩
 .rw[S9,e]
  have P:=(S9 _).mp R;have U:=P;rw[<-List.take_append_drop (below t.place j) t.place.toList,List.pairwise_append]at U;obtain⟨p1,p2,Y⟩:=U;have lo:∀x∈t.place.toList.take (below t.place j),x<j:=λx B=>by
   obtain⟨k,hk,rfl⟩:=kR B;rw[zl]at hk;have:=C.lo k (by rw[di]at hk;lia) (by lia);simpa using this
  have hi:∀x∈t.place.toList.drop (below t.place j),j<x:=λx B=>by
   have Z:=List.mem_of_mem_drop B;obtain⟨k,hk,rfl⟩:=kR B;rw[List.length_drop]at hk;have:=C.hi (below t.place j+k) (by rw[di]at hk;lia) (by lia);have h2:j<=(t.place.toList.drop (below t.place j))[k]:=by simpa using this
   have h3:j≠(t.place.toList.drop (below t.place j))[k]:=λq=>hj (by rw[q];exact Z)
   lia
  rw[List.pairwise_append];refine⟨p1,List.pairwise_cons.mpr ⟨hi,p2⟩,λa O b G=>?_⟩;rcases cq G with rfl | G
  .exact lo a O
  .exact Y a O b G
 .rw[e]
  refine List.perm_middle.trans ?_;rw[List.take_append_drop]
end PySem.SetTable
namespace PySem.SetTable
noncomputable def way(t:SetTable)(h:Int)(k:Nat):Nat:=(dv t k (t.probeStart h)).j
theorem pN{t t':SetTable}(e:t.mask=t'.mask):∀(k:Nat) (p:Probe),dv t k p=dv t' k p
 | 0,p=>rfl
 | k+1,p=>by
  show dv t k (t.advance p)=dv t' k (t'.advance p);have:t.advance p=t'.advance p:=by unfold advance;rw[e]
  rw[this];exact pN e k _
theorem ER{t t':SetTable}(e:t.mask=t'.mask)(h:Int)(k:Nat):way t h k=way t' h k:=by
 unfold way;rw[show t.probeStart h=t'.probeStart h by unfold probeStart;rw[e],pN e]
theorem iM{t:SetTable}:∀(k:Nat) (p:Probe),(dv t k p).dummy=p.dummy
 | 0,p=>rfl
 | k+1,p=>by
  show (dv t k (t.advance p)).dummy=_;rw[iM k];unfold advance;split<;>rfl
structure Good(t:SetTable)(hs:List Int):Prop where
 R:pP t.place
 d:t.dummies=#[]
 F:Full t.mask
 le:∀j∈t.place.toList,j<=t.mask
 len:t.place.size=hs.length
 fill:hs.length<=t.mask
 w:∀(i j:Nat) (h:Int),t.place.toList[i]?=aV j->hs[i]?=aV h->∃k,way t h k=j/\∀cb,cb<k->way t h cb∈t.place.toList
section
variable{t:SetTable}
theorem Good.free(G:Good t hs):∃e,e<=t.mask/\e∉t.place.toList:=by
 refine OX λq=>?_
 have O:∀e∈iS (t.mask+1),e∈t.place.toList:=λe B=>OX λz=>q ⟨e,Nat.le_of_lt_succ (my.mp B),z⟩
 have nd:t.place.toList.Nodup:=((S9 _).mp G.R).imp λq=>cc q
 have C:=((xA List.nodup_range nd).mpr λe=>⟨O e,λq=>my.mpr (Nat.lt_succ_of_le (G.le e q))⟩).length_eq;rw[qw,di,G.len]at C;have:=G.fill;lia
theorem Good.ends(G:Good t hs)(h:Int):∃N,N<=10*(13+t.mask)/\way t h N∉t.place.toList:=by
 obtain⟨e,C,B⟩:=G.free;obtain⟨n,Y,O⟩:=meets G.F h (bits h % (t.mask+1)) e C;obtain⟨k,hk,U⟩:=wH (t:=t) n (bits h % (t.mask+1),bits h) a0;refine⟨k,by lia,?_⟩;unfold way;rw[show t.probeStart h=ow t (bits h % (t.mask+1),bits h) a0 from rfl,U];show (kL t.mask n (bits h % (t.mask+1),bits h)).1∉_;rw[O];exact B
theorem Good.slot(G:Good t hs)(j:Nat):(j∉t.place.toList/\t.slot j=.empty)\/(∃i,t.place.toList[i]?=aV j/\t.slot j=.live i):=by
 by_cases h:j∈t.place.toList
 .right
  have B:=(jR G.R j).mpr h;refine⟨below t.place j,by rw[gz];exact B,?_⟩;unfold SetTable.slot;dsimp only;rw[ah (by rw[B];exact beq_self_eq_true _)]
 .exact .inl ⟨h,(qL G.R G.d j).mpr h⟩
theorem Good.go(G:Good t hs){hashAt:Nat->Int}{h:Int}:∀(n B m:Nat),n<B->way t h (m+n)∉t.place.toList->∃k,m<=k/\k<=m+n/\(∀cb,m<=cb->cb<k->∃i,t.place.toList[i]?=aV (way t h cb)/\hashAt i≠h)/\
  ((way t h k∉t.place.toList/\probe.go t hashAt h B (dv t m (t.probeStart h))=aV (.empty (way t h k) a0))\/
   (∃i,t.place.toList[i]?=aV (way t h k)/\t.slot (way t h k)=.live i/\hashAt i=h/\probe.go t hashAt h B (dv t m (t.probeStart h))=aV (.candidate (way t h k) i (dv t (k+1) (t.probeStart h)))))
 | n,0,m,Y,_=>absurd Y (ki _)
 | n,B+1,m,Y,Z=>by
  have IA:t.advance (dv t m (t.probeStart h))=dv t (m+1) (t.probeStart h):=by rw[XM];rfl
  have hd:(dv t m (t.probeStart h)).dummy=a0:=iM _ _;rcases G.slot (way t h m) with ⟨O,C⟩ | ⟨i,O,C⟩
  .refine⟨m,a8 _,qi _ _,λcb a b=>absurd a (by lia),.inl ⟨O,?_⟩⟩
   unfold probe.go;rw[show t.slot (dv t m (t.probeStart h)).j=.empty from C,hd];rfl
  .by_cases U:hashAt i=h
   .refine⟨m,a8 _,qi _ _,λcb a b=>absurd a (by lia),.inr ⟨i,O,C,U,?_⟩⟩
    unfold probe.go;rw[show t.slot (dv t m (t.probeStart h)).j=.live i from C];dsimp only;rw[ah (by rw[U];exact beq_self_eq_true _),IA];rfl
   .cases n with
    | zero=>exact absurd (gL O) Z
    | succ n=>
     obtain⟨k,a,b,c,d⟩:=Good.go G n B (m+1) (by lia) (by rw[show m+1+n=m+(n+1) by lia];exact Z);refine⟨k,by lia,by lia,λcb q1 q2=>?_,?_⟩
     .by_cases e:cb=m
      .subst e;exact⟨i,O,U⟩
      .exact c cb (by lia) q2
     .have e:probe.go t hashAt h (B+1) (dv t m (t.probeStart h))=probe.go t hashAt h B (dv t (m+1) (t.probeStart h)):=by
       conv=>lhs;unfold probe.go
       rw[show t.slot (dv t m (t.probeStart h)).j=.live i from C];dsimp only;rw[ak (by simpa using U),IA]
      rw[e];exact d
theorem Good.probe(G:Good t hs)(hashAt:Nat->Int)(h:Int){m:Nat}(C:∀k,k<m->way t h k∈t.place.toList):∃k,m<=k/\k<=10*(13+t.mask)/\(∀cb,m<=cb->cb<k->∃i,t.place.toList[i]?=aV (way t h cb)/\hashAt i≠h)/\
  ((way t h k∉t.place.toList/\t.probe hashAt h (dv t m (t.probeStart h))=aV (.empty (way t h k) a0))\/
   (∃i,t.place.toList[i]?=aV (way t h k)/\t.slot (way t h k)=.live i/\hashAt i=h/\t.probe hashAt h (dv t m (t.probeStart h))=aV (.candidate (way t h k) i (dv t (k+1) (t.probeStart h))))):=by
 obtain⟨N,O,B⟩:=G.ends h;have VE:m<=N:=xq λq=>B (C N q)
 obtain⟨k,a,b,c,d⟩:=G.go (hashAt:=hashAt) (h:=h) (N-m) (10*turns t.mask) m (by unfold turns;lia) (by rw[Nat.add_sub_cancel' VE];exact B);exact⟨k,a,by lia,c,d⟩
theorem Good.met(G:Good t hs){k:Nat}{h:Int}(C:t.place.toList[i]?=aV j)(O:hs[i]?=aV h)(hk:way t h k∉t.place.toList):∃cb,cb<k/\way t h cb=j:=by
 obtain⟨B,e,U⟩:=G.w i j h C O;refine⟨B,Nat.lt_of_not_le λq=>?_,e⟩
 by_cases z:k=B
 .subst z;rw[e]at hk;exact hk (gL C)
 .exact hk (U k (by lia))
theorem Good.uniq(G:Good t hs){B:Nat}(Y:t.place.toList[i]?=aV j)(U:t.place.toList[B]?=aV j):i=B:=by
 have P:=List.pairwise_iff_getElem.mp ((S9 _).mp G.R);obtain⟨O,b1⟩:=fx.mp Y;obtain⟨C,Z⟩:=fx.mp U;rcases Nat.lt_trichotomy i B with z | z | z
 .have:=P i B O C z;lia
 .exact z
 .have:=P B i C O z;lia
theorem Good.put(G:Good t hs){h:Int}{k:Nat}(hk:way t h k∉t.place.toList)(hb:∀cb,cb<k->way t h cb∈t.place.toList)(Z:way t h k<=t.mask)(hf:hs.length+1<=t.mask):Good (t.put (way t h k)).1 (hs.take (t.put (way t h k)).2++h::hs.drop (t.put (way t h k)).2):=by
 obtain⟨jj,P,em⟩:=Ld G.R hk;have e:(t.put (way t h k)).1.place.toList=t.place.toList.take (below t.place (way t h k))++way t h k::t.place.toList.drop (below t.place (way t h k)):=Ed _ _ _;have hp:(t.put (way t h k)).2=below t.place (way t h k):=rfl;have iF:below t.place (way t h k)<=t.place.size:=(Z4 G.R _).le;have len:=G.len;refine⟨jj,?_,G.F,λj B=>?_,?_,?_,λi j h' B C=>?_⟩
 .show (if has t.dummies _ then _ else t.dummies)=_
  rw[G.d];rfl
 .rcases cq (P.mem_iff.mp B) with q | q
  .rw[q];exact Z
  .exact G.le j q
 .rw[<-di,P.length_eq,hJ,di,hp]
  simp;lia
 .rw[hp,fA,hJ,zl,List.length_drop]
  show _<=t.mask;lia
 .have sub:∀x,x∈t.place.toList->x∈(t.put (way t h k)).1.place.toList:=λx hx=>P.mem_iff.mpr (bx _ hx)
  have U:∀h' cb,way (t.put (way t h k)).1 h' cb=way t h' cb:=λh' cb=>ER em _ _
  have O:∀Y,t.place.toList[Y]?=aV j->hs[Y]?=aV h'->∃Jp,way (t.put (way t h k)).1 h' Jp=j/\∀cb,cb<Jp->way (t.put (way t h k)).1 h' cb∈(t.put (way t h k)).1.place.toList:=λY q1 q2=>by
   obtain⟨k0,a,b⟩:=G.w Y j h' q1 q2;exact⟨k0,by rw[U];exact a,λcb z=>by rw[U];exact sub _ (b cb z)⟩
  rw[e]at B;rw[hp]at C;have l1:(t.place.toList.take (below t.place (way t h k))).length=below t.place (way t h k):=by rw[zl,di];lia
  have l2:(hs.take (below t.place (way t h k))).length=below t.place (way t h k):=by rw[zl];lia
  rcases Nat.lt_trichotomy i (below t.place (way t h k)) with z | z | z
  .rw[km (by lia),List.getElem?_take_of_lt z]at B C
   exact O i B C
  .rw[qk (by lia)]at B C
   rw[l1,z,Nat.sub_self]at B;rw[l2,z,Nat.sub_self]at C;cases B;cases C;exact⟨k,U h k,λcb q=>by rw[U];exact sub _ (hb cb q)⟩
  .rw[qk (by lia)]at B C
   rw[l1]at B;rw[l2]at C;obtain⟨c,hc⟩:∃c,i-below t.place (way t h k)=c+1:=⟨i-below t.place (way t h k)-1,by lia⟩
   rw[hc,List.getElem?_cons_succ,List.getElem?_drop]at B C;exact O _ B C
end
end PySem.SetTable
namespace PySem.SetTable
theorem mZ(h:i<=mask):runEnd mask i<=mask:=by
 unfold runEnd;split<;>lia
theorem FU{t:SetTable}:∀(k:Nat) (p:Probe),p.j+p.more<=t.mask->(dv t k p).j+(dv t k p).more<=t.mask
 | 0,p,h=>h
 | k+1,p,h=>by
  refine FU k (t.advance p) ?_;unfold advance;split
  .show p.j+1+(p.more-1)<=_
   lia
  .show (leap t.mask p.i p.perturb).1+(runEnd t.mask (leap t.mask p.i p.perturb).1-(leap t.mask p.i p.perturb).1)<=_
   have B:(leap t.mask p.i p.perturb).1<=t.mask:=Nat.le_of_lt_succ (Nat.mod_lt _ (Nat.succ_pos _));have G:=mZ B;have C:=jB t.mask (leap t.mask p.i p.perturb).1;lia
theorem Ky(t:SetTable)(h:Int)(k:Nat):way t h k<=t.mask:=by
 refine fN (qi _ _) (FU (t:=t) k (t.probeStart h) ?_);show bits h % (t.mask+1)+(runEnd t.mask (bits h % (t.mask+1))-bits h % (t.mask+1))<=_;have B:bits h % (t.mask+1)<=t.mask:=Nat.le_of_lt_succ (Nat.mod_lt _ (Nat.succ_pos _));have G:=mZ B;have C:=jB t.mask (bits h % (t.mask+1));lia
theorem FV{t:SetTable}:∀(k:Nat) (p:Probe),k<=p.more->(dv t k p).j=p.j+k
 | 0,p,h=>rfl
 | k+1,p,h=>by
  show (dv t k (t.advance p)).j=_;have e:t.advance p={ p with j:=p.j+1,more:=p.more-1 }:=by
   unfold advance;rw[ah (by lia)]
  rw[e,FV k _ (by show k<=p.more-1;lia)];show p.j+1+k=_;lia
noncomputable def qB(owner:Array (Option Nat))(x:Nat):Bool:=(owner.getD x (aV 0)).isSome
theorem occ_none{x:Nat}:(owner.getD x (aV 0)).isNone=!qB owner x:=by
 unfold qB;cases owner.getD x (aV 0)<;>rfl
theorem oK{t:SetTable}{owner:Array (Option Nat)}{j:Nat}{d:Option Nat}:∀(B:Nat) (s:Nat×Nat),layClean.free t.mask owner B s.1 s.2=aV j->∃k,(dv t k (ow t s d)).j=j/\∀cb,cb<k->qB owner (dv t cb (ow t s d)).j=cf
 | 0,s,h=>by cases h
 | B+1,s,h=>by
  unfold layClean.free at h;have hr:=jB t.mask s.1;have Ec:∀k,k<=runEnd t.mask s.1-s.1->(dv t k (ow t s d)).j=s.1+k:=λk hk=>FV k (ow t s d) hk
  cases C:(iS (runEnd t.mask s.1+1-s.1)).find? λk=>(owner.getD (s.1+k) (aV 0)).isNone with
  | some k=>
   rw[C]at h;obtain rfl:s.1+k=j:=b5 h;obtain⟨h1,Z,Y⟩:=List.find?_range_eq_some.mp C;have xB:=my.mp Z;refine⟨k,Ec k (by lia),λcb O=>?_⟩;rw[Ec cb (by lia)];have:=Y cb O;rw[occ_none]at this;simpa using this
  | none=>
   rw[C]at h;obtain⟨k,e,U⟩:=oK (d:=d) B (leap t.mask s.1 s.2) h;have G:=lM (t:=t) (runEnd t.mask s.1-s.1) (ow t s d) rfl;refine⟨(runEnd t.mask s.1-s.1)+1+k,by rw[XM,G];exact e,λcb O=>?_⟩
   by_cases hq:cb<(runEnd t.mask s.1-s.1)+1
   .rw[Ec cb (by lia)]
    have:=List.find?_eq_none.mp C cb (my.mpr (by lia));rw[occ_none]at this;simpa using this
   .obtain⟨c,rfl⟩:∃c,cb=(runEnd t.mask s.1-s.1)+1+c:=⟨cb-((runEnd t.mask s.1-s.1)+1),by lia⟩
    rw[XM,G];exact U c (by lia)
def vg(t:SetTable)(B:List Int)(owner:Array (Option Nat)):Prop:=∀(j k:Nat),owner.toList[j]?=aV (aV k)->∃h,B[k]?=aV h/\∃n,way t h n=j/\∀C,C<n->qB owner (way t h C)=cf
theorem uY{x k:Nat}(h:qB owner x=cf):qB (owner.setIfInBounds j (aV k)) x=cf:=by
 unfold qB at h ⊢;rw[qg]at h ⊢;rw[Array.getElem?_setIfInBounds]
 by_cases e:j=x
 .rw[ah e];split<;>rfl
 .rw[ak e];exact h
theorem vg.step{t:SetTable}{B:List Int}(W:vg t B owner){h:Int}{k:Nat}(hk:B[k]?=aV h)(G:layClean.free t.mask owner (turns t.mask) (bits h % (t.mask+1)) (bits h)=aV j):vg t B (owner.setIfInBounds j (aV k)):=by
 intro Jo cb e;rw[gz,Array.getElem?_setIfInBounds]at e
 by_cases q:j=Jo
 .rw[ah q]at e
  obtain⟨n,a,b⟩:=oK (t:=t) (d:=a0) _ (bits h % (t.mask+1),bits h) G;split at e
  .cases e
   exact⟨h,hk,n,by rw[<-q];exact a,λC z=>uY (b C z)⟩
  .cases e
 .rw[ak q,<-gz]at e
  obtain⟨h',a,n,b,c⟩:=W Jo cb e;exact⟨h',a,n,b,λC z=>uY (c C z)⟩
theorem Lx{t:SetTable}(F:Full t.mask)(B:Array Int)(Y:B.size<=t.mask):∃owner,layClean t.mask B=aV owner/\Lay t.mask B.size owner/\vg t B.toList owner:=by
 have C:∀(l:List Int) (k:Nat) (owner:Array (Option Nat)),Lay t.mask k owner->vg t B.toList owner->(∀i,l[i]?=B.toList[k+i]?)->k+l.length<=t.mask->∃bt,l.foldl (λ(G:Option (Array (Option Nat)×Nat)) h=>do
   let (owner,k) <-G
   let j <-layClean.free t.mask owner (turns t.mask) (bits h % (t.mask+1)) (bits h)
   pure (owner.setIfInBounds j (aV k),k+1)) (aV (owner,k))=aV (bt,k+l.length)/\Lay t.mask (k+l.length) bt/\vg t B.toList bt:=by
  intro l
  induction l with
  | nil=>exact λk owner L W _ _=>⟨owner,rfl,L,W⟩
  | cons h r U=>
   intro k owner L W hl hk;rw[hJ]at hk;obtain⟨j,O,Z⟩:=L.step F (by lia) h;have Ts:=W.step (k:=k) (h:=h) (by have:=hl 0;rw[Nat.add_zero]at this;rw[<-this];rfl) O;obtain⟨bt,e,L2,W2⟩:=U (k+1) _ Z Ts (λi=>by have:=hl (i+1);rw[List.getElem?_cons_succ]at this;rw[this,show k+(i+1)=k+1+i by lia]) (by lia);refine⟨bt,?_,by rw[hJ,show k+(r.length+1)=k+1+r.length by lia];exact L2,W2⟩;rw[As,hJ,show k+(r.length+1)=k+1+r.length by lia,<-e];congr 1;show (layClean.free t.mask owner (turns t.mask) (bits h % (t.mask+1)) (bits h)).bind _=_;rw[O];rfl
 obtain⟨bt,e,L,W⟩:=C B.toList 0 _ (Lay.start t.mask) (λj k z=>by
  rw[Array.toList_replicate,List.getElem?_replicate]at z;split at z<;>cases z) (λi=>by rw[Nat.zero_add]) (by rw[Nat.zero_add,di];exact Y)
 refine⟨bt,?_,by rw[Nat.zero_add,di]at L;exact L,W⟩;unfold layClean;rw[<-Array.foldl_toList];exact(congrArg (Option.map (·.1)) e)
theorem C0{α β:Type}{f:α->Option β}:∀{L:List α},(∀x∈L,(f x).isSome=cf)->∀i:Nat,(L.filterMap f)[i]?=L[i]?.bind f
 | [],_,i=>by simp
 | a::r,h,i=>by
  obtain⟨b,B⟩:=oD.mp (h a bw);rw[tE,B];cases i with
  | zero=>exact B.symm
  | succ i=>exact C0 (λx C=>h x (bx _ C)) i
theorem WO{finger moves:Nat}{led plain:Bool}(F:Full mask)(B:Array Int)(hn:B.size<=mask):∃t' order,laid mask finger moves led plain B=aV (t',order)/\t'.mask=mask/\t'.led=led/\t'.plain=plain/\t'.moves=moves/\order.toList.Perm (iS B.size)/\Good t' (order.toList.filterMap (B.toList[·]?)):=by
 obtain⟨owner,e,L,W⟩:=Lx (t:={ mask,place:=#[],dummies:=#[],finger,led,moves,plain }) F B hn;have e:layClean mask B=aV owner:=e;have L:Lay mask B.size owner:=L;have Iv:(((iS (mask+1)).filterMap λj=>(owner.getD j a0).map (j,·)).map (·.2))=owner.toList.filterMap id:=by
  rw[L6 owner,L.sz,List.map_filterMap,List.filterMap_map];congr 1;funext j;show ((owner.getD j a0).map (j,·)).map (·.2)=id (owner.getD j a0);cases owner.getD j a0<;>rfl
 generalize U:((iS (mask+1)).filterMap λj=>(owner.getD j a0).map (j,·))=live at Iv;have Y:(live.map (·.2)).Perm (iS B.size):=by rw[Iv];exact L.pm
 have hlen:live.length=B.size:=by have:=Y.length_eq;rwa [a6,qw]at this
 have kU:∀j k,(j,k)∈live->j<=mask/\owner.getD j a0=aV k:=λj k hm=>by
  rw[<-U,List.mem_filterMap]at hm;obtain⟨a,ha,eb⟩:=hm;obtain⟨c,Z,ec⟩:=bX eb;cases ec;exact⟨Nat.le_of_lt_succ (my.mp ha),Z⟩
 have AJ:∀x,x<=mask->qB owner x=cf->x∈live.map (·.1):=λx O ho=>by
  have hs:x<owner.size:=by rw[L.sz];lia
  unfold qB at ho;rw[qg,h8 hs]at ho;obtain⟨k,hk⟩:=oD.mp (show owner[x].isSome=cf from ho);refine List.mem_map.mpr ⟨(x,k),?_,rfl⟩;rw[<-U,List.mem_filterMap];refine⟨x,my.mpr (Nat.lt_succ_of_le O),?_⟩;rw[qg,h8 hs];show (owner[x]).map _=_;rw[hk];rfl
 refine⟨_,_,by unfold laid;rw[e];rfl,rfl,rfl,rfl,rfl,by show ((List.map _ _).toArray.toList).Perm _;rw[U];exact Y,?_⟩;rw[U];refine⟨?_,rfl,F,?_,?_,?_,?_⟩
 .rw[S9]
  show (live.map (·.1)).Pairwise _;rw[<-U,List.map_filterMap];refine List.Pairwise.filterMap (R:=(·<·)) _ (λa il UE b hb jm ir=>?_) List.pairwise_lt_range;have one:∀a b,((owner.getD a a0).map (a,·)).map (·.1)=aV b->b=a:=λa b h=>by
   cases Z:owner.getD a a0 with
   | none=>rw[Z]at h;cases h
   | some c=>rw[Z]at h;cases h;rfl
  rw[one a b hb,one il jm ir];exact UE
 .intro j C
  obtain⟨⟨a,k⟩,ha,rfl⟩:=ck (show j∈live.map (·.1) from C);exact(kU a k ha).1
 .show (live.map (·.1)).toArray.size=_
  rw[dw,a6];have:∀{l:List Nat},(∀x∈l,x<B.size)->(l.filterMap (B.toList[·]?)).length=l.length:=λ {l}=>by
   induction l with
   | nil=>exact λ_=>rfl
   | cons a r ih=>
    intro h;rw[tE,eg (by rw[di];exact h a bw)];show _+1=_+1;rw[ih λx O=>h x (bx _ O)]
  rw[this λx O=>my.mp (Y.mem_iff.mp O),a6]
 .have h1:((live.map (·.2)).toArray.toList.filterMap (B.toList[·]?)).length<=(live.map (·.2)).length:=List.length_filterMap_le _ _
  rw[a6]at h1;show _<=mask;lia
 .intro i j h C G
  rw[C0 λx O=>by rw[eg (by rw[di];exact my.mp (Y.mem_iff.mp O))];rfl]at G;have C:(live.map (·.1))[i]?=aV j:=C;have G:(live.map (·.2))[i]?.bind (B.toList[·]?)=aV h:=G;rw[fc]at C G;cases hl:live[i]? with
  | none=>rw[hl]at C;cases C
  | some p=>
   rw[hl]at C G;obtain⟨a,k⟩:=p;obtain rfl:a=j:=b5 C;have G:B.toList[k]?=aV h:=G;obtain⟨q1,q2⟩:=kU a k (gL hl);have hs:a<owner.size:=by rw[L.sz];lia
   have q3:owner.toList[a]?=aV (aV k):=by
    rw[gz];rw[qg,h8 hs]at q2;rw[h8 hs];exact congrArg aV q2
   obtain⟨h',r1,n,r2,r3⟩:=W a k q3;rw[G]at r1;cases r1;have wm:∀n,way { mask,place:=(live.map (·.1)).toArray,dummies:=#[],finger,led,moves,plain } h n=way { mask,place:=#[],dummies:=#[],finger,led,moves,plain } h n:=λn=>ER (show SetTable.mask { mask,place:=(live.map (·.1)).toArray,dummies:=#[],finger,led,moves,plain }=SetTable.mask { mask,place:=#[],dummies:=#[],finger,led,moves,plain } from rfl) h n
   refine⟨n,(wm n).trans r2,λcn z=>?_⟩;have:=r3 cn z;rw[wm];exact AJ _ (Ky _ _ _) this
end PySem.SetTable
namespace PySem
open L2
theorem ZC{o:Obj}{t:Tok}{rest:List Value}{Q:Bool->fu->Prop}(B:s.heap.get? a=aV o)(C:o.cls=.type "tuple")(hd:o.data=.seq items n)(hi:items.toList=.str x t::rest)(h:Q en s):fj (gx prog w) A (hashByValue 8 (.ref a)) Q E s:=by
 unfold hashByValue;refine ab (va (show s.TypeIs (.ref a) "tuple" from ⟨o,B,C⟩) F.slot_tuple_hash.lookup ?_);show fj _ _ (seqItems? (.ref a) >>= _) _ _ s;refine ab (D4 B hd ?_);refine ab ?_;show fj _ _ (forIn items _ _) _ _ s;rw[<-Ri,hi,rp];refine ab ?_;show fj _ _ (pure en >>= _) _ _ s;refine ab (ag ?_);simp only[A9,if_true];exact ag (ag (ag h))
theorem gR{v:Value}(h:carriedByValue v=cf):ofAClassStatement n v=pure en:=by
 cases v<;>first | rfl | (unfold ofAClassStatement;rfl) | cases h
theorem cY{Q:Bool->fu->Prop}(hk:IsTupleKey (CK prog w) s.heap ks a)(h:Q en s):fj (gx prog w) A (ofAClassStatement (n+1) (.ref a)) Q E s:=by
 have Y:=hk.typeIs;obtain⟨o,items,n,U,_,hd,hi⟩:=hk;unfold ofAClassStatement;refine ab (vz Y ?_);show fj _ _ (pure cf >>= _) _ _ s;refine ab (ag ?_);simp only[qm,ft,if_false];refine ab (D4 U hd ?_);refine ab ?_;show fj _ _ (forIn items _ _) _ _ s;rw[<-Ri];refine wpAny_forIn_list _ (λrest r B=>r.1=a0/\B=s/\∀v∈rest,carriedByValue v=cf) _ ?_ ?_ _ _ ⟨rfl,rfl,hi.byValue⟩
 .rintro v rest r B ⟨C,rfl,G⟩
  rw[gR (G v bw)];refine ab (ag ?_);simp only[ft,if_false];exact ag ⟨rfl,rfl,λu O=>G u (bx _ O)⟩
 .rintro ⟨r1,Z⟩ B ⟨C,rfl,_⟩
  simp only at C;subst C;exact ag h
theorem rR{k:FK}{Q:Bool->fu->Prop}(hk:g7 prog w s.heap k a)(h:Q en s):fj (gx prog w) A (ofAClassStatement 8 (.ref a)) Q E s:=by
 have G:=hk.typeIs;obtain⟨o,items,n,t,b,B,_,hd,hi,C⟩:=hk;unfold ofAClassStatement;refine ab (vz G ?_);show fj _ _ (pure cf >>= _) _ _ s;refine ab (ag ?_);simp only[qm,ft,if_false];refine ab (D4 B hd ?_);refine ab ?_;show fj _ _ (forIn items _ _) _ _ s;rw[<-Ri,hi,rp];refine ab ?_;rw[gR rfl];refine ab (ag ?_);simp only[ft,if_false];refine ag ?_;show fj _ _ (forIn [gg b] _ _) _ _ _;rw[rp];refine ab ?_;refine ab (cY (n:=6) C ?_);simp only[ft,if_false];refine ag ?_;show fj _ _ (forIn ([]:List Value) _ _) _ _ _;rw[List.forIn_nil];exact ag (ag h)
structure SK(prog:Program)(w:wy)(α:Type)[DecidableEq α] extends HeapKind prog w α where
 ig:∀{h h':Heap} {k:α} {a:Addr},(∀b o xs n,h.get? b=aV o->o.data=.seq xs n->h'.get? b=aV o)->is h k a->is h' k a
 CA:∀{A:Around} {E:Value->fu->Prop} {s:fu} {k:α} {a:Addr} {Q:Bool->fu->Prop},is s.heap k a->Q en s->fj (gx prog w) A (hashByValue 8 (.ref a)) Q E s
 cls:∀{A:Around} {E:Value->fu->Prop} {s:fu} {k:α} {a:Addr} {Q:Bool->fu->Prop},is s.heap k a->Q en s->fj (gx prog w) A (ofAClassStatement 8 (.ref a)) Q E s
 rm:∀{A:Around},A.units+10<cLine->room A
noncomputable def Ss(prog:Program)(w:wy):SK prog w FK:={ X4 prog w with ig:=λhk x=>gH hk x,CA:=λ⟨_,_,_,_,_,B,C,hd,hi,_⟩ h=>ZC B C hd hi h,cls:=λhk h=>rR hk h,rm:=λh=>h }
section
variable{α:Type}[DecidableEq α]{κ:SK prog w α}
theorem qN{k:α}{b:Addr}{Q:Bool->fu->Prop}(U:κ.is s.heap k b)(Z:∀v∈vs,∃x c,v=gg c/\κ.is s.heap x c)(h:Q en s):fj (gx prog w) A (searchCouldBeSeen (.ref b) vs) Q E s:=by
 unfold searchCouldBeSeen;refine ab ?_;refine wpAny_forIn_list _ (λrest r B=>r.1=a0/\B=s/\∀v∈rest,∃x c,v=gg c/\κ.is s.heap x c) _ ?_ ?_ _ _ ⟨rfl,rfl,Z⟩
 .rintro v rest r B ⟨C,rfl,G⟩
  obtain⟨x,c,rfl,O⟩:=G v bw;have IM:∀v∈rest,∃x c,v=gg c/\κ.is B.heap x c:=λu Y=>G u (bx _ Y)
  dsimp only;split
  .exact ag ⟨rfl,rfl,IM⟩
  .refine ab (κ.quiet U ?_)
   simp only[qm,ft,if_false];refine ab (κ.quiet O ?_);simp only[qm,ft,if_false];refine ab (κ.cls U ?_);simp only[ft,if_false];refine ab (κ.cls O ?_);simp only[ft,if_false];exact ag ⟨rfl,rfl,IM⟩
 .rintro ⟨r1,r2⟩ B ⟨C,rfl,_⟩
  simp only at C;subst C;exact ag h
end
section
variable{α:Type}[DecidableEq α]
noncomputable def fE(κ:SK prog w α)(x:α×Addr):Int×Value:=(κ.hash x.1,.ref x.2)
noncomputable def dz(κ:SK prog w α)(xs:List (α×Addr)):Array (Int×Value):=(xs.map (fE κ)).toArray
noncomputable def jf(κ:SK prog w α)(xs:List (α×Addr)):List Int:=xs.map λx=>κ.hash x.1
def Ai(mask n:Nat):Prop:=(mask=7/\n<=4)\/(mask=31/\n<=18)\/(mask=127/\n<=76)
theorem Ai.odd(h:Ai mask n):(mask % 2==0)=en:=by rcases h with ⟨rfl,_⟩ | ⟨rfl,_⟩ | ⟨rfl,_⟩<;>rfl
theorem aZ{κ:SK prog w α}(xs:List (α×Addr))(i:Nat):(dz κ xs)[i]?=xs[i]?.map (fE κ):=by simp[dz]
theorem KY{κ:SK prog w α}(xs:List (α×Addr)):(dz κ xs).size=xs.length:=by simp[dz]
structure jl(κ:SK prog w α)(h:Heap)(a:Addr)(xs:List (α×Addr))(ep:Nat)(t:SetTable):Prop extends SetB w h a (dz κ xs) ep t where
 fl:∀x∈xs,κ.is h x.1 x.2
 nd:(xs.map (·.1)).Nodup
 gd:t.Good (jf κ xs)
 sz:Ai t.mask xs.length
end
section
variable{α:Type}[DecidableEq α]{κ:SK prog w α}
open SetTable (way dv)
theorem MD{b:Addr}{k:α}{xs:List (α×Addr)}{ep:Nat}{t:SetTable}(S:jl κ s.heap a xs ep t)(hb:κ.is s.heap k b)(hu:A.units+10<cLine){Q:SetFound->fu->Prop}(Jd:k∈xs.map (·.1)->Q (.there a0) s)(sr:∀n,k∉xs.map (·.1)->way t (κ.hash k) n∉t.place.toList->(∀B,B<n->way t (κ.hash k) B∈t.place.toList)->Q (.free (way t (κ.hash k) n) en) s) :
  ∀(r C m:Nat) (Bi:Option SetTable.Probe),10*(13+t.mask)+1-m<=r->r<C->(∀n,n<m->way t (κ.hash k) n∈t.place.toList)->(∀n,n<m->∀(i:Nat) (x:α×Addr),t.place.toList[i]?=aV (way t (κ.hash k) n)->xs[i]?=aV x->x.1≠k)->Bi.getD (t.probeStart (κ.hash k))=dv t m (t.probeStart (κ.hash k))->
   fj (gx prog w) A (setSearchFrom a (.ref b) (κ.hash k) cf C Bi) Q E s:=by
 intro r
 induction r with
 | zero=>
  intro C m Bi hr hf hm hp vF;obtain⟨n,h1,h2,_⟩:=S.gd.probe (λ_=>0) (κ.hash k) hm;lia
 | succ r ih=>
  intro C m Bi hr hf hm hp vF;obtain⟨n,h1,h2,h3,h4⟩:=S.gd.probe (λi=>((dz κ xs)[i]?.map λe:Int×Value=>e.1).getD 0) (κ.hash k) hm;have Jh:∀B,B<n->way t (κ.hash k) B∈t.place.toList:=λB q=>by
   by_cases z:B<m
   .exact hm B z
   .obtain⟨i,e,_⟩:=h3 B (by lia) q
    exact gL e
  have IF:∀B,B<n->∀(i:Nat) (x:α×Addr),t.place.toList[i]?=aV (way t (κ.hash k) B)->xs[i]?=aV x->x.1≠k:=λB q i x G O e3=>by
   by_cases z:B<m
   .exact hp B z i x G O e3
   .obtain⟨l6,e,dq⟩:=h3 B (by lia) q
    obtain rfl:=S.gd.uniq G e;apply dq;show ((dz κ xs)[i]?.map λe:Int×Value=>e.1).getD 0=_;rw[aZ,O,j2,j2,Option.getD_some,fE,e3]
  cases C with
  | zero=>exact absurd hf (ki _)
  | succ C=>
   unfold setSearchFrom;refine ab (n9 S.ob rfl S.fit ?_);dsimp only;have Vl:t.gaveWay=en:=S.sz.odd;rw[Vl,vF];simp only[ft,if_false];rcases h4 with ⟨p1,p2⟩ | ⟨i,p1,p2,p3,p4⟩
   .erw [p2]
    refine ag (sr n (λq=>?_) p1 Jh);obtain⟨x,U,e⟩:=ck q;obtain⟨i,hi,ei⟩:=kR U;have su:i<t.place.toList.length:=by rw[di,S.gd.len,jf,a6];exact hi
    have G:t.place.toList[i]?=aV (t.place.toList[i]):=eg su;have O:(jf κ xs)[i]?=aV (κ.hash k):=by rw[jf,fc,eg hi,ei,j2,e]
    obtain⟨B,q1,q2⟩:=S.gd.met G O p1;exact IF B q1 i x (by rw[q2];exact G) (by rw[eg hi,ei]) e
   .erw [p4]
    dsimp only;have su:i<xs.length:=by
     have:=(fx.mp p1).1;rw[di,S.gd.len,jf,a6]at this;exact this
    obtain⟨x,U⟩:∃x,xs[i]?=aV x:=⟨xs[i],eg su⟩
    have Y:x∈xs:=gL U;have Z:(dz κ xs)[i]?=aV (κ.hash x.1,gg x.2):=by rw[aZ,U,j2,fE]
    have oQ:t.sameMemory t.moves t.mask=aV cf:=by unfold SetTable.sameMemory;rw[ah (beq_self_eq_true _)]
    have Ji:∀B,B<n+1->way t (κ.hash k) B∈t.place.toList:=λB q=>by
     by_cases z:B=n
     .rw[z];exact gL p1
     .exact Jh B (by lia)
    have IG:x.1≠k->∀B,B<n+1->∀(i:Nat) (x:α×Addr),t.place.toList[i]?=aV (way t (κ.hash k) B)->xs[i]?=aV x->x.1≠k:=λhk B q l6 zi G O=>by
     by_cases z:B=n
     .rw[z]at G
      obtain rfl:=S.gd.uniq G p1;rw[U]at O;cases O;exact hk
     .exact IF B (by lia) l6 zi G O
    cases hl:t.led with
    | true=>
     simp only[qm,ft,if_false];rw[Z];dsimp only;refine ab (fg (κ.eqBool (κ.rm hu) (S.fl x Y) hb ?_));refine ab (n9 S.ob rfl S.fit ?_);dsimp only
     by_cases hk:x.1=k
     .rw[cz hk]
      simp only[Bool.and_self,if_true];exact ag (Jd (hk▸gh Y))
     .rw[df hk]
      simp only[Bool.and_false,ft,if_false];rw[oQ];simp only[if_true];rw[p2];dsimp only;rw[Z];dsimp only;refine ab (wpAny_isSame_ref_self ?_);refine ab (ag ?_);simp only[if_true];exact ih C (n+1) _ (by lia) (by lia) Ji (IG hk) rfl
    | false=>
     simp only[A9,if_true];refine ab (qN hb (λv hv=>?_) ?_)
     .obtain⟨e,he,rfl⟩:=ck hv
      rw[Array.toList_filter]at he;have he:=(me he).1;obtain⟨y,hy,rfl⟩:=ck (show e∈xs.map (fE κ) from he);exact⟨y.1,y.2,rfl,S.fl y hy⟩
     .simp only[ft,if_false]
      rw[Z];dsimp only;refine ab (fg (κ.eqBool (κ.rm hu) (S.fl x Y) hb ?_));refine ab (n9 S.ob rfl S.fit ?_);dsimp only
      by_cases hk:x.1=k
      .rw[cz hk]
       simp only[Bool.and_self,if_true];exact ag (Jd (hk▸gh Y))
      .rw[df hk]
       simp only[Bool.and_false,ft,if_false];rw[oQ];simp only[if_true];rw[p2];dsimp only;rw[Z];dsimp only;refine ab (wpAny_isSame_ref_self ?_);refine ab (ag ?_);simp only[if_true];exact ih C (n+1) _ (by lia) (by lia) Ji (IG hk) rfl
end
end PySem
namespace PySem
open L2
open SetTable (way dv)
theorem SetTable.Good.off{t:SetTable}(G:t.Good hs)(b:Bool):SetTable.Good { t with plain:=b } hs:=
 ⟨G.R,G.d,G.F,G.le,G.len,G.fill,λi j h C O=>by
  obtain⟨k,a,c⟩:=G.w i j h C O;have B:∀k,way { t with plain:=b } h k=way t h k:=λk=>SetTable.ER (t:={ t with plain:=b }) (t':=t) rfl h k
  exact⟨k,(B k).trans a,λcb q=>by rw[B];exact c cb q⟩⟩
theorem SetTable.Good.Hx{t:SetTable}(G:t.Good hs):t.fill=hs.length:=by
 unfold SetTable.fill;rw[G.len,G.d];rfl
theorem SetTable.Good.fits{t:SetTable}{hs:List Int}(G:t.Good hs){n:Nat}(B:n=hs.length):t.fits n=cf:=by
 unfold SetTable.fits;rw[G.Hx,G.len,B];simp[G.fill]
theorem yG{α:Type}[DecidableEq α]{κ:SK prog w α}(xs:List (α×Addr))(p:Nat)(k:α)(b:Addr):SetTable.insertAt (dz κ xs) p (κ.hash k,gg b)=dz κ (xs.take p++(k,b)::xs.drop p):=by
 apply xp;rw[SetTable.Ed];simp[dz,List.map_take,List.map_drop,fE]
theorem yF{α:Type}[DecidableEq α]{κ:SK prog w α}(xs:List (α×Addr))(p:Nat)(k:α)(b:Addr):(jf κ xs).take p++κ.hash k::(jf κ xs).drop p=jf κ (xs.take p++(k,b)::xs.drop p):=by
 simp[jf,List.map_take,List.map_drop]
theorem Lj{α:Type}{xs:List α}{order:List Nat}(h:order.Perm (iS xs.length)):(order.filterMap (xs[·]?)).Perm xs:=by
 have e:(iS xs.length).filterMap (xs[·]?)=xs:=by
  apply yv;intro i;rw[SetTable.C0 λx B=>by rw[eg (my.mp B)];rfl]
  by_cases hi:i<xs.length
  .rw[List.getElem?_range hi];rfl
  .rw[kv (by simp;lia),kv (by lia)];rfl
 have:=h.filterMap (xs[·]?);rw[e]at this;exact this
section
variable{α:Type}[DecidableEq α]{κ:SK prog w α}
theorem SetB.xw{es:Array (Int×Value)}{ep:Nat}{t:SetTable}(S:SetB w h a es ep t)(B:vw a h h'){k:α}{b:Addr}(x:κ.is h k b):κ.is h' k b:=
 κ.ig (λc o xs n e d=>B.extBut c o (λz=>by rw[z,S.ob]at e;cases e;cases d) e) x
theorem mL{xs:List (α×Addr)}{ep:Nat}{t:SetTable}(S:SetB w s.heap a (dz κ xs) ep t)(fl:∀x∈xs,κ.is s.heap x.1 x.2)(nd:(xs.map (·.1)).Nodup)(hp:t.plain=en){B:Nat}(hw:SetTable.sizeAbove B=mask+1)(F:SetTable.Full mask)(hm:xs.length<=mask)(fI:mask<=127)(sz:Ai mask xs.length){Q:Unit->fu->Prop}(h:∀h' Y fh t',vw a s.heap h'->jl κ h' a Y fh t'->Y.Perm xs->Q () { s with heap:=h' }):fj (gx prog w) A (setRelay a B) Q E s:=by
 unfold setRelay;refine ab (n9 S.ob rfl S.fit ?_);dsimp only;rw[ak (by rw[hw,fS];lia)];have Z:((dz κ xs).map λe:Int×Value=>e.1).size=xs.length:=by rw[Array.size_map,KY]
 obtain⟨t',order,e1,e2,e3,e4,e5,e6,e7⟩:=SetTable.WO (finger:=t.finger) (moves:=t.movedTo mask) (led:=t.led) (plain:=t.plain) F ((dz κ xs).map λe:Int×Value=>e.1) (by rw[Z];exact hm);have er:t.relaid ((dz κ xs).map λe:Int×Value=>e.1) B=aV (t',order):=by
  unfold SetTable.relaid;rw[hw];exact e1
 rw[Z]at e6;have G:=Lj (xs:=xs) e6;generalize Jj:order.toList.filterMap (xs[·]?)=C at G;have sk:order.filterMap ((dz κ xs)[·]?)=dz κ C:=by
  apply xp;rw[Array.toList_filterMap,<-Jj];show _=(List.filterMap _ _).map (fE κ);rw[List.map_filterMap];congr 1;funext i;exact aZ xs i
 have hG:t'.Good (jf κ C):=by
  have:order.toList.filterMap (((dz κ xs).map λe:Int×Value=>e.1).toList[·]?)=jf κ C:=by
   rw[<-Jj,jf,List.map_filterMap];congr 1;funext i;rw[Array.toList_map,fc,gz,aZ];cases xs[i]?<;>rfl
  rw[<-this];exact e7
 have U:C.length=xs.length:=G.length_eq;rw[er];refine ab ?_;show fj _ _ (if ((order.filterMap ((dz κ xs)[·]?)).size != (dz κ xs).size)=cf then _ else pure (order.filterMap ((dz κ xs)[·]?),t')) _ _ _;rw[sk,ak (by simp[KY,U])];refine ag ?_;dsimp only;refine wpAny_storeSet_of S.ob rfl ?_ (by rw[KY,fS];lia);have o1:(s.heap.update a (Obj.putSet (dz κ C) t')).get? a=aV (GF (dz κ C) (ep+1) t'):=nv (Obj.putSet (dz κ C) t') S.ob rfl;have O:=tJ s.heap a (Obj.putSet (dz κ C) t');refine h _ C _ t' O ⟨⟨o1,hG.fits (by rw[KY,jf,a6]),by rw[e3];exact S.led,Or.inl (by rw[e4];exact hp)⟩,λx hx=>S.xw O (fl x (G.mem_iff.mp hx)),(G.map _).nodup_iff.mpr nd,hG,?_⟩ G;rw[e2,U];exact sz
theorem Pq{b:Addr}{k:α}{xs:List (α×Addr)}{ep:Nat}{t:SetTable}(S:jl κ s.heap a xs ep t)(hb:κ.is s.heap k b)(hu:A.units+10<cLine)(hn:k∉xs.map (·.1)->xs.length+1<=76){Q:Bool->fu->Prop}(h:∀h' U Z t' r,vw a s.heap h'->jl κ h' a U Z t'->(∀y,y∈U.map (·.1)↔y∈xs.map (·.1)\/y=k)->(∀x∈U,x∈xs\/x=(k,b))->Q r { s with heap:=h' }) :
  fj (gx prog w) A (setAddHashed a (.ref b) (κ.hash k)) Q E s:=by
 have aaq:t.mask<=127:=by rcases S.sz with q | q | q<;>lia
 unfold setAddHashed setAddHashedIn;refine fg (ab (n9 S.ob rfl S.fit ?_));dsimp only;rw[show byScan (.ref b) (dz κ xs)=en from rfl];simp only[ft,if_false];unfold setSearch;refine ab (MD S hb hu (λdr=>?_) (λn ue hw UM=>?_) (10*(13+t.mask)+1) 100000 0 a0 (by lia) (by lia) (λ_ q=>absurd q (ki _)) (λ_ q=>absurd q (ki _)) rfl)
 .exact ag (h s.heap xs ep t en (Heap.SameBut.refl a s.heap) S (λy=>⟨.inl,λq=>q.elim id λe=>e▸dr⟩) λx G=>.inl G)
 .dsimp only
  refine ab (n9 S.ob rfl S.fit ?_);dsimp only;have hn:=hn ue;have jr:(jf κ xs).length=xs.length:=by rw[jf,a6]
  have G1:=S.gd.put hw UM (SetTable.Ky t _ n) (by rw[jr];rcases S.sz with q | q | q<;>lia);have em:(t.put (way t (κ.hash k) n)).1.mask=t.mask:=rfl;have el:(t.put (way t (κ.hash k) n)).1.led=t.led:=rfl;rw[yF xs _ k b]at G1;rw[yG];generalize hX:xs.take (t.put (way t (κ.hash k) n)).2++(k,b)::xs.drop (t.put (way t (κ.hash k) n)).2=C at G1 ⊢;generalize (t.put (way t (κ.hash k) n)).1=t1 at G1 em el ⊢;have oP:C.Perm ((k,b)::xs):=by
   rw[<-hX];refine List.perm_middle.trans ?_;rw[List.take_append_drop]
  have jv:C.length=xs.length+1:=by rw[oP.length_eq];rfl
  have dE:∀y,y∈C.map (·.1)↔y∈xs.map (·.1)\/y=k:=λy=>by rw[(oP.map _).mem_iff,cj,h7,or_comm]
  have cv:∀x∈C,x∈xs\/x=(k,b):=λx G=>(cq (oP.mem_iff.mp G)).symm
  have vy:(C.map (·.1)).Nodup:=(oP.map _).nodup_iff.mpr (List.nodup_cons.mpr ⟨ue,S.nd⟩);have O:∀(B:SetTable),B.Good (jf κ C)->B.mask=t.mask->B.led=t.led->B.plain=en->fj (gx prog w) A (do
    storeSet a (dz κ C) B
    if (!false&&B.tooFull)=cf then setRelay a (OU ((dz κ xs).size+1))
    return cf) Q E s:=by
   intro B G2 CI Ub rL;have yc:B.fits (dz κ C).size=cf:=G2.fits (by rw[KY,jf,a6]);refine ab (wpAny_storeSet_of S.ob rfl ?_ (by rw[KY,fS];lia));have o1:(s.heap.update a (Obj.putSet (dz κ C) B)).get? a=aV (GF (dz κ C) (ep+1) B):=nv (Obj.putSet (dz κ C) B) S.ob rfl;have uw:=tJ s.heap a (Obj.putSet (dz κ C) B);have S1:SetB w (s.heap.update a (Obj.putSet (dz κ C) B)) a (dz κ C) (ep+1) B:=⟨o1,yc,by rw[Ub];exact S.led,.inl rL⟩
   have CS:∀x∈C,κ.is (s.heap.update a (Obj.putSet (dz κ C) B)) x.1 x.2:=λx G=>S.toSetB.xw uw (by
    rcases cv x G with q | q
    .exact S.fl x q
    .rw[q];exact hb)
   have Ij:B.fill=xs.length+1:=by rw[G2.Hx,jf,a6,jv]
   rw[KY]
   by_cases hf:B.tooFull=cf
   .rw[hf]
    simp only[A9,Bool.and_self,if_true];have vS:B.fill*5≥B.mask*3:=eW hf;rw[Ij,CI]at vS;have aaj:∀n:Nat,n<=50000->OU n=n*4:=λn q=>by unfold OU;rw[ak (by lia)]
    rcases S.sz with ⟨q1,q2⟩ | ⟨q1,q2⟩ | ⟨q1,q2⟩
    .have e:xs.length=4:=by lia
     refine ab (mL S1 CS vy rL (mask:=31) (by rw[e];decide) SetTable.Um (by lia) (by lia) (.inr (.inl ⟨rfl,by lia⟩)) λh' U Z t' sb tF Y=>ag (h h' U Z t' cf (uw.trans sb) tF (λy=>by rw[(Y.map _).mem_iff];exact dE y) λx G=>cv x (Y.mem_iff.mp G)))
    .have e:xs.length=18:=by lia
     refine ab (mL S1 CS vy rL (mask:=127) (by rw[e];decide) SetTable.Ul (by lia) (by lia) (.inr (.inr ⟨rfl,by lia⟩)) λh' U Z t' sb tF Y=>ag (h h' U Z t' cf (uw.trans sb) tF (λy=>by rw[(Y.map _).mem_iff];exact dE y) λx G=>cv x (Y.mem_iff.mp G)))
    .lia
   .have Ii:B.tooFull=en:=by simpa using hf
    rw[Ii];simp only[A9,Bool.and_false,ft,if_false];have vS:¬B.fill*5≥B.mask*3:=of_decide_eq_false Ii;rw[Ij,CI]at vS;refine ag (h _ C _ B cf uw ⟨S1,CS,vy,G2,?_⟩ dE cv);rw[CI,jv];rcases S.sz with ⟨q1,q2⟩ | ⟨q1,q2⟩ | ⟨q1,q2⟩
    .exact .inl ⟨q1,by lia⟩
    .exact .inr (.inl ⟨q1,by lia⟩)
    .exact .inr (.inr ⟨q1,by lia⟩)
  cases iF:t1.plain with
  | true=>
   simp only[if_true];refine ab (κ.CA hb ?_);simp only[ft,if_false];exact O { t1 with plain:=en } (G1.off en) em el rfl
  | false=>
   simp only[ft,if_false];refine ab (ag ?_);simp only[if_true];exact O t1 G1 em el iF
end
end PySem
namespace PySem
open L2
section
variable{α:Type}[DecidableEq α]{κ:SK prog w α}
theorem jl.at{xs:List (α×Addr)}{ep:Nat}{t:SetTable}(S:jl κ h a xs ep t)(C:∀o,h.get? a=aV o->h'.get? a=aV o)(B:∀k b,κ.is h k b->κ.is h' k b):jl κ h' a xs ep t:=
 { S with ob:=C _ S.ob,fl:=λx G=>B _ _ (S.fl x G) }
theorem jl.new{led:Bool}(G:h.get? a=aV (GF #[] 0 (.fresh 0 0 led)))(hl:led=!w.params.followText "set-order"):jl κ h a [] 0 (.fresh 0 0 led) where
 ob:=G
 fit:=rfl
 led:=hl
 pl:=.inr Eo.xn
 fl:=λx C=>nomatch C
 nd:=lu
 gd:=⟨λa b U O=>absurd O (ki _),rfl,SetTable.Uo,λj B=>(nomatch B),rfl,eC _,λi j h B=>(nomatch B)⟩
 sz:=.inl ⟨rfl,eC _⟩
structure Cb{α:Type}(prog:Program)(w:wy)(I:Addr)(fp:List Addr)(n:Nat)(P:Nat->Value->Prop)(St:Nat->Heap->Prop)(fs:List (α×Addr)):Prop where
 W:∀A:Around,A.handled=a0->Walks prog w A I fp [I] n P St
 it:∀k h,St k h->∀o xs c,h.get? I=aV o->o.data=.seq xs c->False
 P:∀i v,P i v->∃x,fs[i]?=aV x/\v=.ref x.2
 n:n=fs.length
theorem u9(hh:A.handled=a0)(hu:A.units+12<cLine){S:Addr}{P:Nat->Value->Prop}{St:Nat->Heap->Prop}{fs:List (α×Addr)}(W:Cb prog w I fp n P St fs)(hS:S∉fp)(vq:S≠I)(hU:∀ys:List α,ys.Nodup->(∀y∈ys,y∈fs.map (·.1))->ys.length<64):∀(m k:Nat) (s:fu) (xs:List (α×Addr)) (ep:Nat) (t:SetTable),n-k=m->k<=n->St k s.heap->jl κ s.heap S xs ep t->(∀x∈fs,κ.is s.heap x.1 x.2)->(∀y,y∈xs.map (·.1)↔y∈(fs.take k).map (·.1))->(∀x∈xs,x∈fs)->
  (∀h' C i7 fh t',jl κ h' S i7 fh t'->(∀y,y∈i7.map (·.1)↔y∈fs.map (·.1))->(∀x∈i7,x∈fs)->(∀b o,b≠I->b≠S->s.heap.get? b=aV o->h'.get? b=aV o)->R (.ok (.ret .none)) { s with heap:=h',toks:=C })->
  codeAny (gx prog w) A (.builtin "set.update.loop" ⟨[.ref S,.ref I],[]⟩) R s:=by
 have W1:=W.W A.in1 (by simp[hh]);intro m
 induction m with
 | zero=>
  intro k s xs ep t hm hk st Y U kU Z hR;have ju:k=n:=by lia
  subst ju;refine jc yf ?_;rw[j3 oC _];show fj _ A.in1 (pyNext (.ref I) >>= _) _ _ s;refine ab (W1.done s _ _ st λh' C B=>?_);have G:∀c b,κ.is s.heap c b->κ.is h' c b:=λc b x=>κ.ig (λc o xs n e d=>B c o (λz=>W.it _ _ st o xs n (by rw[<-fw z];exact e) d) e) x
  refine ag (hR h' C xs ep t (Y.at (λo e=>B S o (by simpa using vq) e) G) (λy=>?_) Z λb o b1 _ e=>B b o (by simpa using b1) e);rw[kU,r9 (by rw[<-W.n];exact a8 _)]
 | succ m ih=>
  intro k s xs ep t hm hk st Y U kU Z hR;have b8:k<n:=by lia
  refine jc yf ?_;rw[j3 oC _];show fj _ A.in1 (pyNext (.ref I) >>= _) _ _ s;refine ab (W1.item k s _ _ b8 st λv h' C D6 iO B=>?_);obtain⟨x,ex,rfl⟩:=W.P k v D6;have O:x∈fs:=gL ex;have G:∀c b,κ.is s.heap c b->κ.is h' c b:=λc b x=>κ.ig (λc o xs n e d=>B c o (λz=>W.it _ _ st o xs n (by rw[<-fw z];exact e) d) e) x
  have HI:jl κ h' S xs ep t:=Y.at (λo e=>B S o (by simpa using vq) e) G;show fj _ A.in1 (holding [gg x.2] (setAdd S (.ref x.2)) >>= _) _ _ { s with heap:=h',toks:=C };refine ab (fg ?_);unfold setAdd;refine fg (ab (κ.pyHash (k:=x.1) (κ.rm (by show A.units+1+10<cLine;lia)) (G _ _ (U x O)) ?_));refine Pq (s:={ s with heap:=h',toks:=C+κ.draws x.1 }) HI (G _ _ (U x O)) (by show A.units+1+10<cLine;lia) (λue=>?_) λh2 n5 rL t2 bb sb S2 m2 s2=>?_
  .have:=hU (x.1::xs.map (·.1)) (List.nodup_cons.mpr ⟨ue,Y.nd⟩) (λy hy=>by
    rcases cq hy with rfl | hy
    .exact gh O
    .obtain⟨z,hz,rfl⟩:=ck hy
     exact gh (Z z hz))
   simp at this;lia
  .have kp:∀b o,b≠S->h'.get? b=aV o->h2.get? b=aV o:=λb o hb e=>sb.extBut b o hb e
   have WJ:∀c b,κ.is h' c b->κ.is h2 c b:=λc b x=>HI.toSetB.xw sb x
   refine ag ⟨rz oC _,ih (k+1) _ n5 rL t2 (by lia) b8 (W1.frame _ _ _ iO λb hb o e=>kp b o (λz=>hS (z▸hb)) e) S2 (λx hx=>WJ _ _ (G _ _ (U x hx))) (λy=>?_) (λz hz=>(s2 z hz).elim (Z z) λe=>by rw[e];exact O) λh3 EL YE CL t3 q1 q2 q3 q4=>hR h3 EL YE CL t3 q1 q2 q3 λb o b1 b2 e=>q4 b o b1 b2 (kp b o b2 (B b o (by simpa using b1) e))⟩;have e1:fs.take (k+1)=fs.take k++[x]:=by rw[List.take_succ,ex];rfl
   rw[m2,kU,e1];simp
theorem Od{l:Addr}(Y:l≠I)(fs:List (α×Addr)):Cb prog w I [I,l] fs.length (λi v=>(fs.map λx=>gg x.2).toArray[i]?=aV v) (λi h=>h.IsListIter I l i/\h.IsList l (fs.map λx=>gg x.2).toArray) fs where
 W:=λA G=>by
  have:=Walks.list (prog:=prog) (w:=w) (A:=A) G I l Y (fs.map λx=>gg x.2).toArray;rw[dw,a6]at this;exact this
 it:=λk h st o xs c e d=>by
  obtain⟨⟨bt,C,_,B⟩,_⟩:=st;rw[e]at C;cases C;rw[d]at B;cases B
 P:=λi v h=>by
  rw[List.getElem?_toArray,fc]at h;obtain⟨x,U,O⟩:=bX h;exact⟨x,U,O.symm⟩
 n:=rfl
theorem LH{l:Addr}(Y:l≠I)(fs:List (α×Addr)):Cb prog w I [I,l] fs.length (λi v=>(fs.map λx=>gg x.2).toArray[i]?=aV v) (λi h=>h.IsTupleIter I l i/\h.IsTuple l (fs.map λx=>gg x.2).toArray) fs where
 W:=λA G=>by
  have:=Walks.tuple (prog:=prog) (w:=w) (A:=A) G I l Y (fs.map λx=>gg x.2).toArray;rw[dw,a6]at this;exact this
 it:=λk h st o xs c e d=>by
  obtain⟨⟨bt,C,_,B⟩,_⟩:=st;rw[e]at C;cases C;rw[d]at B;cases B
 P:=λi v h=>by
  rw[List.getElem?_toArray,fc]at h;obtain⟨x,U,O⟩:=bX h;exact⟨x,U,O.symm⟩
 n:=rfl
end
section
variable{α:Type}[DecidableEq α]{κ:SK prog w α}
theorem ME{l:Addr}{fs:List (α×Addr)}(hh:A.handled=a0)(hu:A.units+20<cLine)(hl:s.heap.IsList l (fs.map λx=>gg x.2).toArray\/s.heap.IsTuple l (fs.map λx=>gg x.2).toArray)(jr:∀x∈fs,κ.is s.heap x.1 x.2)(hU:∀ys:List α,ys.Nodup->(∀y∈ys,y∈fs.map (·.1))->ys.length<64)(h:∀(h':Heap) (B:Nat) xs ep t,jl κ h' s.heap.objs.size xs ep t->(∀y,y∈xs.map (·.1)↔y∈fs.map (·.1))->(∀x∈xs,x∈fs)->(∀b o,s.heap.get? b=aV o->h'.get? b=aV o)->Q (.ref s.heap.objs.size) { s with heap:=h',toks:=B }) :
  fj (gx prog w) A (call (.type "set") [.ref l]) Q E s:=by
 obtain⟨c0,tl,VQ⟩:=F.called_set.mro;have VI:=F.called_set.made;have f7:=F.called_set.sub;have VU:=F.called_set.notType;have kq:=F.called_set.canCreate;have Dm:=F.typeCall_set_1 (.ref l);refine wpAny_call (Au ?_);show fj _ _ (callAny (.type "set") _) _ _ _;refine ag ⟨Code.quiet_builtin _ (by decide +kernel),jc F.entry_type_call ?_⟩;rw[Around.under_plain (weight_type_call_type "set" [.ref l] []) rfl]
 repeat (any_goals (first | assumption | wp_step))
 refine tN (E2 (E:=E) (Q₁:=λobj bc=>obj=.ref s.heap.objs.size/\bc={ s with heap:=s.heap.push (GF #[] 0 (.fresh 0 0 (!w.params.followText "set-order"))) }) ⟨rfl,rfl⟩) λr bc hr=>?_
 cases r with
 | error e=>exact hr
 | ok fl=>
  cases fl with
  | ret obj=>
   obtain⟨rfl,rfl⟩:=hr;generalize vx:(!w.params.followText "set-order")=led;have k7:(s.heap.push (GF #[] 0 (.fresh 0 0 led))).get? s.heap.objs.size=aV (GF #[] 0 (.fresh 0 0 led)):=dm _ rfl;have hT:Shared.TypeIs { s with heap:=s.heap.push (GF #[] 0 (.fresh 0 0 led)) } (.ref s.heap.objs.size) "set":=⟨_,k7,rfl⟩
   have Vy:=F.called_set.init.lookup;have UN:=F.called_set.init.bind (.ref s.heap.objs.size)
   repeat (any_goals (first | assumption | wp_step))
   refine tN (codeAny_call_builtin (R:=wants (λr c8=>r=.none/\∃h' B xs ep t,c8={ s with heap:=h',toks:=B }/\jl κ h' s.heap.objs.size xs ep t/\(∀y,y∈xs.map (·.1)↔y∈fs.map (·.1))/\(∀x∈xs,x∈fs)/\(∀b o,s.heap.get? b=aV o->h'.get? b=aV o)) E) F.called_set.init.plain F.entry_set_init (check_set_init_1 hT ?_)) λEF c8 uh=>?_
   .have C:(s.heap.push (GF #[] 0 (.fresh 0 0 led))).objs.size=s.heap.objs.size+1:=kS ..
    have kX:∀(c:String) (d:Data),∀x∈fs,κ.is ((s.heap.push (GF #[] 0 (.fresh 0 0 led))).push { cls:=.type c,data:=d }) x.1 x.2:=λc d x hx=>κ.ig (λb o xs n e _=>cx _ (cx _ e)) (jr x hx)
    rcases hl with hl | hl
    .obtain⟨ol,G,d6,Y,Z⟩:=hl
     obtain⟨Ka,yY,Kb,y1⟩:=ol;simp only at d6 Z;subst d6;subst Z;have yi:(s.heap.push (GF #[] 0 (.fresh 0 0 led))).get? l=aV { cls:=.type "list",dict:=yY,data:=.seq (fs.map λx=>gg x.2).toArray Y,slots:=y1 }:=cx _ G;have IZ:=F.sub_list_set;have IY:=F.sub_list_frozenset;have dq:(Value.type "list" == Value.type "dict")=en:=by decide
     have jv:(s.heap.push (GF #[] 0 (.fresh 0 0 led))).IsList l (fs.map λx=>gg x.2).toArray:=⟨_,yi,rfl,Y,rfl⟩
     have b8:l<s.heap.objs.size:=bg G;unfold Builtin.«set.__init__» noKeywords Builtin.Frozenset.updateFrom;generalize xE:pyIter=PI
     wp_walk
     subst xE;refine wpAny_pyIter_list jv (ab (yu ?_));have up:∀b o,s.heap.get? b=aV o->((s.heap.push (GF #[] 0 (.fresh 0 0 led))).push { cls:=.type "list_iterator",data:=.fields #[.ref l,.int 0 0] }).get? b=aV o:=λb o e=>cx _ (cx _ e)
     refine u9 (I:=(s.heap.push (GF #[] 0 (.fresh 0 0 led))).objs.size) (S:=s.heap.objs.size) (by simp[hh]) (by first | (show A.units+1+12<cLine;lia) | (show A.units+1+1+12<cLine;lia) | (show A.units+1+1+1+12<cLine;lia) | (show A.units+1+1+1+1+12<cLine;lia)) (Od (l:=l) (by rw[C];exact cc (jn b8)) fs) (by rw[C];simp;exact iz b8) (by rw[C];exact cc (qd _)) hU _ 0 _ [] 0 (.fresh 0 0 led) rfl (eC _) ⟨⟨_,dm _ rfl,rfl,rfl⟩,jv.push _⟩ (jl.new (cx _ k7) vx.symm) (kX _ _) (λy=>by simp) (λx hx=>(nomatch hx)) λh' B i7 fh t' q1 q2 U O=>?_
     show fj _ _ _ _ _ _;refine ag (ag ⟨rfl,h',B,i7,fh,t',rfl,q1,q2,U,λb o e=>O b o ?_ ?_ (up b o e)⟩)
     .rw[C];exact cc (jn (bg e))
     .exact cc (bg e)
    .obtain⟨ol,G,d6,Y,Z⟩:=hl
     obtain⟨Ka,yY,Kb,y1⟩:=ol;simp only at d6 Z;subst d6;subst Z;have yi:(s.heap.push (GF #[] 0 (.fresh 0 0 led))).get? l=aV { cls:=.type "tuple",dict:=yY,data:=.seq (fs.map λx=>gg x.2).toArray Y,slots:=y1 }:=cx _ G;have IZ:=F.sub_tuple_set;have IY:=F.sub_tuple_frozenset;have dq:(Value.type "tuple" == Value.type "dict")=en:=by decide
     have jv:(s.heap.push (GF #[] 0 (.fresh 0 0 led))).IsTuple l (fs.map λx=>gg x.2).toArray:=⟨_,yi,rfl,Y,rfl⟩
     have b8:l<s.heap.objs.size:=bg G;unfold Builtin.«set.__init__» noKeywords Builtin.Frozenset.updateFrom;generalize xE:pyIter=PI
     wp_walk
     subst xE;refine wpAny_pyIter_tuple jv (ab (yu ?_));have up:∀b o,s.heap.get? b=aV o->((s.heap.push (GF #[] 0 (.fresh 0 0 led))).push { cls:=.type "tuple_iterator",data:=.fields #[.ref l,.int 0 0] }).get? b=aV o:=λb o e=>cx _ (cx _ e)
     refine u9 (I:=(s.heap.push (GF #[] 0 (.fresh 0 0 led))).objs.size) (S:=s.heap.objs.size) (by simp[hh]) (by first | (show A.units+1+12<cLine;lia) | (show A.units+1+1+12<cLine;lia) | (show A.units+1+1+1+12<cLine;lia) | (show A.units+1+1+1+1+12<cLine;lia)) (LH (l:=l) (by rw[C];exact cc (jn b8)) fs) (by rw[C];simp;exact iz b8) (by rw[C];exact cc (qd _)) hU _ 0 _ [] 0 (.fresh 0 0 led) rfl (eC _) ⟨⟨_,dm _ rfl,rfl,rfl⟩,jv.at λo e=>cx _ e⟩ (jl.new (cx _ k7) vx.symm) (kX _ _) (λy=>by simp) (λx hx=>(nomatch hx)) λh' B i7 fh t' q1 q2 U O=>?_
     show fj _ _ _ _ _ _;refine ag (ag ⟨rfl,h',B,i7,fh,t',rfl,q1,q2,U,λb o e=>O b o ?_ ?_ (up b o e)⟩)
     .rw[C];exact cc (jn (bg e))
     .exact cc (bg e)
   .cases EF with
    | error e=>exact uh
    | ok CY=>
     cases CY with
     | ret r=>
      obtain⟨rfl,h',B,xs,ep,t,rfl,q1,q2,U,O⟩:=uh
      repeat (any_goals (first | assumption | wp_step))
      exact h h' B xs ep t q1 q2 U O
     | _=>exact uh.elim
  | _=>exact hr.elim
end
end PySem
namespace L2
open PySem PySem.Spec PyProof.Rows
section
variable{α:Type}[DecidableEq α]{κ:SK X.prog X.w α}{lt:α->α->Bool}{R:Hp->α->Addr->Prop}{T:α->α->Prop}
def nC(lt:α->α->Bool)(R:Hp->α->Addr->Prop)(T:α->α->Prop)(K:p5)(vs:List V)(B:Hp)(Q:VK):Prop:=∃(a:Addr) (fs:List (α×Addr)),vs=[V.ref a]/\(cg K B a (fs.map λx=>V.ref x.2)\/eP K B a (fs.map λx=>V.ref x.2))/\(∀x∈fs,R B x.1 x.2)/\(∀ys:List α,ys.Nodup->(∀y∈ys,y∈fs.map (·.1))->ys.length<64)/\(∀x∈fs,∀y∈fs,T x.1 y.1)/\
 ∀(p:Addr) (ys:List (α×Addr)),B p=a0->(∀x∈ys,x∈fs)->(∀k,k∈ys.map (·.1)↔k∈fs.map (·.1))->ys.Pairwise (λx y=>lt x.1 y.1=cf)->Q (.ref p) (upd B p (.lst (ys.map λx=>V.ref x.2)))
def W9(lt:α->α->Bool)(R:Hp->α->Addr->Prop)(T:α->α->Prop)(K:p5)(x:V)(B:Hp)(Q:VK):Prop:=nC lt R T K [x] B Q
theorem nP{α β:Type}{f:α->β}:∀{l:List β} {xs:List α},l.Perm (xs.map f)->∃B:List α,B.Perm xs/\l=B.map f
 | [],xs,h=>by
  have:xs=[]:=List.map_eq_nil_iff.mp h.symm.eq_nil;subst this;exact⟨[],.nil,rfl⟩
 | b::r,xs,h=>by
  obtain⟨x,C,rfl⟩:=ck (h.mem_iff.mp bw);obtain⟨s,t,rfl⟩:=List.append_of_mem C;have G:(f x::r).Perm (f x::(s++t).map f):=h.trans ((List.perm_middle (a:=x)).map f);obtain⟨B,U,O⟩:=nP ((List.perm_cons _).mp G);exact⟨x::B,(U.cons x).trans List.perm_middle.symm,by rw[O];rfl⟩
theorem ZV(hR:∀{pi:List (Addr×Obj)} {σ:St} {H:Hp} {s:fu} {k:α} {b:Addr},Inv X pi σ H s->R H k b->κ.is s.heap k b)(hS:∀{pi:List (Addr×Obj)} {σ:St} {H:Hp} {s:fu} {fs:List (α×Addr)} {Q:VK},Inv X pi σ H s->fs.length<64->(fs.map (·.1)).Nodup->(∀x∈fs,κ.is s.heap x.1 x.2)->(∀x∈fs,∀y∈fs,T x.1 y.1)->lQ lt fs H Q->zF X pi σ s fs Q)(hu:X.A.units+20<cLine)(hc:X.calm=cf)(fT:Gl X "sorted")(dE:X.mg "sorted" = a0)(f6:Gl X "set")(fI:X.mg "set" = a0)(he:PE X e te)(cv:gm [Expr.Call (.Name "set" p2) [e] [] q2] X.env=[(en,eval (.Call (.Name "set" p2) [e] [] q2) X.env)]:=by rfl)(c6:gm [e] X.env=[(en,eval e X.env)]:=by rfl) :
  PE X (.Call (.Name "sorted" p1) [.Call (.Name "set" p2) [e] [] q2] [] q1) (λ σ H Q=>te σ H λx B=>W9 lt R T X.K x B Q):=by
 intro pi s σ H Q I h;refine Call_ (K4 I fT dE boot_sorted (XH ?_ cv rfl));have O:fj (gx X.prog X.w) X.A (eval (.Call (.Name "set" p2) [e] [] q2) X.env)
   (λv s1=>∃(S:Addr) (fs xs:List (α×Addr)) (ep:Nat) (t:SetTable) (B:Hp),v=.ref S/\Inv X pi σ B s1/\jl κ s1.heap S xs ep t/\(∀y,y∈xs.map (·.1)↔y∈fs.map (·.1))/\(∀x∈xs,x∈fs)/\(∀ys:List α,ys.Nodup->(∀y∈ys,y∈fs.map (·.1))->ys.length<64)/\(∀x∈fs,∀y∈fs,T x.1 y.1)/\
    ∀(p:Addr) (ys:List (α×Addr)),B p=a0->(∀x∈ys,x∈fs)->(∀k,k∈ys.map (·.1)↔k∈fs.map (·.1))->ys.Pairwise (λx y=>lt x.1 y.1=cf)->Q (.ref p) (upd B p (.lst (ys.map λx=>V.ref x.2)))) X.xe s:=by
  refine Call_ (K4 I f6 fI boot_set (l5 (a9 (GK he JC c6 q2 pi s σ H (λvs B=>nC lt R T X.K vs B Q) I ?_) λus s1 ⟨vs,B,C,r1,q1⟩=>?_) c6 rfl))
  .exact h
  .obtain⟨a,fs,rfl,Y,jr,d5,nT,q⟩:=q1
   obtain⟨u,rfl,ru⟩:=r1.one;cases ru;have dr:s1.heap.IsList a (fs.map λx=>gg x.2).toArray\/s1.heap.IsTuple a (fs.map λx=>gg x.2).toArray:=by
    rcases Y with Y | Y
    .obtain⟨its,rv,pl,hz⟩:=C.list Y
     rw[TQ rv]at pl;exact .inl pl.isList
    .obtain⟨its,rv,pl,hz⟩:=C.tuple Y
     rw[TQ rv]at pl;exact .inr pl
   refine ME (C.ok.hd hc) hu dr (κ:=κ) (λx U=>hR C (jr x U)) d5 λh' tk xs ep t g1 g2 g3 g4=>?_
   exact⟨_,fs,xs,ep,t,B,rfl,C.kept g4,g1,g2,g3,d5,nT,q⟩
 rw[cv];refine ny (a9 O λv s1 ai=>?_);obtain⟨S,fs,xs,ep,t,B,ev,C,ko,hm,f7,d5,nT,q⟩:=ai;refine qh ?_;subst ev;have hz:xs.length<64:=by
  have:=d5 _ ko.nd (λy hy=>(hm y).mp hy);rw[a6]at this;exact this
 refine vo kind_sorted plain_sorted entry_sorted (args_sorted1 _) ?_;unfold Builtin.«sorted»;refine ab (m:=checkCount "sorted" 1 1 _) (ag ?_);refine ab (bL (A:=X.A.in1) ko.toSetB (by rw[KY];lia) (by have:=C.ok.hd hc;simp[this]) λh1 tk d' acc i3 qt=>?_);have I2:Inv X pi σ B { s1 with heap:=h1,toks:=tk,drawn:=d' }:=(C.kept (t':=tk) i3).drawn d';obtain⟨Z,G,AA⟩:∃Z:List (α×Addr),Z.Perm xs/\acc.toList=Z.map λx=>gg x.2:=by
  have hp:acc.toList.Perm (xs.map λx=>gg x.2):=by
   have:(dz κ xs).toList.map (·.2)=xs.map λx=>gg x.2:=by
    rw[dz,b6];rfl
   rw[<-this];exact qt
  exact nP hp
 have aai:Z.length=xs.length:=G.length_eq;refine ab (t5 ?_ (by rw[AA,a6,fS];lia));rw[AA];refine ab (fg (e9 (hS (s:={ s1 with heap:=h1,toks:=tk,drawn:=d' }) (fs:=Z) (Q:=Q) I2 (by lia) ((G.map _).nodup_iff.mpr ko.nd) (λx U=>κ.ig (λb o _ _ e _=>i3 b o e) (ko.fl x (G.mem_iff.mp U))) (λx U y hy=>nT x (f7 x (G.mem_iff.mp U)) y (f7 y (G.mem_iff.mp hy))) λp ys hp mA oI=>q p ys hp (λx U=>f7 x (G.mem_iff.mp (mA.mem_iff.mp U))) (λk=>by rw[((mA.trans G).map _).mem_iff];exact hm k) oI) (λ_ s' x=>?_) λ_ _ e=>e));exact ag ⟨_,rfl,x⟩
end
theorem nR(B:X.A.units+20<cLine)(Y:X.calm=cf)(Z:Gl X "sorted")(dE:X.mg "sorted" = a0)(f6:Gl X "set")(fI:X.mg "set" = a0)(U:PE X e te)(cv:gm [Expr.Call (.Name "set" p2) [e] [] q2] X.env=[(en,eval (.Call (.Name "set" p2) [e] [] q2) X.env)]:=by rfl)(c6:gm [e] X.env=[(en,eval e X.env)]:=by rfl) :
  PE X (.Call (.Name "sorted" p1) [.Call (.Name "set" p2) [e] [] q2] [] q1) (λ σ H Q=>te σ H λx H1=>W9 YS (Q0 X.K) (λx y=>ZK x.2.2 y.2.2=cf\/x.2.1≠y.2.1) X.K x H1 Q):=
 ZV (κ:=Ss X.prog X.w) (λI h=>PJ I h) (λI d5 G O C q=>bN I B O G d5 C q) B Y Z dE f6 fI U cv c6
theorem VG{p:Str×Int}{b:Addr}(x:tK h p b):IsTupleKey (CK P w) h [.inr p.1,.inl p.2] b:=by
 obtain⟨O,B,o,C,G,n,hd⟩:=x;exact⟨o,_,n,C,G,hd,.cons (R4 (prog:=P) (w:=w)) (.cons (WT (k:=.inl p.2) ⟨B,rfl⟩) .nil)⟩
theorem uU{k:Str×Int}(e:∀b o xs n,h.get? b=aV o->o.data=.seq xs n->h'.get? b=aV o)(x:tK h k a):tK h' k a:=
 let ⟨C,B,o,G,O,n,hd⟩:=x;⟨C,B,o,e _ _ _ _ G hd,O,n,hd⟩
theorem Kg{x y:Str×Int}:([.inr x.1,.inl x.2]:List Key)=[.inr y.1,.inl y.2]↔x=y:=by
 constructor
 .intro h
  simp only[OV,Sum.inr.injEq,Sum.inl.injEq,and_true]at h;exact Prod.ext h.1 h.2
 .intro h;rw[h]
noncomputable def RU(prog:Program)(w:wy):SK prog w (Str×Int) where
 is:=tK
 hash:=λp=>tupleKeyHash (CK prog w) [.inr p.1,.inl p.2]
 draws:=λ_=>3
 room:=λA=>A.units<cLine
 inj:=λhx hy=>Kg.mp ((VG (P:=prog) (w:=w) hx).inj (VG hy))
 keeps:=λx ho hd hs=>uU (λb o xs n e d=>hs.extBut b o (λz=>by rw[z,ho]at e;cases e;rw[hd]at d;cases d) e) x
 pyHash:=λhu hk h=>wpAny_pyHash_tuple hu (VG hk) h
 eqBool:=λhu hx hy h=>wpAny_eqBool_tuple hu (VG hx) (VG hy) (by rw[decide_eq_decide.mpr Kg];exact h)
 quiet:=λhk h=>wpAny_eqIsQuiet_tuple (VG hk) h
 ig:=uU
 CA:=λ⟨_,_,_,ho,hc,_,hd⟩ h=>ZC ho hc hd rfl h
 cls:=λhk h=>cY (n:=7) (VG hk) h
 rm:=λh=>qc (qi _ 10) h
def Cs(K:p5)(H:Hp)(k:Str×Int)(b:Addr):Prop:=eP K H b [.str k.1,.int k.2]
theorem RH{k:Str×Int}{b:Addr}(I:Inv X pi σ H s)(h:Cs X.K H k b):tK s.heap k b:=by
 obtain⟨its,G,O,_⟩:=I.tuple h;obtain⟨Y,U,rfl,⟨C,rfl⟩,⟨B,rfl⟩⟩:=G.two;exact⟨C,B,O⟩
theorem nQ(B:X.A.units+20<cLine)(U:X.calm=cf)(Y:Gl X "sorted")(dE:X.mg "sorted" = a0)(f6:Gl X "set")(Z:X.mg "set" = a0)(O:PE X e te)(cv:gm [Expr.Call (.Name "set" p2) [e] [] q2] X.env=[(en,eval (.Call (.Name "set" p2) [e] [] q2) X.env)]:=by rfl)(c6:gm [e] X.env=[(en,eval e X.env)]:=by rfl) :
  PE X (.Call (.Name "sorted" p1) [.Call (.Name "set" p2) [e] [] q2] [] q1) (λ σ H Q=>te σ H λx H1=>W9 WM (Cs X.K) (λ_ _=>True) X.K x H1 Q):=
 ZV (κ:=RU X.prog X.w) (λI h=>RH I h) (λI d5 C G _ q=>bM I d5 ⟨C,G⟩ q) B U Y dE f6 Z O cv c6
end L2
namespace WL
open PySem PySem.Spec PyProof.Rows L2
theorem Bs{x:FK}{r:List FK}:r.any (λy=>eH (y=x))=cf↔x∈r:=by
 rw[tT];exact⟨λ⟨y,B,e⟩=>eW e▸B,λh=>⟨x,h,cz rfl⟩⟩
theorem zg{x:FK}:∀{l:List FK},x∈JB l↔x∈l
 | []=>by simp[JB]
 | y::r=>by
  rw[JB]
  by_cases h:y∈r
  .rw[ah (Bs.mpr h),zg,h7]
   exact⟨.inr,λq=>q.elim (λe=>e▸h) id⟩
  .rw[ak λq=>h (Bs.mp q),h7,h7,zg]
theorem zQ:∀l:List FK,(JB l).Nodup
 | []=>lu
 | y::r=>by
  rw[JB]
  by_cases h:y∈r
  .rw[ah (Bs.mpr h)];exact zQ r
  .rw[ak λq=>h (Bs.mp q)];exact List.nodup_cons.mpr ⟨λq=>h (zg.mp q),zQ r⟩
theorem NH{y z:FK}(B:MP y=cf)(C:MP z=cf):ZK y.2.2 z.2.2=cf\/y.2.1≠z.2.1:=by
 by_cases q:y.2.1=z.2.1
 .refine .inl ?_
  unfold MP at B C;rw[q]at B;cases G:y.2.2<;>cases O:z.2.2<;>simp only[G,O]at B C<;>first | rfl | (exfalso;simp_all)
 .exact .inr q
theorem WY{K:p5}{ρ:List Addr}{H:Hp}:∀{ds:List D} {ks:List FK} {vs:List V},QM ds=aV ks->a7 K ρ H ds vs->∃fs:List (FK×Addr),fs.map (·.1)=ks/\vs=(fs.map λx=>V.ref x.2)/\(∀x∈fs,Q0 K H x.1 x.2)/\∀x∈fs,At K ρ H (fD x.1) (.ref x.2)
 | [],ks,vs,e,as=>by
  cases e;cases (show vs=[] from as);exact⟨[],rfl,rfl,λx B=>(nomatch B),λx B=>(nomatch B)⟩
 | d::r,ks,vs,e,as=>by
  obtain⟨k,e1,e⟩:=az (show ((ml d).bind λk=>(QM r).map λks=>k::ks)=aV ks from e);obtain⟨dk,Z,rfl⟩:=bX e;obtain⟨v,us,rfl,C,a2⟩:=as;have hd:=rM e1;subst hd;obtain⟨b,rfl,G⟩:=X3 C;obtain⟨fs,Y,rfl,U,O⟩:=WY Z a2;refine⟨(k,b)::fs,by rw[cj,Y],rfl,λx B=>?_,λx B=>?_⟩
  .rcases cq B with rfl | B
   .exact G
   .exact U x B
  .rcases cq B with rfl | B
   .exact C
   .exact O x B
theorem yE{fs:List (FK×Addr)}(g:∀x∈fs,At K ρ H (fD x.1) (.ref x.2)){l:List (FK×Addr)}(hl:∀z∈l,z∈fs):a7 K ρ H (l.map (fD∘(·.1))) (l.map λx=>V.ref x.2):=UW λz B=>g z (hl z B)
section
variable{a:Expr}
theorem mV(ha:PE X a (tD C X.K pa))(mu:Bool:=en)(hu:X.A.units+20<cLine:=by assumption)(hc:X.calm=cf:=by kernel_rfl)(fT:Gl X "sorted":=by kernel_rfl)(dE:X.mg "sorted" = a0:=by assumption)(f6:Gl X "set":=by kernel_rfl)(fI:X.mg "set" = a0:=by assumption)(cv:gm [Expr.Call (.Name "set" p2) [a] [] q2] X.env=[(en,eval (.Call (.Name "set" p2) [a] [] q2) X.env)]:=by kernel_rfl)(c6:gm [a] X.env=[(en,eval a X.env)]:=by kernel_rfl):
  PE X (.Call (.Name "sorted" p1) [.Call (.Name "set" p2) [a] [] q2] [] q1) (tD C X.K (.b1 (.Be mu) pa)):=
 V9 (r:=λx H1 Q=>W9 YS (Q0 X.K) (λx y=>ZK x.2.2 y.2.2=cf\/x.2.1≠y.2.1) X.K x H1 Q) (f:=cw (.Be mu)) (nR hu hc fT dE f6 fI ha cv c6) (by
  intro ρ m U H dx d x Q M ax e q;obtain⟨xs,e1,e⟩:=az (show ((QF dx m).bind λxs=>(QM xs).bind λks=>if (JB ks).length<64/\ks.all MP=cf then aV (bj mu ((HN (JB ks)).map fD) m) else a0)=aV (d,U) from e);obtain⟨ks,e2,e⟩:=az e
  by_cases h:(JB ks).length<64/\ks.all MP=cf
  .rw[ah h]at e
   have au:bj mu ((HN (JB ks)).map fD) m=(d,U):=b5 e;obtain⟨p,vs,rfl,hq,as⟩:=qM M ax e1;obtain⟨fs,B,rfl,g3,g4⟩:=WY e2 as;have ok:=nq h.2;refine⟨p,fs,rfl,hq,g3,λys hn O=>?_,λy G z hz=>NH (ok y.1 (by rw[<-B];exact gh G)) (ok z.1 (by rw[<-B];exact gh hz)),λfm ys hp f7 O Y=>?_⟩
   .refine qc (hn.length_le_of_subset λy G=>zg.mpr ?_) h.1
    rw[<-B];exact O y G
   .have IL:(ys.map (·.1)).Pairwise (λa b=>YS a b=cf):=by rw[L5];exact Y
    have cS:(ys.map (·.1)).Nodup:=IL.imp λq z=>by rw[z,rV.mI]at q;cases q
    have Z:ys.map (·.1)=HN (JB ks):=mH ((xA cS (zQ ks)).mpr λk=>by rw[zg,<-B];exact O k) IL;have c9:eA X.K ρ H (bj mu ((HN (JB ks)).map fD) m).1 (bj mu ((HN (JB ks)).map fD) m).2 Q:=by rw[au];exact q
    refine c9.lst M ?_ hp;rw[<-Z,b6];exact yE g4 f7
  .rw[ak h]at e
   cases e) λ_ _=>rfl
end
end WL
namespace L2
open PySem PySem.Spec PyProof.Rows
noncomputable def G0(a:Addr)(o:Obj)(kvs:List (Key×V)):It:=
 ⟨λi H=>H a=aV (.bp o (.dK kvs))/\∃p,kvs[i]?=aV p,λi H x aa=>aa=H/\∃p,kvs[i]?=aV p/\x=kV p.1,λi H=>H a=aV (.bp o (.dK kvs))/\kvs.length<=i⟩
theorem BS{o:Obj}{es:Array DictEntry}{ep:Nat}(ok:eL P w H h)(e:H a=aV (.bp o (.dK kvs)))(C:o.data=.dict es ep):∃vs,KV kvs vs/\h.DictAt (CK P w) a vs ep:=by
 obtain⟨B,_,_,vs,U,bt,je,fh,O,Z,G,Y⟩:=(show dS P w H h a (.bp o (.dK kvs)) from ok a _ e)
 rw[B]at O;cases O;rw[C]at G;cases G;exact⟨vs,U,o,es,B,Z,C,Y⟩
theorem cG{vs:List (Key×Value)}(h:KV kvs vs):vs.length=kvs.length:=by
 induction h with
 | nil=>rfl
 | cons _ _ B=>simp[B]
theorem Qt{vs:List (Key×Value)}(h:KV kvs vs):∀{i:Nat} {p:Key×V},kvs[i]?=aV p->∃v,vs[i]?=aV (p.1,v):=by
 induction h with
 | nil=>intro i p e;simp at e
 | cons a b B=>
  intro i p e;cases i with
  | zero=>
   simp only[List.getElem?_cons_zero,Option.some.injEq]at e;subst e
   rename_i x y _ _
   exact⟨y.2,congrArg aV (Prod.ext a.1.symm rfl)⟩
  | succ i=>exact B (by simpa using e)
theorem MX{k:Key}(h:(CK P w).is k u=cf):RelV (kV k) u:=by
 have h:JQ k u=cf:=h;cases k with
 | inl i=>cases u<;>first | (cases h;done) | (simp[JQ,Value.isInt]at h;subst h;exact⟨_,rfl⟩)
 | inr x=>cases u<;>first | (cases h;done) | (simp[JQ,Value.isStrOf]at h;subst h;exact⟨_,rfl⟩)
theorem wU{o:Obj}{es:Array DictEntry}{ep:Nat}(a it:Addr)(kvs:List (Key×V))(he:o.data=.dict es ep):Turn P w K tg (G0 a o kvs) [it] it (λi h=>h.IsKeyIter it a i kvs.length ep) where
 mem:=by simp
 obj:=λi h st b B=>by
  have e:b=it:=by simpa using B
  subst e;obtain⟨o,e,c,d⟩:=st;exact⟨o,e,λv z=>by rw[d]at z;cases z⟩
 keep:=λi h h' st k=>st.at λo e=>k it (by simp) o e
 item:=by
  intro X hP Z hK hc i pi s σ H E I O st hg;subst hP Z hK;obtain⟨hq,p,G⟩:=hg;obtain⟨vs,C,dd⟩:=BS I.aS hq he;obtain⟨v,hv⟩:=Qt C G;obtain⟨f0,f1,f2,f3,f4,f5⟩:=O it (by simp);refine wpAny_pyNext_dict_item (by rw[cG C];exact st) dd hv λU h' hk Y sb=>?_
  rw[cG C]at Y;have I1:Inv X pi σ H { s with heap:=h' }:=I.turned (t':=s.toks) (λb o B e=>(sb.2 b B).trans e) f0 f1 f3 f4 f5;exact⟨U,rfl,letGo_keyiter (s':={ s with heap:=h' }) Y ⟨kV p.1,H,I1,MX hk,⟨rfl,p,G,rfl⟩,Y,λb B=>(O b B).1⟩⟩
 done:=by
  intro X hP Z hK hc i pi s σ H E I O st hg;subst hP Z hK;obtain⟨hq,G⟩:=hg;obtain⟨vs,C,dd⟩:=BS I.aS hq he;obtain⟨f0,f1,f2,f3,f4,f5⟩:=O it (by simp);exact wpAny_pyNext_dict_end (I.ok.hd hc) (by rw[cG C];exact st) dd (kv (by rw[cG C];exact G)) λh' eb=>⟨rfl,I.turned (t':=s.toks) (λb o B e=>eb b o B e) f0 f1 f3 f4 f5⟩
 self:=λ_ _ _ _ _ st h=>wpAny_pyIter_keyiter st h
theorem Nj{l:Expr}{tl:TE}(hl:PE X l tl):PI X tg l (λ σ H R=>tl σ H λx C=>∃a o kvs,x=.ref a/\C a=aV (.bp o (.dK kvs))/\R (G0 a o kvs) C):=by
 intro pi s σ H R I h;refine a9 (hl pi s σ H _ I h) λv s1 ai=>?_
 obtain⟨x,C,B,Y,q1⟩:=ai;obtain⟨a,o,kvs,e,G,q⟩:=q1;subst e;cases Y;obtain⟨ho,_,lo,i6,aaB,bt,es,ep,U,g2,O,g4⟩:=(show dS X.prog X.w C s1.heap a (.bp o (.dK kvs)) from B.aS a _ G)
 rw[ho]at U;cases U;obtain⟨vs,Z,dd⟩:=BS B.aS G O;refine wpAny_pyIter_dict lo dd ?_;refine⟨s1.heap.objs.size,[s1.heap.objs.size],_,_,C,rfl,B.kept (t':=s1.toks) λb o e=>cx _ e,wU a _ kvs O,⟨_,dm _ rfl,rfl,by rw[cG Z];rfl⟩,λb hb=>?_,q⟩;have e:b=s1.heap.objs.size:=by simpa using hb
 subst e;exact B.qj (a8 _) (B.aS.fresh (a8 _))
end L2
namespace WL
open PySem PySem.Spec PyProof.Rows L2
theorem Qy:∀x:Key,At K ρ H (eK x) (kV x)
 | .inl _=>rfl
 | .inr _=>rfl
section
variable{a:Expr}
theorem aW(ha:PE X a (tD C X.K pa)):PI X tg a (l7 C X.K (.keys pa)):=(Nj ha).imp λ σ H R ai=>by
 obtain⟨aj,m,ρ,w,af,S,M,e,q⟩:=ai;obtain⟨⟨x,m1⟩,e1,e⟩:=az e;refine⟨aj,m,ρ,x,m1,S,M,e1,λv H1 aq g1 M1 A1=>?_⟩;cases x with
 | ao ks vs=>
  cases e;obtain⟨p,o,kvs,rfl,hp,hk,as⟩:=A1;refine⟨p,o,kvs,rfl,hp,q _ H1 aq g1 M1 λi ρ' af aa hf hr i9 _=>?_⟩;have G:=hf _ _ _ hp;have hl:ks.length=kvs.length:=by rw[<-hk,a6]
  refine⟨λd Y=>?_,λB=>⟨G,by rw[<-hl];simpa using B⟩⟩;rw[fc]at Y;obtain⟨y,U,rfl⟩:=bX Y;rw[<-hk,fc]at U;obtain⟨fm,O,rfl⟩:=bX U;refine⟨⟨G,fm,O⟩,λz H2 yl=>?_⟩;obtain⟨rfl,p2,Z,rfl⟩:=yl;rw[O]at Z;cases Z;exact⟨.refl _,Qy _⟩
 | _=>cases e
theorem MH{p0:Pos}(ho:PE X a (tD C X.K pa))(iE:vb a "pop" X.env (eval a X.env)=eval a X.env:=by kernel_rfl)(nS:((backTo bP (gm [Expr.Constant (.int 0) j p0] X.env)).all (λx=>!x.1)&&(backToKw bP (keywordEach [] X.env)).all (λx=>x.1.isSome)
   &&eH (([Expr.Constant (.int 0) j p0]:List Expr).length+([]:List Keyword).length+(if ([]:List Keyword).isEmpty then 0 else 1)<30))=cf:=by kernel_rfl)(i4:(apos.endLine==bP.line)=cf:=by kernel_rfl)(hs:gm [Expr.Constant (.int 0) j p0] X.env=[(en,eval (Expr.Constant (.int 0) j p0) X.env)]:=by kernel_rfl):PE X (.Call (.Attribute a "pop" apos) [.Constant (.int 0) j p0] [] bP) (tD C X.K (.EB pa)):=
 (fX zB PySem.F.slot_list_pop PySem.F.type_list_pop Lr ho (GK qW JC hs) iE nS i4 hs rfl).imp λ σ H Q ai=>by
 obtain⟨aj,m,ρ,d,af,S,M,e,q⟩:=ai;obtain⟨⟨x,G⟩,e1,e⟩:=az e;refine⟨aj,m,ρ,x,G,S,M,e1,λv Z Y g1 M1 A1=>?_⟩;cases x with
 | aI i=>
  obtain⟨p,hi,rfl⟩:=A1;have e:(match G[i]? with
   | some (.lst (d::r))=>aV (d,G.set i (.lst r))
   | _=>a0)=aV (d,af):=e
  split at e
  .rename_i d' r hm
   cases e;obtain⟨vs,hp,as⟩:=M1.at' i p _ hi hm;obtain⟨y,B,rfl,a3,ar⟩:=as;have eI:HS Z (upd Z p (.lst B)):=λil bt iu O=>by
    rw[CJ]
    .exact O
    .rintro rfl;rw[hp]at O;cases O
   obtain⟨M4,U⟩:=M1.write (o:=.lst B) (q:=.lst r) hi ⟨_,CT,ar.dn eI (.refl _)⟩;refine⟨.inl ⟨rfl,_,.of hp⟩,p,y::B,0,0,y,rfl,rfl,hp,by decide,by decide,by simp[seqIndex?],rfl,q _ _ Y (g1.trans U) M4 ((a3.dn (λ_ _ _ z=>z) (.take Y i)).mono M1 U)⟩
  .cases e
 | _=>cases e
end
end WL
namespace L2
open PySem PySem.Spec PyProof.Rows
def Rr(td te:TE):TE:=λ σ H Q=>td σ H λx C=>∃a,x=.ref a/\Ab C a/\te σ C λy B=>∃b ob kvs more,y=.ref b/\B a=aV (.dK kvs)/\B b=aV (.bp ob (.dK more))/\kvs.length+more.length<=sizeLine/\Q .aE (upd B a (.dK (JN kvs more)))
theorem Nr(ho:PE X o td)(he:PE X e te)(m:M1 X o "update" apos e bP):PE X (.Call (.Attribute o "update" apos) [e] [] bP) (Rr td te):=by
 intro pi s σ H Q I h;refine wpAny_Call_method m.base m.Ap m.line PySem.F.plainAttrs_dict PySem.F.slot_dict_update PySem.F.type_dict_update (a9 (ho pi s σ H _ I h) λu s1 U=>?_);obtain⟨x,H1,I1,rx,a,ex,d,q1⟩:=U;subst ex;obtain rfl:u=gg a:=rx;obtain⟨t1,t2,_⟩:=jP I1 d;refine⟨t1,t2,?_⟩;rw[m.trees];refine L3 rfl (Calls.evalArgs_plain (ny (a9 (he pi s1 σ H1 _ I1 q1) λiv s2 U=>?_)));obtain⟨y,H2,Y,ry,b,ob,kvs,more,ey,O,G,hz,q2⟩:=U;refine qh ?_;subst ey;obtain rfl:iv=gg b:=ry;obtain⟨z,hd,vs,rel,dd⟩:=B3 Y.aS O;obtain⟨z2,C,ws,Kj,ot⟩:=RD Y.aS (.inr ⟨ob,G⟩);have dq:a≠b:=by
  rintro rfl;rw[O]at G;cases G
 refine call_meetsIn PySem.F.slot_dict_update dd.typeIs PySem.F.entry_dict_update (PySem.F.args_dict_update_2 _ _) (meets_dict_update (CK X.prog X.w) a b dq C) ⟨vs,ws,dd,ot,by rw[<-rel.length,<-Kj.length];exact hz,λh' Z _ hs=>?_⟩;have B:∃q,h'.get? a=aV q:=let ⟨q,_,_,B,_⟩:=Z;⟨q,B⟩
 have hl:(JN kvs more).length<=sizeLine:=fN (KJ more kvs) hz;exact⟨.aE,_,XC (t':=s2.toks) Y (by rw[O];exact True.intro) hs B (cV hl hd (Kj.merge rel) Z),rfl,q2⟩
end L2
namespace WL
open PySem PySem.Spec PyProof.Rows L2
section
variable{a:Expr}
theorem Pu(ho:PE X a (tD C X.K pa))(he:PE X b (tD C X.K pb))(mm:M1 X a "update" apos b bP:=by constructor<;>kernel_rfl):PE X (.Call (.Attribute a "update" apos) [b] [] bP) (tD C X.K (.upd pa pb)):=
 (Nr ho he mm).imp λ σ H Q ai=>by
 obtain⟨aj,m,ρ,d,af,S,M,e,q⟩:=ai;obtain⟨⟨x,m1⟩,e1,e⟩:=az e;obtain⟨⟨B,Hs⟩,e0,e⟩:=az e;obtain⟨⟨y,G⟩,e2,e⟩:=az e;refine⟨aj,m,ρ,x,m1,S,M,e1,λv H1 aq g1 M1 A1=>?_⟩;obtain⟨p,yy,rfl,yk,_⟩:=QB M1 A1 e0;refine⟨p,rfl,.inl ⟨yy,yk⟩,aj,m1,aq,y,G,S.mono M g1,M1,e2,λu Y O g2 M2 A2=>?_⟩;have lj:=A1.mono M1 g2;cases x with
 | aI i=>
  cases y with
  | ao ks vs=>
   obtain⟨fm,hi,e6⟩:=lj;cases e6;have e:(match G[i]? with
    | some (.ao B i6)=>if D.clean.cK vs&&eH (B.length+ks.length<=1000) then aV (D.aE,G.set i (.ao (FQ B i6 ks vs).1 (FQ B i6 ks vs).2)) else a0
    | _=>a0)=aV (d,af):=e
   split at e
   .rename_i Ek Kx hm
    split at e
    .rename_i hz
     rw[gS,decide_eq_true_eq]at hz;cases e;obtain⟨kvs,hp,hk,as⟩:=M2.at' i p _ hi hm;obtain⟨jm,ob,more,rfl,hb,Z,qb⟩:=A2;have eI:HS Y (upd Y p (.dK (JN kvs more))):=λil bt iu U=>by
      rw[CJ]
      .exact U
      .rintro rfl;rw[hp]at U;cases U
     have l1:kvs.length=Ek.length:=by rw[<-hk,a6]
     have l2:more.length=ks.length:=by rw[<-Z,a6]
     have kp:=ee.Bb (K:=X.K) (ρ:=O.take i) (H:=upd Y p (.dK (JN kvs more))) (ee.dn eI (.refl _) ⟨hk,as⟩) ⟨Z,qb.clean (ρ':=O.take i) eI hz.1⟩;obtain⟨M4,g4⟩:=M2.write (o:=.dK (JN kvs more)) (q:=.ao (FQ Ek Kx ks vs).1 (FQ Ek Kx ks vs).2) hi ⟨_,CT,kp⟩;exact⟨jm,ob,kvs,more,rfl,hp,hb,by rw[l1,l2,fS];lia,q _ _ O (g1.trans (g2.trans g4)) M4 rfl⟩
    .cases e
   .cases e
  | _=>cases e
 | _=>cases e
end
end WL
namespace PySem
open Sem (wp)
namespace F
theorem TU:typeLookup (.type "list") (fi "keys")=pure a0:=by rw[rX,r6];kernel_rfl
end F
theorem yJ{o:Obj}{xs:Array Value}{k:Nat}{Q:Option Value->fu->Prop}(O:s.heap.get? a=aV o)(U:o.cls=.type "list")(Z:o.data=.seq xs k)(hd:o.dict=a0)(hA:A.handled=a0)(h:∀h' B,(∀b ob,s.heap.get? b=aV ob->h'.get? b=aV ob)->Q a0 { s with heap:=h',toks:=B }):fj (gx prog w) A (getAttr? (.ref a) "keys") Q E s:=by
 obtain⟨c,ao,dat,sl⟩:=o;simp only at U Z hd;subst U Z hd;obtain⟨hp,g,d,B,os⟩:=s;have Y:∀C,(⟨hp,g,d,C,os⟩:fu).TypeIs (.ref a) "list":=λ_=>⟨_,O,rfl⟩
 have f1:=sub_AttributeError;have f3:=F.slot_list_getattribute.lookup;have f4:=F.slot_list_getattribute.bind (.ref a);have f5:=am_list_getattr_none;have n1:(["__module__","__name__","__qualname__","__doc__","__annotations__"]:List Str).contains (fi "keys")=en:=by decide +kernel
 have n2:(fi "keys").length+100<=sizeLine:=by decide +kernel
 unfold getAttr? getAttrBy? getAttrBy
 repeat (any_goals (first | assumption | exact Y _ | ((with_reducible show fj _ _ (call (Value.builtin "list.__getattribute__") _ _) _ _ _);refine call_meets F.slot_list_getattribute (Y _) am_entry_list_getattribute (F.args_list_getattribute_2 _ _) (meets_getattribute_miss_list a xs k sl (fi "keys") _ F.TU n1 n2) ⟨O,hA,λh' C e G=>?_⟩) | wp_step))
 obtain⟨t',iu,he⟩:=G.there;show fj _ _ (getattributeRaised _ _ _ _ _ _ _) _ _ _;unfold getattributeRaised
 repeat (any_goals (first | assumption | wp_step))
 exact h _ _ G.keeps
section
variable{K:Type}[DecidableEq K]{knd:KeyKind prog w K}
theorem OC{d t:Addr}(hh:A.handled=a0)(Dr:d≠t)(hit:it≠t)(ua:d≠it)(jw:∀u∈us,u≠.ref d/\u≠.ref it)(hz:us.length<=1000):
  ∀(n i:Nat) (s:fu) (ps:List (K×Value)) (kvs:List (K×Value)),us.length-i=n->i<=us.length->s.heap.IsListIter it t i->s.heap.IsList t us.toArray->ja knd s.heap (us.drop i) ps->s.heap.DictOf knd d kvs->kvs.length+ps.length<=2000->
   (∀h' tk,h'.DictOf knd d (ps.foldl (λacc p=>stored acc p.1 p.2) kvs)->(∀b o,b≠d->b≠it->s.heap.get? b=aV o->h'.get? b=aV o)->R (.ok (.ret .none)) { s with heap:=h',toks:=tk })->
   codeAny (gx prog w) A (.builtin "dict.update.loop" ⟨[.ref d,.ref it,qf i,.none],[]⟩) R s:=by
 intro n
 induction n with
 | zero=>
  intro i s ps kvs hn hi hI hT Z hD hl hR;refine jc F.Am ?_;rw[j3 F.ro _];unfold Builtin.«dict.update.loop»;have DU:us.drop i=[]:=List.drop_eq_nil_of_le (by lia);rw[DU]at Z;cases Z;refine ab (wpAny_pyNext_list_end (A:=A.in1) hh hI hT (by simp;lia) λh' hk=>?_);refine ab (m:=Builtin.Dict.addKeywords d []) (ag ?_);refine ag (hR h' s.toks ?_ λb o _ O e=>hk b o O e);obtain⟨o,es,ep,B,r⟩:=hD;exact⟨o,es,ep,hk _ _ ua B,r⟩
 | succ n ih=>
  intro i s ps kvs hn hi hI hT Z hD hl hR;refine jc F.Am ?_;rw[j3 F.ro _];unfold Builtin.«dict.update.loop»;have b8:i<us.length:=by lia
  have Dq:us.drop i=us[i]::us.drop (i+1):=List.drop_eq_getElem_cons b8;rw[Dq]at Z;cases Z with
  | @cons u p EN qV q rest=>
  obtain⟨a,key,ea,hk,ha⟩:=q;have kU:=jw us[i] (List.getElem_mem b8);refine ab (wpAny_pyNext_list_item hI hT (x:=us[i]) (by simp[b8]) λC kT cv=>?_);have Dk:vp C a #[key,p.2]:=let ⟨o,B,G⟩:=ha;⟨o,(cv.2 a (λz=>kU.2 (by rw[ea,z]))).trans B,G⟩
  have xF:C.IsList t us.toArray:=let ⟨o,B,G⟩:=hT;⟨o,(cv.2 t (Ne.symm hit)).trans B,G⟩
  have C9:C.DictOf knd d kvs:=let ⟨o,es,ep,B,r⟩:=hD;⟨o,es,ep,(cv.2 d ua).trans B,r⟩
  have Dg:ja knd C (us.drop (i+1)) qV:=ja.keep (d:=d) (it:=it) rest (λu hu=>jw u (List.mem_of_mem_drop hu)) λb o _ O e=>(cv.2 b O).trans e
  dsimp only;rw[ea];refine ab (fg ?_);have U:fj (gx prog w) A.in1 (Builtin.Dict.pairItems (.ref a)) (λl s'=>l=[key,p.2]/\s'={ s with heap:=C }) (λ_ _=>False) { s with heap:=C }:=by
   obtain⟨o,B,G,m,hd⟩:=Dk;unfold Builtin.Dict.pairItems;refine ab (vz (T:="tuple") ⟨o,B,G⟩ ?_);rw[ah (by simp)];refine ab (D4 B hd (ag ⟨by simp,rfl⟩))
  refine ab (wpAny_tryCatch (e9 U (λl s' DE=>?_) λ_ _ f=>f.elim));obtain⟨rfl,rfl⟩:=DE;have Y:kvs.length<=sizeLine:=by rw[fS];lia
  refine fg (wpAny_dictSet_pairs (s:={ s with heap:=C }) hk C9 (λh2 Dc c6=>?_) Y);refine ag ⟨rz F.ro _,?_⟩;have ei:(i:Int)+1=((i+1:Nat):Int):=by lia
  rw[ei];have ju:∀b o,b≠d->C.get? b=aV o->h2.get? b=aV o:=λb o O e=>(c6.2 b O).trans e
  refine ih (i+1) { s with heap:=h2,toks:=s.toks+1 } qV (stored kvs p.1 p.2) (by lia) (by lia) (kT.at λo e=>ju it o (Ne.symm ua) e) (let ⟨o,B,G⟩:=xF;⟨o,ju t o (Ne.symm Dr) B,G⟩)
   (ja.keep (d:=d) (it:=it) Dg (λu hu=>jw u (List.mem_of_mem_drop hu)) λb o O _ e=>ju b o O e) Dc ?_ λh' tk C8 dC=>?_
  .have:=fH kvs p.1 p.2
   rw[hJ]at hl;lia
  .exact hR h' tk C8 λb o xN xS e=>dC b o xN xS (ju b o xN ((cv.2 b xS).trans e))
theorem OE{t:Addr}{o:Obj}{m:Nat}{ps:List (K×Value)}(hh:A.handled=a0)(ho:s.heap.get? t=aV o)(hc:o.cls=.type "list")(hd:o.dict=a0)(gu:o.data=.seq us.toArray m)(hP:ja knd s.heap us ps)(hz:us.length<=1000)(UO:t4<s.heap.objs.size)(h:∀h' tk,h'.DictOf knd s.heap.objs.size (ps.foldl (λacc p=>stored acc p.1 p.2) [])->(∀b ob,s.heap.get? b=aV ob->h'.get? b=aV ob)->Q (.ref s.heap.objs.size) { s with heap:=h',toks:=tk }) :
  fj (gx prog w) A (call (.type "dict") [.ref t]) Q E s:=by
 refine callType_codes (Q₁:=λobj bc=>obj=.ref s.heap.objs.size/\bc={ s with heap:=s.heap.push { cls:=.type "dict",data:=.dict #[] } }) F.kt_called_dict (F.kt_typeCall_dict_1 _) F.entry_dict_init (kt_code_dict_new _ ⟨rfl,rfl⟩) ?_;rintro obj bc ⟨rfl,rfl⟩;have C:(s.heap.push { cls:=.type "dict",data:=.dict #[] }).DictOf knd s.heap.objs.size []:=Heap.DictOf.new s.heap;refine⟨C.typeIs,F.args_dict_init_2 _ _,?_⟩;generalize hH:s.heap.push { cls:=.type "dict",data:=.dict #[] }=H1 at C;have O:∀b ob,s.heap.get? b=aV ob->H1.get? b=aV ob:=λb ob e=>by rw[<-hH];exact cx _ e
 have cv:H1.objs.size=s.heap.objs.size+1:=by rw[<-hH,kS]
 have yo:t<s.heap.objs.size:=bg ho;unfold Builtin.«dict.__init__»;refine ab ?_;unfold Builtin.Dict.selfAndRest;refine ab (wpAny_notOrdered_dict C.typeIs ?_);show fj _ _ (pure (s.heap.objs.size,[gg t])) _ _ _;refine ag ?_;show fj _ _ (Builtin.Dict.updateFrom "dict.__init__" s.heap.objs.size (.ref t) [] .none) _ _ _;unfold Builtin.Dict.updateFrom;refine ab (vz (T:="list") ⟨o,O _ _ ho,hc⟩ ?_);rw[ah (by decide)];refine ab (yJ (s:={ s with heap:=H1 }) (O _ _ ho) hc gu hd (show A.in1.in1.handled=a0 from hh) λB tk G=>?_);rw[ah (by rfl)];refine ab (mE ?_);have sf:B.IsList t us.toArray:=⟨o,G _ _ (O _ _ ho),hc,m,gu⟩
 refine ab (wpAny_pyIter_list (s:={ s with heap:=B,toks:=tk }) sf ?_);refine ag ⟨rz F.ro _,?_⟩;have Z:s.heap.objs.size<B.objs.size:=by
  obtain⟨od,_,_,lT,_⟩:=C;exact bg (G _ _ lT)
 have jw:∀u∈us,∃a,u=.ref a/\a<s.heap.objs.size:=λu U=>hP.mem u U
 have k3:∀b ob,B.get? b=aV ob->(B.push { cls:=.type "list_iterator",data:=.fields #[.ref t,.int 0 0] }).get? b=aV ob:=λb ob e=>cx _ e
 refine OC (knd:=knd) (A:=A.in1) (it:=B.objs.size) (t:=t) (us:=us) hh (iz yo) (iz (L4 yo Z)) (cc Z) (λu U=>?_) hz us.length 0 _ ps [] (by lia) (eC _) ⟨_,dm _ rfl,rfl,rfl⟩
  (let ⟨ob,e,c⟩:=sf;⟨ob,k3 _ _ e,c⟩) ?_ ?_ ?_ λh' ri hD hk=>?_
 .obtain⟨a,rfl,Y⟩:=jw u U
  exact⟨λz=>by cases z;exact iA _ Y,λz=>by cases z;exact iA _ (L4 Y Z)⟩
 .rw[List.drop_zero]
  refine ja.keep (d:=s.heap.objs.size) (it:=s.heap.objs.size) hP (λu U=>?_) λb ob _ _ e=>k3 _ _ (G _ _ (O _ _ e))
  obtain⟨a,rfl,Y⟩:=jw u U;exact⟨λz=>by cases z;exact iA _ Y,λz=>by cases z;exact iA _ Y⟩
 .obtain⟨od,es,ep,lT,r⟩:=C
  exact⟨od,es,ep,k3 _ _ (G _ _ lT),r⟩
 .have e:us.length=ps.length:=Paired.length hP
  simp only[List.length_nil];lia
 .refine⟨rfl,h h' ri hD λb ob e=>hk b ob (cc (bg e)) (cc (L4 (bg e) Z)) (k3 _ _ (G _ _ (O _ _ e)))⟩
end
end PySem
namespace L2
open PySem PySem.Spec PyProof.Rows
theorem sE(O:X.calm=cf):gc X (.type "dict") (λxs H Q=>∃a vs kvs,xs=[.ref a]/\cg X.K H a vs/\zH X.K H vs kvs/\kvs.length<=1000/\∀p,H p=a0->Q (.ref p) (upd H p (.dK (JN [] kvs)))):=by
 intro pi s σ H xs us Q I r h;obtain⟨a,vs,kvs,rfl,U,hp,hz,q⟩:=h;obtain⟨u,rfl,G⟩:=vals1 r;cases G;obtain⟨its,B,pl,kH⟩:=I.list U;obtain⟨o,e,d6,hd,m,gu⟩:∃o,s.heap.get? a=aV o/\o.cls=.type "list"/\o.dict=a0/\∃m,o.data=.seq its.toArray m:=by
  obtain⟨o,n,h1,h2,h3,Z⟩:=pl;exact⟨o,h1,h2,h3,n,Z⟩
 obtain⟨ps,DD,D3⟩:=Fe I hp B;have hl:its.length=kvs.length:=by rw[<-B.length];exact Paired.length hp
 refine OE (I.ok.hd O) e d6 hd gu D3 (by lia) I.big λh' C Y hk=>?_
 have I2:Inv X pi σ (upd H s.heap.objs.size (.dK (JN [] kvs))) { s with heap:=h',toks:=C }:=I.laid (λb ob e=>hk b ob e) (a8 _) ?_
 .exact⟨.ref _,_,I2,rfl,q _ (I.aS.fresh (a8 _))⟩
 .refine cV ?_ ?_ (ZX kvs (P:=X.prog) (w:=X.w) DD .nil) Y
  .have:=KJ kvs []
   simp only[List.length_nil]at this;rw[fS];lia
  .have:=I.big
   simp only[beq_eq_false_iff_ne];exact iz this
end L2
namespace WL
open PySem PySem.Spec PyProof.Rows L2
section
variable{a:Expr}
theorem wZ:eY X (.Al mu) (λxs H Q=>∃a vs kvs,xs=[.ref a]/\cg X.K H a vs/\zH X.K H vs kvs/\kvs.length<=1000/\∀p,H p=a0->Q (.ref p) (upd H p (.dK (JN [] kvs)))):=by
 intro ρ m af H Z d x Q M ax e q;obtain⟨xs,Y,e⟩:=az (show ((G4 Z m).bind λxs=>(pairsOf xs).bind λz=>if z.1.length<=1000 then aV (iN mu (FQ [] [] z.1 z.2).1 (FQ [] [] z.1 z.2).2 m) else a0)=aV (d,af) from e);obtain⟨⟨ks,us⟩,U,e⟩:=az e;split at e
 .rename_i hl
  have au:=b5 e;obtain⟨p,vs,rfl,G,as⟩:=IV M ax Y;obtain⟨kvs,O,C⟩:=QK U as;have c9:eA X.K ρ H (iN mu (FQ [] [] ks us).1 (FQ [] [] ks us).2 m).1 (iN mu (FQ [] [] ks us).1 (FQ [] [] ks us).2 m).2 Q:=by rw[au];exact q
  have B:=ee.Bb (ee.nil (K:=X.K) (ρ:=ρ) (H:=H)) C;exact⟨p,vs,kvs,rfl,G,O,by rw[<-Z6 C];exact hl,λl hl=>c9.ao M B.1 B.2 hl⟩
 .cases e
theorem mX(Y:PE X a (tD C X.K pa))(mu:Bool:=en)(U:X.calm=cf:=by kernel_rfl)(G:Gl X "dict":=by kernel_rfl)(B:X.mg "dict" = a0:=by assumption)(O:gm [a] X.env=[(en,eval a X.env)]:=by kernel_rfl):PE X (.Call (.Name "dict" p) [a] [] pos) (tD C X.K (.b1 (.Al mu) pa)):=fP (sE U) wZ boot_dict G B Y (by decide) (by decide) O
end
noncomputable def xh:Nat->VK->VK
 | 0,Q=>Q
 | n+1,Q=>λv H=>∃a u,H a=aV u/\gW u/\∀o,xh n Q v (upd H a (.bp o u))
theorem FD{X:Cx}{pi:List (Addr×Obj)}{σ:L2.St}{s:fu}:∀(n:Nat) {Q:VK} {u:Value},EP X pi σ (xh n Q) u s->EP X pi σ Q u s
 | 0,_,_,h=>h
 | n+1,Q,u,G=>by
  obtain⟨v,aa,I,r,a,w,C,c,q⟩:=G;obtain⟨o,B⟩:=freeze I C c;exact FD n ⟨v,_,B,r,q o⟩
theorem Qf{t:TE}(h:PE X e t):PE X e (λ σ H Q=>∃n,t σ H (xh n Q)):=by
 intro pi s σ H Q I B;obtain⟨n,q⟩:=B;exact a9 (h pi s σ H _ I q) λ_ _ z=>FD n z
noncomputable def tj(t:Str×Key):D:=.tup [.str t.1,eK t.2]
abbrev GL:=List (Str×Addr×List V)
noncomputable def gp(L:GL):List (Key×V):=L.map λt=>(kf t.1,V.ref t.2.1)
def GR(K:p5)(ρ:List Addr)(H:Hp):i8->GL->Prop
 | [],[]=>True
 | a::r,b::q=>a.1=b.1/\a7 K ρ H (a.2.map tj) b.2.2/\GR K ρ H r q
 | _,_=>False
noncomputable def lO(L:GL)(x:Str)(v:V):GL:=L.map λt=>if t.1=x then (t.1,t.2.1,t.2.2++[v]) else t
section
variable{H0:Hp}
theorem WX:∀{g:i8} {L:GL},GR K ρ H0 g L->g.map (·.1)=L.map (·.1)
 | [],[],_=>rfl
 | _::_,_::_,⟨a,_,c⟩=>by rw[cj,cj,a,WX c]
 | [],_::_,h=>h.elim
 | _::_,[],h=>h.elim
theorem Ft{k:FK}{v:V}(C:At K ρ H0 (tj k.2) v):∀{g:i8} {L:GL},GR K ρ H0 g L->GR K ρ H0 (g.map (λp=>if p.1=k.1 then (p.1,p.2++[k.2]) else p)) (lO L k.1 v)
 | [],[],_=>trivial
 | a::r,b::q,U=>by
  obtain⟨B,G,O⟩:=U;refine⟨?_,?_,Ft C O⟩
  .dsimp only
   by_cases e:a.1=k.1
   .rw[ah e,ah (B▸e)];exact B
   .rw[ak e,ak λz=>e (B.trans z)];exact B
  .dsimp only
   by_cases e:a.1=k.1
   .rw[ah e,ah (B▸e)]
    show a7 K ρ H0 ((a.2++[k.2]).map tj) (b.2.2++[v]);rw[gi];exact G.snoc C
   .rw[ak e,ak λz=>e (B.trans z)];exact G
 | [],_::_,h=>h.elim
 | _::_,[],h=>h.elim
theorem Fs{k:FK}{v:V}{q:Addr}(B:At K ρ H0 (tj k.2) v):∀{g:i8} {L:GL},GR K ρ H0 g L->GR K ρ H0 (g++[(k.1,[k.2])]) (L++[(k.1,q,[v])])
 | [],[],_=>⟨rfl,a7.one B,trivial⟩
 | a::r,b::q,U=>by
  obtain⟨O,G,C⟩:=U;exact⟨O,G,Fs B C⟩
 | [],_::_,h=>h.elim
 | _::_,[],h=>h.elim
theorem Gd{t:Str×Addr×List V}:∀{L:GL},(L.map (·.1)).Nodup->t∈L->JV (gp L) (kf t.1)=aV (.ref t.2.1)
 | a::r,B,h=>by
  have B:=nj (show (a.1::r.map (·.1)).Nodup from B);rcases cq h with rfl | h
  .exact J7 rfl
  .rw[show gp (a::r)=(kf a.1,V.ref a.2.1)::gp r from rfl,IK λe=>B.1 (by rw[j1 e];exact gh h)]
   exact Gd B.2 h
theorem rH{x:Str}:∀{L:GL},x∉L.map (·.1)->JV (gp L) (kf x)=a0
 | [],_=>rfl
 | a::r,h=>by
  rw[show gp (a::r)=(kf a.1,V.ref a.2.1)::gp r from rfl,IK λe=>h (by rw[<-j1 e];exact bw)];exact rH λq=>h (bx _ q)
theorem Oc(L:GL)(x:Str)(v:V):gp (lO L x v)=gp L:=by
 unfold gp lO;rw[b6];refine qe λt _=>?_
 show (kf (if t.1=x then (t.1,t.2.1,t.2.2++[v]) else t).1,_)=_
 by_cases e:t.1=x
 .simp[e]
 .simp[e]
structure GS(K:p5)(ρ:List Addr)(H0:Hp)(p:Addr)(g:i8)(H:Hp)(L:GL):Prop where
 kp:∀c u,H0 c=aV u->H c=aV u
 p0:H0 p=a0
 hp:H p=aV (.dK (gp L))
 hl:∀t∈L,H t.2.1=aV (.lst t.2.2)/\H0 t.2.1=a0
 na:(L.map (·.2.1)).Nodup
 nn:(L.map (·.1)).Nodup
 gr:GR K ρ H0 g L
theorem GS.add{p:Addr}{g:i8}{L:GL}(S:GS K ρ H0 p g H L){k:FK}{v:V}(hv:At K ρ H0 (tj k.2) v){t:Str×Addr×List V}(B:t∈L)(e:t.1=k.1):GS K ρ H0 p (GC g k) (upd H t.2.1 (.lst (t.2.2++[v]))) (lO L k.1 v):=by
 have ug:p≠t.2.1:=λz=>by
  have:=(S.hl t B).1;rw[<-z,S.hp]at this;cases this
 have hk:g.any (λq=>eH (q.1=k.1))=cf:=by
  rw[tT];have:k.1∈g.map (·.1):=by rw[WX S.gr,<-e];exact gh B
  obtain⟨q,hq,eq⟩:=ck this;exact⟨q,hq,cz eq⟩
 have m1:(lO L k.1 v).map (·.2.1)=L.map (·.2.1):=by
  unfold lO;rw[b6];refine qe λa _=>?_
  show (if a.1=k.1 then (a.1,a.2.1,a.2.2++[v]) else a).2.1=_;split<;>rfl
 have m2:(lO L k.1 v).map (·.1)=L.map (·.1):=by
  unfold lO;rw[b6];refine qe λa _=>?_
  show (if a.1=k.1 then (a.1,a.2.1,a.2.2++[v]) else a).1=_;split<;>rfl
 have uq:∀a∈L,a.1=k.1->a=t:=λa C ea=>by
  obtain⟨i,hi,O⟩:=kR C;obtain⟨j,Z,G⟩:=kR B;have:i=j:=(List.getElem_inj (h₀:=by simpa using hi) (h₁:=by simpa using Z) S.nn).mp (by simp[O,G,ea,e]);subst this;exact O.symm.trans G
 have ad:∀a∈L,a.2.1=t.2.1->a=t:=λa C ea=>by
  obtain⟨i,hi,O⟩:=kR C;obtain⟨j,Z,G⟩:=kR B;have:i=j:=(List.getElem_inj (h₀:=by simpa using hi) (h₁:=by simpa using Z) S.na).mp (by simp[O,G,ea]);subst this;exact O.symm.trans G
 refine⟨λc u hc=>?_,S.p0,?_,λa C=>?_,by rw[m1];exact S.na,by rw[m2];exact S.nn,?_⟩
 .rw[CJ λz=>by rw[z,(S.hl t B).2]at hc;cases hc]
  exact S.kp c u hc
 .rw[CJ ug,Oc];exact S.hp
 .obtain⟨b,U,rfl⟩:=ck C
  by_cases Y:b.1=k.1
  .obtain rfl:=uq b U Y
   rw[ah Y];exact⟨CT,(S.hl b B).2⟩
  .rw[ak Y]
   have dq:b.2.1≠t.2.1:=λz=>Y (by rw[ad b U z];exact e)
   exact⟨by rw[CJ dq];exact(S.hl b U).1,(S.hl b U).2⟩
 .unfold GC
  rw[ah hk];exact Ft hv S.gr
theorem GS.new{p:Addr}{g:i8}{L:GL}(S:GS K ρ H0 p g H L){k:FK}{v:V}(hv:At K ρ H0 (tj k.2) v)(O:k.1∉L.map (·.1)){q:Addr}(C:H q=a0):
  GS K ρ H0 p (GC g k) (upd (upd (upd H q (.lst [])) p (.dK (putK (gp L) (kf k.1) (.ref q)))) q (.lst [v])) (L++[(k.1,q,[v])]):=by
 have ai:H0 q=a0:=by
  cases z:H0 q with
  | none=>rfl
  | some u=>rw[S.kp q u z]at C;cases C
 have Wb:p≠q:=λz=>by rw[<-z,S.hp]at C;cases C
 have hk:¬g.any (λq=>eH (q.1=k.1))=cf:=λz=>by
  obtain⟨q,C,eq⟩:=List.any_eq_true.mp z;exact O (by rw[<-WX S.gr,<-eW eq];exact gh C)
 have Wc:putK (gp L) (kf k.1) (.ref q)=gp (L++[(k.1,q,[v])]):=by
  unfold putK;rw[ak (by rw[RT,rH O];simp)];simp[gp]
 have Y:∀t∈L,t.2.1≠q:=λt U z=>by
  have:=(S.hl t U).1;rw[z,C]at this;cases this
 refine⟨λc u G=>?_,S.p0,?_,λa B=>?_,?_,?_,?_⟩
 .have h1:c≠q:=λz=>by rw[z,ai]at G;cases G
  have h2:c≠p:=λz=>by rw[z,S.p0]at G;cases G
  rw[CJ h1,CJ h2,CJ h1];exact S.kp c u G
 .rw[CJ Wb,CT,Wc]
 .rcases dg B with B | B
  .have h2:a.2.1≠p:=λz=>by
    have:=(S.hl a B).1;rw[z,S.hp]at this;cases this
   rw[CJ (Y a B),CJ h2,CJ (Y a B)];exact S.hl a B
  .rw[fw B]
   exact⟨CT,ai⟩
 .rw[gi]
  refine qu.mpr ⟨S.na,by simp,λa B b Z=>?_⟩;obtain⟨t,U,rfl⟩:=ck B;have:b=q:=by simpa using Z
  rw[this];exact Y t U
 .rw[gi]
  refine qu.mpr ⟨S.nn,by simp,λa B b Z=>?_⟩;have:b=k.1:=by simpa using Z
  rw[this];exact λz=>O (z▸B)
 .unfold GC
  rw[ak hk];exact Fs hv S.gr
theorem GS.freeze{p:Addr}{Q:VK}:∀(R C:GL) {H:Hp},(∀c u,H0 c=aV u->H c=aV u)->H0 p=a0->H p=aV (.dK (gp (C++R)))->(∀t∈R,H t.2.1=aV (.lst t.2.2)/\H0 t.2.1=a0)->(∀t∈C,(∃o,H t.2.1=aV (.bp o (.lst t.2.2)))/\H0 t.2.1=a0)->((C++R).map (·.2.1)).Nodup->
  (∀aa,(∀c u,H0 c=aV u->aa c=aV u)->(∃o,aa p=aV (.bp o (.dK (gp (C++R)))))->(∀t∈C++R,∃o,aa t.2.1=aV (.bp o (.lst t.2.2)))->Q (.ref p) aa)->xh (R.length+1) Q (.ref p) H
 | [],C,H,kp,p0,hp,U,Y,nd,q=>by
  refine⟨p,_,hp,trivial,λo=>?_⟩;refine q _ (λc u G=>?_) ⟨o,CT⟩ λt B=>?_
  .rw[CJ λz=>by rw[z,p0]at G;cases G];exact kp c u G
  .rw[vm]at B
   obtain⟨⟨ob,e⟩,_⟩:=Y t B;exact⟨ob,by rw[CJ λz=>by rw[z,hp]at e;cases e];exact e⟩
 | r::R,C,H,kp,p0,hp,U,Y,nd,q=>by
  obtain⟨O,Z⟩:=U r bw;refine⟨r.2.1,_,O,trivial,λo=>?_⟩;have e1:C++r::R=(C++[r])++R:=by simp
  rw[e1]at hp nd q;have vE:p≠r.2.1:=λz=>by rw[<-z,hp]at O;cases O
  have nr:∀t∈R,t.2.1≠r.2.1:=λt B z=>by
   rw[gi]at nd;exact(qu.mp nd).2.2 r.2.1 (gh (iy _ bw)) t.2.1 (gh B) z.symm
  refine GS.freeze R (C++[r]) (λc u G=>?_) p0 ?_ (λt B=>?_) (λt B=>?_) nd q
  .rw[CJ λz=>by rw[z,Z]at G;cases G];exact kp c u G
  .rw[CJ vE];exact hp
  .obtain⟨a,b⟩:=U t (bx _ B)
   exact⟨by rw[CJ (nr t B)];exact a,b⟩
  .rcases dg B with B | B
   .obtain⟨⟨ob,e⟩,z⟩:=Y t B
    exact⟨⟨ob,by rw[CJ λy=>by rw[y,O]at e;cases e];exact e⟩,z⟩
   .rw[fw B]
    exact⟨⟨o,CT⟩,Z⟩
theorem Gb{aa:Hp}(B:HS H0 aa):∀{g:i8} {L:GL},GR K ρ H0 g L->(∀t∈L,∃o,aa t.2.1=aV (.bp o (.lst t.2.2)))->a7 K ρ aa (g.map λq=>.lst (q.2.map tj)) (L.map λt=>V.ref t.2.1)
 | [],[],_,_=>rfl
 | a::r,b::q,U,h=>by
  obtain⟨Y,O,G⟩:=U;obtain⟨o,e⟩:=h b bw;exact⟨_,_,rfl,⟨b.2.1,o,b.2.2,rfl,e,O.dn B (.refl _)⟩,Gb B G λt C=>h t (bx _ C)⟩
 | [],_::_,h,_=>h.elim
 | _::_,[],h,_=>h.elim
end
def EW(K:p5):TS:=wz (zq EX (cL 1)) (wz (Gq (GA K (RN 0)) (GB K 2 (BQ (cL 2) (BQ (cL 3) GG))) (wz (Cf (tB (iW (RN 2) (RN 1))) (uE (RN 1) (RN 2) (Ce w8)) tX) (By (EK K "list" jF (Bz (RN 1) (RN 2)) (BA (RN 3) w8))))) (Gp (λ σ H Q=>∃n,RN 1 σ H (xh n Q))))
theorem rF{H0:Hp}{p:Addr}{g:i8}{L:GL}{σ:L2.St}{k:FK}{v:V}{D:Ends}(S:GS K ρ H0 p g H L)(hv:At K ρ H0 (tj k.2) v)(U:σ[1]?=aV (aV (.ref p)))(O:σ[2]?=aV (aV (.str k.1)))(h3:σ[3]?=aV (aV v))(hL:L.length<=i)(hz:∀t∈L,t.2.2.length<=i)(hi:i<1000)(q:∀aa g9,GS K ρ H0 p (GC g k) aa g9->g9.length<=i+1->(∀t∈g9,t.2.2.length<=i+1)->D.nx σ aa) :
  wz (Cf (tB (iW (RN 2) (RN 1))) (uE (RN 1) (RN 2) (Ce w8)) tX) (By (EK K "list" jF (Bz (RN 1) (RN 2)) (BA (RN 3) w8))) D σ H:=by
 have Y:∀n:Nat,n<=1000->n<sizeLine:=λn hn=>by rw[fS];lia
 refine⟨_,O,_,U,p,_,rfl,kN.k (k:=kf k.1) S.hp,?_⟩
 by_cases Z:k.1∈L.map (·.1)
 .obtain⟨t,C,et⟩:=ck Z
  have AO:JV (gp L) (kf k.1)=aV (.ref t.2.1):=by rw[<-et];exact Gd S.nn C
  refine⟨_,rfl,?_⟩;rw[AO];simp only[Option.isSome_some,qm,ft,if_false];unfold tX;dsimp only;refine⟨_,U,_,O,p,.ref t.2.1,rfl,?_,.inl ⟨rfl,_,.of (S.hl t C).1⟩,_,h3,t.2.1,t.2.2,v,rfl,rfl,(S.hl t C).1,Y _ (by have:=hz t C;lia),?_⟩
  .rw[<-AO];exact kN.k (k:=kf k.1) S.hp
  .refine q _ _ (S.add hv C et) (by unfold lO;rw[a6];lia) λa B=>?_
   obtain⟨b,hb,rfl⟩:=ck B;have:=hz b hb;split
   .rw[fA,nI];lia
   .lia
 .have AO:JV (gp L) (kf k.1)=a0:=rH Z
  refine⟨_,rfl,?_⟩;rw[AO];simp only[Option.isSome_none,A9,if_true];show uE _ _ _ _ σ H;refine⟨eC _,λr G=>⟨_,U,_,O,p,_,rfl,.inl ⟨gp L,kf k.1,?_,rfl,?_,rfl⟩,?_⟩⟩
  .rw[CJ λz=>by rw[<-z,S.hp]at G;cases G];exact S.hp
  .unfold gp;rw[a6];exact Y _ (by lia)
  .have vE:r≠p:=λz=>by rw[z,S.hp]at G;cases G
   have e1:upd (upd H r (.lst [])) p (.dK (putK (gp L) (kf k.1) (.ref r))) r=aV (.lst []):=by rw[CJ vE,CT]
   refine⟨_,U,_,O,p,.ref r,rfl,?_,.inl ⟨rfl,_,.of e1⟩,_,h3,r,[],v,rfl,rfl,e1,Y _ (eC _),?_⟩
   .have e2:JV (putK (gp L) (kf k.1) (.ref r)) (kf k.1)=aV (.ref r):=by rw[zO,ah rfl]
    rw[<-e2];exact kN.k (k:=kf k.1) CT
   .refine q _ _ (S.new hv Z G) (by rw[fA,nI];lia) λa B=>?_
    rcases dg B with B | B
    .have:=hz a B;lia
    .rw[fw B]
     show 1<=i+1;lia
theorem yD{E:Ends}{σ:L2.St}(h4:σ.length=4)(h:YD C W K (.cons (.ret (.b1 .group (.var 0))) .nil) E σ H):EW K E σ H:=by
 obtain⟨aj,m,ρ,o,af,S,M,e,q⟩:=h;have e:((((match aj[0]? with | some (aV d)=>aV (d,m) | _=>a0).bind λz:D×Mem=>cw .group z.1 z.2).map λz:D×Mem=>(Out.rt z.1,z.2)).bind λz:Out×Mem=>match z.1 with | .nx B=>aT C W .nil B z.2 | .rt d=>aV (.rt d,z.2))=aV (o,af):=e;obtain⟨⟨o1,m1⟩,e1,e⟩:=az e;obtain⟨⟨d1,m2⟩,Z,e1⟩:=bX e1;cases e1;cases e;obtain⟨⟨d0,m3⟩,e3,Z⟩:=az Z;split at e3
 .rename_i ZO ya
  cases e3;cases d0 with
  | tup xs=>
   obtain⟨ks,e4,e5⟩:=az (show ((QM xs).bind λks=>if ks.length<=1000 then aV (JG (ks.foldl GC []),m) else a0)=aV (d1,m2) from Z);split at e5
   .rename_i hlen
    cases e5;obtain⟨v0,Ws,a,vs,rfl,hT,as⟩:=S.2 0 _ ya;obtain⟨fs,g1,rfl,g3,g4⟩:=WY e4 as;have jr:fs.length=ks.length:=by rw[<-g1,a6]
    intro p hp;have Jq:∀c u,H c=aV u->upd H p (.dK []) c=aV u:=λc u hc=>by rw[CJ λz=>by rw[z,hp]at hc;cases hc];exact hc
    have Az:∀aa,(∀c u,H c=aV u->aa c=aV u)->eP K aa a (fs.map λx=>V.ref x.2):=λaa k=>(hT.mono λb ob u z=>k b _ z).sq
    have h0:(σ.set 1 (aV (.ref p)))[0]?=aV (aV (V.ref a)):=by rw[k6 (by decide)];exact Ws
    have h1:(σ.set 1 (aV (.ref p)))[1]?=aV (aV (V.ref p)):=lh (by lia);refine⟨_,h0,a,rfl,⟨_,Az _ Jq⟩,λi mm B aa=>mm+i=fs.length/\B.length=4/\B[0]?=aV (aV (V.ref a))/\B[1]?=aV (aV (V.ref p))/\∃L,GS K ρ H p ((ks.take i).foldl GC []) aa L/\L.length<=i/\∀t∈L,t.2.2.length<=i,⟨fs.length,rfl,by rw[List.length_set];exact h4,h0,h1,[],⟨Jq,hp,CT,λt U=>(nomatch U),lu,lu,trivial⟩,a8 _,λt U=>(nomatch U)⟩,?_⟩;rintro i mm B aa ⟨hm,kx,s0,s1,L,G,hL,hz⟩
    by_cases hi:i<fs.length
    .have hx:(fs.map λx=>V.ref x.2)[i]?=aV (.ref fs[i].2):=by rw[fc,eg hi];rfl
     refine .inr ⟨⟨_,_,Az _ G.kp,hx⟩,λY O=>fs.length-(i+1)+(i+1)=fs.length/\Y.length=4/\Y[0]?=aV (aV (V.ref a))/\Y[1]?=aV (aV (V.ref p))/\∃L,GS K ρ H p ((ks.take (i+1)).foldl GC []) O L/\L.length<=i+1/\∀t∈L,t.2.2.length<=i+1,λY O z=>⟨_,by lia,z⟩,λx O y=>?_⟩;obtain⟨rfl,y⟩:=y;have ex:=(y _ (Az _ G.kp)).symm.trans hx;cases ex;have Vg:fs[i]∈fs:=List.getElem_mem hi;obtain⟨b,us,eb,hf,v1,r1,rfl,a1,v2,r2,rfl,a2,a3⟩:=g4 _ Vg;cases eb;cases (show v1=.str fs[i].1.1 from a1);cases (show r2=[] from a3);refine⟨_,_,rfl,(hf.mono λb ob u z=>G.kp b _ z).sq,rfl,_,_,rfl,_,_,rfl,rfl,?_⟩;have Vt:ks[i]?=aV fs[i].1:=by rw[<-g1,fc,eg hi];rfl
     have Wq:(ks.take (i+1)).foldl GC []=GC ((ks.take i).foldl GC []) fs[i].1:=by rw[List.take_succ,Vt,List.foldl_append];rfl
     refine rF (k:=fs[i].1) G a2 ?_ ?_ ?_ hL hz (by lia) λaa g9 Th l1 l2=>⟨by lia,?_,?_,?_,g9,by rw[Wq];exact Th,l1,l2⟩
     .rw[k6 (by decide),k6 (by decide)];exact s1
     .rw[k6 (by decide)];exact lh (by lia)
     .exact lh (by rw[List.length_set];lia)
     .rw[List.length_set,List.length_set];exact kx
     .rw[k6 (by decide),k6 (by decide)];exact s0
     .rw[k6 (by decide),k6 (by decide)];exact s1
    .have aak:i=fs.length:=by lia
     refine .inl ⟨⟨_,Az _ G.kp,by rw[a6];lia⟩,L.length+1,_,s1,?_⟩;rw[r9 (by lia)]at G;refine GS.freeze L [] G.kp G.p0 G.hp G.hl (λt U=>(nomatch U)) G.na λO k2 ⟨ob,sy⟩ lS=>?_
     have Vj:Go ρ ρ H O:=⟨λb u hb _=>k2 b u hb,OW,λ_ z=>.inl z⟩
     have AB:HS H O:=λb ob u z=>k2 b _ z
     have hM:bo K ρ m O:=M.keep AB λb hb=>by
      obtain⟨u,hu,_⟩:=M.there hb;rw[hu];exact k2 b u hu
     refine q O ρ Vj hM _ ⟨p,ob,gp L,rfl,sy,?_,?_⟩
     .unfold gp
      rw[b6];have:=WX G.gr;have e6:((ks.foldl GC []).map λq=>(kf q.1:Key))=((ks.foldl GC []).map (·.1)).map kf:=by rw[b6];rfl
      rw[e6,this,b6];rfl
     .have:=Gb AB G.gr lS
      unfold gp;rw[b6];exact this
   .cases e5
  | _=>cases Z
 .cases e3
theorem KW{Kp:List Stmt}(h:eM X Kp (EW X.K))(B:X.N.length=4):eM X Kp (YD C W X.K (.cons (.ret (.b1 .group (.var 0))) .nil)):=λpi s σ H D I q=>h pi s σ H D I (yD (I.len.trans B) q)
end WL
namespace PySem
namespace F
theorem X0:typeLookup (.type "list_reverseiterator") "__len__" = pure a0:=by rw[rX,r6];kernel_rfl
theorem EE:typeLookup (.type "list_reverseiterator") "__length_hint__" = pure (aV (.builtin "list_reverseiterator.__length_hint__")):=by rw[rX,r6];kernel_rfl
theorem X1:isSubtype (.type "list_reverseiterator") (.type "list_reverseiterator")=pure cf:=by rw[isSubtype_type];kernel_rfl
end F
section
variable{l:Addr}
theorem EE(C:s.TypeIs (.ref I) "list_reverseiterator"){Q:Bool->fu->Prop}(h:Q en s):fj (gx prog w) A (t8 (.ref I)) Q E s:=by
 unfold t8;refine ab (va C F.X0 ?_);refine ab (va C F.EE ?_);generalize G:("list_reverseiterator.__length_hint__" : String)=Eb
 wp_delta
 rw[show splitId Eb=aV ("list_reverseiterator","__length_hint__") from by subst G;decide +kernel];subst G;refine ab (zk (T:="list_reverseiterator") (b:=cf) C F.X1 ?_);refine wpAny_ite_split (λB=>absurd B (by decide)) (λ_=>?_);refine wpAny_ite_split (λ_=>?_) (λB=>absurd (by decide +kernel) B);exact wpAny_ite_split (λB=>absurd B (by decide +kernel)) (λ_=>ag h)
theorem qQ(hh:A.handled=a0)(U:s.heap.IsRevIter I l ((items.size:Int)-1))(hl:s.heap.IsList l items)(hz:items.size<=sizeLine){R:List Value->fu->Prop}(h:∀(h':Heap) (tk:Nat) (acc:Array Value),(∀b o,b≠I->s.heap.get? b=aV o->h'.get? b=aV o)->acc.toList=items.toList.reverse->R acc.toList { s with heap:=h',toks:=tk }) :
  fj (gx prog w) A (collect (.ref I)) R E s:=by
 have HQ:I<s.heap.objs.size:=let ⟨_,e,_⟩:=U;bg e
 have DI:l<s.heap.objs.size:=let ⟨_,e,_⟩:=hl;bg e
 have AH:l≠I:=λz=>by
  obtain⟨o,e,c,d⟩:=U;obtain⟨bt,au,Y,_⟩:=hl;rw[z,e]at au;cases au;rw[c]at Y;exact absurd Y (by decide)
 unfold collect;refine ab (yu (jc PyProof.Rows.entry_proto_collect' ?_));rw[j3 PySem.F.plain_proto_collect _];show fj _ A.in1 (newList [] >>= λl=>again (.builtin "list.__iadd__" ⟨[l,.ref I],[]⟩)) _ _ s;refine ab (kn ?_);refine ag ⟨rz PySem.F.plain_list_iadd _,jc PyProof.Rows.entry_list_iadd' ?_⟩;rw[j3 PySem.F.plain_list_iadd _];show fj _ A.in1 (ub (.ref s.heap.objs.size) (.ref I) (.ref s.heap.objs.size)) _ _ _;generalize hH:s.heap.push { cls:=.type "list",data:=.seq ([]:List Value).toArray }=B;have hL:B.get? s.heap.objs.size=aV { cls:=.type "list",data:=.seq #[] }:=by rw[<-hH];exact dm _ rfl
 have O:∀b o,s.heap.get? b=aV o->B.get? b=aV o:=λb o e=>by rw[<-hH];exact cx _ e
 have G:B.IsRevIter I l ((items.size:Int)-1):=U.at λo e=>O _ _ e
 have jv:B.IsList l items:=hl.at λo e=>O _ _ e
 have W:=Walks.listRev (prog:=prog) (w:=w) (A:=A.in1) (by simp[hh]) I l AH items;have st:(0:Nat)<=items.size/\B.IsRevIter I l ((items.size:Int)-1-((0:Nat):Int))/\B.IsList l items:=⟨eC _,by simpa using G,jv⟩
 unfold ub;refine ab (vz (T:="list_reverseiterator") G.typeIs ?_);rw[ak (by simp[Builtin.List.listSameRef,iz HQ])];refine ab (W.self 0 { s with heap:=B } _ _ st ?_);refine ab (fg (EE (s:={ s with heap:=B }) G.typeIs ?_));refine wpAny_ite_split (λq=>absurd q (by decide)) (λ_=>ag ⟨rz sx _,?_⟩);have Ax:s.heap.objs.size∉[I,l]:=λz=>by
  rcases cq z with z | z
  .exact absurd HQ (by rw[<-z];exact iA _)
  .exact absurd DI (by rw[<-fw z];exact iA _)
 refine codeAny_extend_loopS W.toS hz _ Ax _ items.size 0 _ #[] 0 rfl (eC _) st hL (ItemsOf.nil _) λZ C Y hm ko gq=>?_
 rw[Moved.eq_with hm];show fj _ A (load s.heap.objs.size >>= _) _ _ _;refine ab (wpAny_load ko (ag (h Z.heap Z.toks C (λb o hb e=>?_) ?_)))
 .have UR:b<s.heap.objs.size:=bg e
  refine hm.heap b o (λz=>?_) (O b o e);rcases cq z with z | z
  .exact absurd z (cc UR)
  .exact hb (fw z)
 .apply yv
  intro i;have hn:=gq.1
  by_cases hi:i<C.size
  .have e:C[i]?=aV C[i]:=h8 hi
   have e2:items[items.size-1-i]?=aV C[i]:=gq.2 i _ e;rw[gz,e,List.getElem?_reverse (by rw[di];lia),di,gz,e2]
  .rw[kv (by rw[di];lia),kv (by rw[List.length_reverse,di];lia)]
theorem MW(Z:A.handled=a0)(O:s.heap.IsRevIter I l ((items.size:Int)-1))(hl:s.heap.IsList l items)(hz:items.size<=sizeLine)(h:∀(h':Heap) (G:Nat),(∀b o,b≠I->s.heap.get? b=aV o->h'.get? b=aV o)->Q (.ref h'.objs.size) { s with heap:=h'.push { cls:=.type "tuple",data:=.seq items.reverse },toks:=G }) :
  fj (gx prog w) A (call (.type "tuple") [.ref I]) Q E s:=by
 have cd:codeAny (gx prog w) A.in1 (.call (.builtin "tuple.__new__") ⟨[.type "tuple",.ref I],[]⟩) (wants (λobj C=>C.TypeIs obj "tuple"/\Q obj C) E) s:=by
  refine Au ?_;show fj _ A.in1.in1 (do checkBuiltinCall "tuple.__new__" ⟨[.type "tuple",.ref I],[]⟩;again (.builtin "tuple.__new__" ⟨[.type "tuple",.ref I],[]⟩)) _ _ s;refine ab (wpAny_of_eq (F.newCall_tuple_1 _) (ag ⟨rz F.plain_tuple_new _,jc F.entry_tuple_new ?_⟩));rw[j3 F.plain_tuple_new _];have f7:=sub_tuple_self;have aal:=init_tuple_lookup;have aar:=madeHere_tuple;have Y:=O.typeIs;have Vm:A.in1.in1.handled=a0:=by simp[Z]
  wp_walk using vz Y,qQ Vm O hl hz
  intro h' G acc hk U;show fj _ _ (yx acc.toList.toArray >>= λv=>ret v) _ _ _;unfold yx;refine ab (kn ?_ (by show acc.toList.toArray.size<=sizeLine;rw[dw,U,List.length_reverse,di];exact hz));refine ag ?_;have e:acc.toList.toArray=items.reverse:=by rw[U];exact xp (by simp)
  rw[e];exact⟨⟨_,dm _ rfl,rfl⟩,h h' G hk⟩
 refine callType_codes (Q₁:=λobj C=>C.TypeIs obj "tuple"/\Q obj C) F.called_tuple (F.typeCall_tuple_1 _) F.entry_object_init cd λobj C B=>?_
 exact⟨B.1,F.args_object_init_2 obj _,object_init_meets F.called_tuple.init.lookup F.called_tuple.made (by decide) prog w A.in1 _ C ⟨B.1,rfl,B.2⟩⟩
end
end PySem
namespace L2
open PySem PySem.Spec PyProof.Rows
theorem fU:∀{xs:List V} {us:List Value},Vals xs us->Vals xs.reverse us.reverse
 | _,_,.nil=>.nil
 | _,_,.cons r t=>by
  rw[List.reverse_cons,List.reverse_cons];exact(fU t).append (.cons r .nil)
def jE(K:p5)(vs:List V)(B:Hp)(Q:VK):Prop:=∃a xs,vs=[V.ref a]/\cg K B a xs/\∀l o,B l=a0->o.cls=.type "tuple"->o.dict=a0->Q (.ref l) (upd B l (.bp o (.tup xs.reverse)))
theorem xP(hc:X.calm=cf)(fT:Gl X "tuple")(dE:X.mg "tuple" = a0)(f6:Gl X "reversed")(fI:X.mg "reversed" = a0)(he:PE X e te)(Z:gm [Expr.Call (.Name "reversed" p2) [e] [] q2] X.env=[(en,eval (.Call (.Name "reversed" p2) [e] [] q2) X.env)]:=by rfl)(c6:gm [e] X.env=[(en,eval e X.env)]:=by rfl) :
  PE X (.Call (.Name "tuple" p1) [.Call (.Name "reversed" p2) [e] [] q2] [] q1) (λ σ H Q=>te σ H λx B=>jE X.K [x] B Q):=by
 intro pi s σ H Q I h;refine Call_ (K4 I fT dE boot_tuple (l5 ?_ Z rfl));have C:fj (gx X.prog X.w) X.A (eval (.Call (.Name "reversed" p2) [e] [] q2) X.env)
   (λv s1=>∃a xs its r B,v=.ref r/\Inv X pi σ B s1/\Vals xs its/\s1.heap.IsList a its.toArray/\xs.length<=sizeLine/\s1.heap.IsRevIter r a ((its.toArray.size:Int)-1)/\O7 X pi B r/\∀l o,B l=a0->o.cls=.type "tuple"->o.dict=a0->Q (.ref l) (upd B l (.bp o (.tup xs.reverse)))) X.xe s:=by
  refine Call_ (K4 I f6 fI boot_reversed (l5 (a9 (GK he JC c6 q2 pi s σ H (λvs B=>jE X.K vs B Q) I ?_) λus s1 ⟨vs,B,G,r1,q1⟩=>?_) c6 rfl))
  .exact h
  .obtain⟨a,xs,rfl,hq,q⟩:=q1
   obtain⟨u,rfl,ru⟩:=r1.one;cases ru;obtain⟨its,U,pl,Y⟩:=G.list hq;refine call_reversed_list pl.isList ?_;exact⟨a,xs,its,_,B,rfl,G.kept (t':=s1.toks) λb o e=>cx _ e,U,pl.isList.at λo e=>cx _ e,Y,⟨_,dm _ rfl,rfl,rfl⟩,G.qj (a8 _) (G.aS.fresh (a8 _)),q⟩
 rw[Z];refine ny (a9 C λv s1 ai=>?_);obtain⟨a,xs,its,r,B,ev,G,U,hl,Y,hr,hf,q⟩:=ai;refine qh ?_;subst ev;have DF:=U.length;refine MW (G.ok.hd hc) hr hl (by rw[dw];lia) λh' O hk=>?_
 have Wg:Vals xs.reverse its.reverse:=fU U;obtain⟨f0,f1,f2,f3,f4,f5⟩:=hf;have I2:Inv X pi σ B { s1 with heap:=h',toks:=O }:=G.turned (t':=O) (λb o hb e=>hk b o hb e) f0 f1 f3 f4 f5;have ea:its.toArray.reverse=its.reverse.toArray:=by simp
 rw[ea];have I3:Inv X pi σ (upd B h'.objs.size (.bp { cls:=.type "tuple",data:=.seq its.reverse.toArray } (.tup xs.reverse))) { s1 with heap:=h'.push { cls:=.type "tuple",data:=.seq its.reverse.toArray },toks:=O }:=
  I2.laid (t':=O) (λb o e=>cx _ e) (a8 _) ⟨dm _ rfl,show dS X.prog X.w _ _ _ (.tup xs.reverse) from ⟨by rw[List.length_reverse];exact Y,its.reverse,Wg,IsTup.new _ _⟩⟩
 exact⟨.ref h'.objs.size,_,I3,rfl,q _ _ (I2.aS.fresh (a8 _)) rfl rfl⟩
end L2
namespace L2
open PySem PySem.Spec PyProof.Rows
theorem NY{vs:List (Key×Value)}(h:KV kvs vs):∀{i:Nat} {p:Key×V},kvs[i]?=aV p->∃v,vs[i]?=aV (p.1,v)/\RelV p.2 v:=by
 induction h with
 | nil=>intro i p e;simp at e
 | cons a b B=>
  intro i p e;cases i with
  | zero=>
   simp only[List.getElem?_cons_zero,Option.some.injEq]at e;subst e
   rename_i x y _ _
   exact⟨y.2,congrArg aV (Prod.ext a.1.symm rfl),a.2⟩
  | succ i=>exact B (by simpa using e)
def Aj(H:Hp)(fs:List ((Str×Int)×Addr)):Prop:=∀x∈fs,∃o,H x.2=aV (.bp o (.tup [.str x.1.1,.int x.1.2]))/\o.cls=.type "tuple"/\o.dict=a0
theorem fC{pi:List (Addr×Obj)}{σ:St}{s:fu}:∀{fs:List ((Str×Int)×Addr)} {H:Hp},(∀x∈fs,∃C B,s.heap.get? x.2=aV { cls:=.type "tuple",data:=.seq #[.str x.1.1 C,.int x.1.2 B] })->Inv X pi σ H s->(fs.map (·.2)).Nodup->(∀x∈fs,O7 X pi H x.2)->∃aa,Inv X pi σ aa s/\ik H aa/\Aj aa fs
 | [],H,_,I,_,_=>⟨H,I,λ_ _ h=>h,λ_ h=>nomatch h⟩
 | x::r,H,hp,I,hn,O=>by
  obtain⟨C,B,e⟩:=hp x bw;have U:=nj hn;have h0:H x.2=a0:=(O x bw).1;have I1:Inv X pi σ (upd H x.2 (.bp { cls:=.type "tuple",data:=.seq #[.str x.1.1 C,.int x.1.2 B] } (.tup [.str x.1.1,.int x.1.2]))) s:=Inv.tracked I (O x bw) ⟨e,show dS X.prog X.w _ _ _ (.tup [.str x.1.1,.int x.1.2]) from ⟨by rw[fS];exact(show (2:Nat)<=16777216 by decide),[.str x.1.1 C,.int x.1.2 B],.cons ⟨C,rfl⟩ (.cons ⟨B,rfl⟩ .nil),_,e,rfl,0,rfl⟩⟩;obtain⟨aa,I2,s2,ti⟩:=fC (λy G=>hp y (bx _ G)) I1 U.2 (λb Z=>by
   obtain⟨g0,g1⟩:=O b (bx _ Z);have dq:b.2≠x.2:=λz=>U.1 (List.mem_map.mpr ⟨b,Z,z⟩)
   exact⟨by rw[CJ dq];exact g0,g1⟩)
  refine⟨aa,I2,λc u Y=>s2 c u (by rw[CJ (FZ Y h0)];exact Y),λy G=>?_⟩;rcases cq G with rfl | G
  .exact⟨_,s2 _ _ CT,rfl,rfl⟩
  .exact ti y G
def Mh(td:TE):TE:=λ σ H Q=>td σ H λx C=>∃a kvs ps,x=.ref a/\Rd C a (.dK kvs)/\kvs=ps.map (λp:Str×Int=>((kf p.1:Key),V.int p.2))/\ps.length<=4/\(ps.map (·.1)).Nodup/\
 ∀(B:Hp) (fs:List ((Str×Int)×Addr)),ik C B->fs.map (·.1)=ps->Aj B fs->lQ WM fs B Q
theorem xQ(hc:X.calm=cf)(fT:Gl X "sorted")(dE:X.mg "sorted" = a0)(he:PE X e td)(iE:vb e "items" X.env (eval e X.env)=eval e X.env:=by rfl)(i4:(apos.endLine==bP.line)=cf:=by rfl)(cv:gm [Expr.Call (.Attribute e "items" apos) [] [] bP] X.env=[(en,eval (.Call (.Attribute e "items" apos) [] [] bP) X.env)]:=by rfl) :
  PE X (.Call (.Name "sorted" p1) [.Call (.Attribute e "items" apos) [] [] bP] [] q1) (Mh td):=by
 intro pi s σ H Q I h;refine Call_ (K4 I fT dE boot_sorted (XH ?_ cv rfl));rw[cv];have G:fj (gx X.prog X.w) X.A (eval (.Call (.Attribute e "items" apos) [] [] bP) X.env) (λv s1=>∃(r a:Addr) (kvs:List (Key×V)) (ps:List (Str×Int)) (O:Hp),v=.ref r/\Inv X pi σ O s1/\s1.heap.IsItemsView r a/\Rd O a (.dK kvs)/\kvs=ps.map (λp:Str×Int=>((kf p.1:Key),V.int p.2))/\ps.length<=4/\(ps.map (·.1)).Nodup/\
   ∀(Z:Hp) (fs:List ((Str×Int)×Addr)),ik O Z->fs.map (·.1)=ps->Aj Z fs->lQ WM fs Z Q) X.xe s:=by
  refine wpAny_Call_method0_late iE i4 (a9 (he pi s σ H _ I h) λu s1 ai=>?_);obtain⟨x,O,B,rx,a,kvs,ps,ex,Y,ek,h4,hn,q⟩:=ai;subst ex;obtain rfl:u=gg a:=rx;obtain⟨U,C,lo⟩:=jP B (.inl ⟨kvs,Y⟩);obtain⟨_,_,vs,rel,dd⟩:=RD B.aS Y;refine⟨"dict","dict.items",PySem.F.plainAttrs_dict,PySem.F.slot_dict_items,PySem.F.type_dict_items,U,C,L3 rfl (PySem.evalArgs_none ?_)⟩;refine call_meetsIn PySem.F.slot_dict_items dd.typeIs PySem.F.entry_dict_items (PySem.F.args_dict_items_1 _) (meets_dict_items (CK X.prog X.w) a lo) ⟨⟨vs,dd⟩,?_⟩;exact⟨_,a,kvs,ps,O,rfl,B.kept (t':=s1.toks) λb o e=>cx _ e,⟨_,dm _ rfl,rfl,rfl⟩,Y,ek,h4,hn,q⟩
 refine ny (a9 G λv s1 ai=>?_);obtain⟨r,a,kvs,ps,O,ev,B,hv,Y,ek,h4,hn,q⟩:=ai;refine qh ?_;subst ev;obtain⟨z,_,ws,rel,dd⟩:=RD B.aS Y;obtain⟨ep,dat⟩:=dd.dictAt;have yp:ws.length=ps.length:=by rw[<-rel.length,ek,a6]
 refine vo kind_sorted plain_sorted entry_sorted (args_sorted1 _) ?_;unfold Builtin.«sorted»;refine ab (m:=checkCount "sorted" 1 1 _) (ag ?_);refine ab (PySem.W.kdx_collect (A:=X.A.in1) (B.ok.hd hc) hv dat (by rw[<-rel.length];exact z) λh1 tk as i3 UH hG=>?_);have I2:Inv X pi σ O { s1 with heap:=h1,toks:=tk }:=B.kept (t':=tk) i3;have cS:as.Nodup:=hG.rise.imp λq=>cc q
 have vE:∀x∈ps.zip as,∃U C,h1.get? x.2=aV { cls:=.type "tuple",data:=.seq #[.str x.1.1 U,.int x.1.2 C] }:=λw hw=>by
  obtain⟨j,hj⟩:=List.mem_iff_getElem?.mp hw;obtain⟨hp,ha⟩:=List.getElem?_zip_eq_some.mp hj;obtain⟨key,k,x,e1,e2,e3⟩:=hG.pairs j w.2 ha;obtain⟨y,hy⟩:=NY rel (i:=j) (p:=(kf w.1.1,V.int w.1.2)) (by rw[ek,fc,hp];rfl);obtain⟨Jk,yt⟩:=hy;rw[e1]at Jk;cases Jk;have hk:JQ (kf w.1.1) key=cf:=e2;obtain⟨C,rfl⟩:=(show ∃t,x=Value.int w.1.2 t from yt)
  cases key<;>first | (cases hk;done) | skip
  simp[JQ,Value.isStrOf]at hk;subst hk;exact⟨_,C,e3⟩
 have z1:(ps.zip as).map (·.1)=ps:=List.map_fst_zip (by lia);have z2:(ps.zip as).map (·.2)=as:=List.map_snd_zip (by lia);have z3:as.map gg=(ps.zip as).map λx=>gg x.2:=(congrArg (List.map gg) z2.symm).trans b6
 obtain⟨Z,I3,sub,ti⟩:=fC (s:={ s1 with heap:=h1,toks:=tk }) vE I2 (by rw[z2];exact cS) (λb hb=>by
  have hb:=hG.above b.2 (by rw[<-z2];exact gh hb);exact B.qj (mf hb) (B.aS.fresh (mf hb)))
 refine ab (t5 ?_ (by rw[a6,UH,yp,fS];lia));rw[z3];refine ab (fg (e9 (bM (s:={ s1 with heap:=h1,toks:=tk }) (Q:=Q) I3 (by rw[List.length_zip];lia) ⟨by rw[z1];exact Eu hn,λx hx=>?_⟩ (q Z _ sub z1 ti)) (λ_ s' x=>?_) λ_ _ e=>e))
 .obtain⟨U,C,e⟩:=vE x hx
  exact⟨U,C,_,e,rfl,_,rfl⟩
 .exact ag ⟨_,rfl,x⟩
end L2
namespace WL
open PySem PySem.Spec PyProof.Rows L2
theorem tO{α β:Type}:∀(a:List α) (b:List β),((a.zip b).map (·.1)).Sublist a
 | [],_=>by simp
 | _::_,[]=>by simp
 | x::a,y::b=>(tO a b).cons₂ x
theorem Pj{fs:List ((Str×Int)×Addr)}(h:Aj H fs){x:(Str×Int)×Addr}(B:x∈fs):At K ρ H (J1 x.1) (.ref x.2):=
 let ⟨o,e,c,d⟩:=h x B;⟨x.2,_,rfl,⟨o,c,d,.inl e⟩,_,_,rfl,rfl,_,_,rfl,rfl,rfl⟩
theorem zK{K:p5}{ρ:List Addr}{H:Hp}:∀{ks:List Key} {ds:List D} {kvs:List (Key×V)} {ss:List Str} {ns:List Int},kvs.map (·.1)=ks->a7 K ρ H ds (kvs.map (·.2))->strsOf (ks.map cw.kD)=aV ss->intsOf ds=aV ns->kvs=(ss.zip ns).map λp:Str×Int=>((kf p.1:Key),V.int p.2)
 | [],ds,[],ss,ns,_,a,B,C=>by
  cases B;simp
 | k::ks,[],G::kvs,ss,ns,_,a,B,C=>by cases (show _=[] from a)
 | k::ks,d::ds,G::kvs,ss,ns,h,bh,B,C=>by
  obtain⟨v,r,e,av,ar⟩:=bh;cases e;rw[cj,OV]at h;obtain⟨U,O⟩:=h;cases k with
  | inl i=>cases B
  | inr x=>
   obtain⟨h9,Z,rfl⟩:=bX (show (strsOf (ks.map cw.kD)).map (x::·)=aV ss from B);cases d with
   | int n=>
    obtain⟨uv,Y,rfl⟩:=bX (show (intsOf ds).map (n::·)=aV ns from C);rw[zK O ar Z Y];obtain⟨a,b⟩:=G;cases (show a=kf x from U);cases (show b=V.int n from av);rfl
   | _=>cases C
 | [],_,_::_,_,_,h,_,_,_=>by cases h
 | _::_,_,[],_,_,h,_,_,_=>by cases h
section
variable{a:Expr}
theorem xG(O:PE X a (tD C X.K pa))(G:X.calm=cf:=by kernel_rfl)(U:Gl X "tuple":=by kernel_rfl)(dE:X.mg "tuple" = a0:=by assumption)(Z:Gl X "reversed":=by kernel_rfl)(Y:X.mg "reversed" = a0:=by assumption)(cv:gm [Expr.Call (.Name "reversed" p2) [a] [] q2] X.env=[(en,eval (.Call (.Name "reversed" p2) [a] [] q2) X.env)]:=by kernel_rfl)(c6:gm [a] X.env=[(en,eval a X.env)]:=by kernel_rfl):
  PE X (.Call (.Name "tuple" p1) [.Call (.Name "reversed" p2) [a] [] q2] [] q1) (tD C X.K (.b1 .Br pa)):=
 V9 (r:=λx H1 Q=>jE X.K [x] H1 Q) (f:=cw .Br) (xP G U dE Z Y O cv c6) (by
  intro ρ m af H dx d x Q M ax e q;obtain⟨xs,e1,e⟩:=az (show ((G4 dx m).bind λxs=>if xs.length<=1000 then aV (D.tup xs.reverse,m) else a0)=aV (d,af) from e);split at e
  .cases e
   obtain⟨p,vs,rfl,B,as⟩:=IV M ax e1;exact⟨p,vs,rfl,B,λl o hl d6 hd=>.of (q.tup M as.rev hl d6 hd)⟩
  .cases e) λ_ _=>rfl
theorem mU(ha:PE X a (tD C X.K pa))(mu:Bool:=en)(hc:X.calm=cf:=by kernel_rfl)(fT:Gl X "sorted":=by kernel_rfl)(dE:X.mg "sorted" = a0:=by assumption)(f6:Gl X "set":=by kernel_rfl)(fI:X.mg "set" = a0:=by assumption)(cv:gm [Expr.Call (.Name "set" p2) [a] [] q2] X.env=[(en,eval (.Call (.Name "set" p2) [a] [] q2) X.env)]:=by kernel_rfl)(c6:gm [a] X.env=[(en,eval a X.env)]:=by kernel_rfl):
  PE X (.Call (.Name "sorted" p1) [.Call (.Name "set" p2) [a] [] q2] [] q1) (tD C X.K (.b1 (.ze mu) pa)):=
 V9 (r:=λx H1 Q=>W8 en X.K [x] H1 Q) (f:=cw (.ze mu)) (WQ hc fT dE f6 fI ha cv c6) (by
  intro ρ m af H dx d x Q M ax e q;obtain⟨xs,e1,e⟩:=az (show ((G4 dx m).bind λxs=>(intsOf xs).bind λns=>if ns.length<=4000/\ns.all (λn=>eH (0<=n/\n<=2))=cf then aV (bj mu ((([0,1,2]:List Int).filter λv=>eH (v∈ns)).map .int) m) else a0)=aV (d,af) from e);obtain⟨ns,e2,e⟩:=az e;split at e
  .rename_i h
   have au:=b5 e;obtain⟨p,vs,rfl,hq,as⟩:=IV M ax e1;cases (dI e2 as).1;have inj:∀a b:Int,(Sum.inl a:Key)=.inl b->a=b:=λa b=>Sum.inl.inj
   have Y:∀n∈ns,n∈([0,1,2]:List Int):=λn B=>by
    have:=eW (nq h.2 n B);simp;lia
   have hk:∀x∈ns.map (Sum.inl:Int->Key),x∈aN:=λx G=>by obtain⟨y,O,rfl⟩:=ck G;exact gh (f:=(Sum.inl:Int->Key)) (Y y O)
   refine⟨p,ns.map .inl,rfl,by rw[b6];exact hq,by rw[a6];exact h.1,λx G=>⟨by obtain⟨y,_,rfl⟩:=ck G;rfl,.inr (hk x G)⟩,λys B U=>?_,λfm ks hp B U hs=>?_⟩
   .exact qc (B.length_le_of_subset (l₂:=aN) λy O=>hk y ((U y).mp O)) (by decide)
   .obtain⟨Z,rfl,hs⟩:=hs
    have VO:=qX inj U;have es:Z=([0,1,2]:List Int).filter λv=>eH (v∈ns):=by
     refine yz (le:=λa b:Int=>a<=b) (λa b _ _ h1 h2=>Int.le_antisymm h1 h2) hs (List.Pairwise.filter _ (by decide)) ((xA (BH B) (List.Pairwise.filter _ (by decide))).mpr λy=>?_);rw[VO,zj];exact⟨λq=>⟨Y y q,cz q⟩,λq=>eW q.2⟩
    subst es;have c9:eA X.K ρ H (bj mu ((([0,1,2]:List Int).filter λv=>eH (v∈ns)).map .int) m).1 (bj mu ((([0,1,2]:List Int).filter λv=>eH (v∈ns)).map .int) m).2 Q:=by rw[au];exact q
    rw[b6];exact c9.lst M (.ints _) hp
  .cases e) λ_ _=>rfl
theorem qO(ha:PE X a (tD C X.K pa))(mu:Bool:=en)(hc:X.calm=cf:=by kernel_rfl)(fT:Gl X "sorted":=by kernel_rfl)(dE:X.mg "sorted" = a0:=by assumption)(Y:vb a "items" X.env (eval a X.env)=eval a X.env:=by kernel_rfl)(Z:(apos.endLine==bP.line)=cf:=by kernel_rfl)(cv:gm [Expr.Call (.Attribute a "items" apos) [] [] bP] X.env=[(en,eval (.Call (.Attribute a "items" apos) [] [] bP) X.env)]:=by kernel_rfl):
  PE X (.Call (.Name "sorted" p1) [.Call (.Attribute a "items" apos) [] [] bP] [] q1) (tD C X.K (.b1 (.EH mu) pa)):=
 (xQ hc fT dE ha Y Z cv).sA λ σ H Q ai=>by
 obtain⟨aj,m,ρ,d,af,S,M,e,q⟩:=ai;obtain⟨⟨x,B⟩,e1,e⟩:=az e;refine⟨aj,m,ρ,x,B,S,M,e1,λv H1 aq g1 M1 A1=>?_⟩;obtain⟨⟨ks,ds⟩,e0,e⟩:=az (show ((HF x B).bind λz=>(strsOf (z.1.map cw.kD)).bind λss=>(intsOf z.2).bind λns=>if ss.length<=4/\ss.Nodup then aV (bj mu ((G9 (ss.zip ns)).map J1) B) else a0)=aV (d,af) from e);obtain⟨ss,e2,e⟩:=az e;obtain⟨ns,e3,e⟩:=az e;split at e
 case isFalse=>cases e
 rename_i UZ
 have U:=b5 e;obtain⟨p,kvs,rfl,hr,hk,as⟩:=QB M1 A1 e0;have ek:=zK hk as e2 e3;have G:(ss.zip ns).length<=4:=by rw[List.length_zip];lia
 have O:((ss.zip ns).map (·.1)).Nodup:=(tO ss ns).nodup UZ.2;refine⟨p,kvs,ss.zip ns,rfl,hr,ek,G,O,λH2 fs sub ef ti l ys hl hp hs=>?_⟩;rw[<-ef]at U O;have c9:eA X.K ρ H (bj mu ((G9 (fs.map (·.1))).map J1) B).1 (bj mu ((G9 (fs.map (·.1))).map J1) B).2 Q:=by rw[U];exact q
 refine(c9.go (g1.trans (ik.go sub aq))).lst (ik.mem sub M1) ?_ hl;rw[<-fK O hp hs,b6];exact UW λz G=>Pj ti (hp.mem_iff.mp G)
end
end WL
namespace L2
open PySem PySem.Spec PyProof.Rows
section
variable{a f:Expr}{tx:TE}
theorem dM{α:Type}{p q:α->Bool}:∀{l:List α},(∀x∈l,p x=q x)->l.any p=l.any q
 | [],_=>rfl
 | x::r,h=>by rw[List.any_cons,List.any_cons,h x bw,dM λy B=>h y (bx _ B)]
theorem Nn(C:PE X a ta):PE X (.UnaryOp .Not a pos) (λ σ H Q=>ta σ H λx aa=>∃k,zy X.K x aa k/\Q (.bl !k) aa):=by
 intro pi s σ H Q I h;refine UnaryOp_ (a9 (C pi s σ H _ I h) λv s1 G=>?_);obtain⟨x,Z,U,B,q1⟩:=G;exact not_of (e9 (zW pi s1 σ Z x v (λk aa=>Q (.bl !k) aa) U B q1) (λc s2 ⟨Y,O,q2⟩=>⟨.bl (!c),Y,O,rfl,q2⟩) λ_ _ e=>e)
def Ro(td ty tx:TE):TE:=λ σ H Q=>td σ H λx C=>∃a,x=.ref a/\Ab C a/\ty σ C λy G=>tx σ G λz B=>∃kvs k,B a=aV (.dK kvs)/\y=kV k/\
 (∀v,JV kvs k=aV v->Q v B)/\(JV kvs k=a0->kvs.length<sizeLine/\Q z (upd B a (.dK (putK kvs k z))))
theorem Nm(ho:PE X o td)(he:PE X e ty)(hf:PE X f tx)(m:M2 X o "setdefault" apos e f bP):PE X (.Call (.Attribute o "setdefault" apos) [e,f] [] bP) (Ro td ty tx):=by
 intro pi s σ H Q I h;refine wpAny_Call_method m.base m.Ap m.line PySem.F.plainAttrs_dict PySem.F.slot_dict_setdefault PySem.F.type_dict_setdefault (a9 (ho pi s σ H _ I h) λu s1 ai=>?_);obtain⟨x,H1,I1,rx,a,ex,d,q1⟩:=ai;subst ex;obtain rfl:u=gg a:=rx;obtain⟨t1,t2,_⟩:=jP I1 d;refine⟨t1,t2,?_⟩;rw[m.trees];refine L3 rfl (Calls.evalArgs_plain (ny (a9 (he pi s1 σ H1 _ I1 q1) λiv s2 ⟨y,H2,I2,ry,q2⟩=>
  ny (a9 (hf pi s2 σ H2 _ I2 q2) λfv s3 ⟨z,H3,O,U,kvs,k,ea,ey,q3,C⟩=>qh ?_))))
 subst ey;obtain⟨hz,hd,vs,rel,dd⟩:=B3 O.aS ea;have Z:=rel.length;refine call_meetsIn PySem.F.slot_dict_setdefault dd.typeIs PySem.F.entry_dict_setdefault (PySem.F.args_dict_setdefault_3 _ _ _) (kt_meets_setdefault (CK X.prog X.w) a (WT ry) hd fv) ⟨vs,dd,by lia,λv hv=>?_,λhn h' Y hs=>?_⟩
 .have r:=rel.val k
  rw[hv]at r;cases l:JV kvs k with
  | none=>rw[l]at r;exact False.elim r
  | some B=>
   rw[l]at r;exact⟨B,H3,O.tok _,r,q3 B l⟩
 .have r:=rel.val k
  rw[hn]at r;cases l:JV kvs k with
  | some B=>rw[l]at r;exact False.elim r
  | none=>
   have G:∃q,h'.get? a=aV q:=let ⟨q,_,_,G,_⟩:=Y;⟨q,G⟩
   obtain⟨kH,C⟩:=C l;have hl:(putK kvs k z).length<=sizeLine:=by have:=PB kvs k z;lia
   exact⟨z,_,XC (t':=s3.toks+1) O (by rw[ea];exact True.intro) hs G (cV hl hd (rel.put k U) Y),U,C⟩
theorem rY(Y:X.calm=cf):gc X (.type "list") (λxs H Q=>∃(a:Addr) (kvs:List (Key×V)) (ss:List Str),xs=[.ref a]/\Rd H a (.dK kvs)/\kvs.map (·.1)=ss.map kf/\∀p,H p=a0->Q (.ref p) (upd H p (.lst (ss.map V.str)))):=by
 intro pi s σ H xs us Q I r h;obtain⟨a,kvs,ss,rfl,Z,hk,q⟩:=h;obtain⟨u,rfl,O⟩:=vals1 r;cases O;obtain⟨z,lo,vs,rel,dd⟩:=RD I.aS Z;obtain⟨ep,C⟩:=dd.dictAt;have B:=rel.length;refine PySem.W.kdl_call (PySem.W.kdl_dict (knd:=CK X.prog X.w) (kvs:=vs) (ep:=ep) lo) (I.ok.hd Y) C (by lia) λh' G acc c U hD gq=>?_
 have hS:=W4 (ss:=ss) (by rw[<-rel.keys];exact hk) gq;have hl:ss.length=kvs.length:=by rw[<-a6 (f:=(kf:Str->Key)),<-hk,a6]
 have I2:Inv X pi σ (upd H s.heap.objs.size (.lst (ss.map V.str))) { s with heap:=h',toks:=G }:=I.laid (λb o e=>U b o e) (a8 _) ⟨by rw[a6];lia,acc.toList,c,Y9 hS,by simpa using hD⟩;exact⟨.ref _,_,I2,rfl,q _ (I.aS.fresh (a8 _))⟩
theorem NB(hu:X.A.units+20<cLine):eB X (sh .NotIn) (λx y H Q=>∃(k:FK) (b p:Addr) (fs:List (FK×Addr)),x=.ref b/\Q0 X.K H k b/\y=.ref p/\cg X.K H p (fs.map λz=>V.ref z.2)/\(∀z∈fs,Q0 X.K H z.1 z.2)/\Q (.bl (!(fs.map (·.1)).any λz=>eH (z=k))) H):=by
 intro pi s σ H x y v u Q I rx ry h;obtain⟨k,b,p,fs,rfl,hk,rfl,hq,O,q⟩:=h;cases rx;cases ry;obtain⟨its,r,pl,C⟩:=I.list hq;have ev:=TQ r;subst ev
 let g:Value->Bool:=λv=>match v with | .ref c=>(fs.any λz=>eH (z.2=c)&&eH (z.1=k)) | _=>en
 have Z:∀z∈fs,∀B∈fs,z.2=B.2->z.1=B.1:=λz C B G e=>(PJ (P:=X.prog) (w:=X.w) I (O z C)).inj (e▸PJ I (O B G))
 have Y:∀z∈fs,g (.ref z.2)=eH (z.1=k):=λz C=>by
  show (fs.any λB=>eH (B.2=z.2)&&eH (B.1=k))=_
  by_cases h:z.1=k
  .rw[cz h,tT]
   exact⟨z,C,by simp[h]⟩
  .rw[df h,List.any_eq_false]
   intro B G c;simp only[gS,decide_eq_true_eq]at c;exact h (Z B G z C c.1▸c.2)
 refine SeqAt.notIn_listAt g pl.isList (λw hw=>?_) ⟨.bl _,H,I,rfl,?_⟩
 .obtain⟨z,G,rfl⟩:=ck (show w∈fs.map λz=>gg z.2 by simpa using hw)
  intro prog w E ni U;rw[Y z G]at U;exact O8 (by show X.A.units+1+10<cLine;lia) (PJ I (O z G)) (PJ I hk) U
 .rw[show (fs.map λz=>gg z.2).toArray.any g=(fs.map (·.1)).any λz=>eH (z=k) from ?_]
  .exact q
  .rw[List.any_toArray,List.any_map,List.any_map]
   exact dM λz C=>Y z C
end
end L2
namespace WL
open PySem PySem.Spec PyProof.Rows L2
section
variable{a:Expr}
theorem MI(O:PE X a (tD C X.K pa)):PE X (.UnaryOp .Not a pos) (tD C X.K (.b1 .JU pa)):=(Nn O).imp λ σ H Q ai=>by
 obtain⟨aj,m,ρ,d,G,S,M,e,q⟩:=ai;obtain⟨⟨x,B⟩,Z,e⟩:=az e;obtain⟨k,Y,e⟩:=bX (show (eO x B).map (λc=>(D.bl !c,B))=aV (d,G) from e);cases e;exact⟨aj,m,ρ,x,G,S,M,Z,λv H1 aq U M1 A1=>⟨k,zX M1 A1 Y,q _ H1 aq U M1 rfl⟩⟩
theorem Lb(ha:PE X a (tD C X.K pa))(mu:Bool:=en)(Z:X.calm=cf:=by kernel_rfl)(U:Gl X "list":=by kernel_rfl)(O:X.mg "list" = a0:=by assumption)(Y:gm [a] X.env=[(en,eval a X.env)]:=by kernel_rfl):PE X (.Call (.Name "list" p1) [a] [] q1) (tD C X.K (.b1 (.El mu) pa)):=
 fP (rY Z) (by
  intro ρ m af H dx d x Q M ax e q;obtain⟨⟨ks,vs⟩,e1,e⟩:=az (show ((HF dx m).bind λz=>if z.1.length<=1000 then (strsOf (z.1.map cw.kD)).map λss=>bj mu (ss.map .str) m else a0)=aV (d,af) from e);split at e
  case isFalse=>cases e
  obtain⟨ss,e2,e⟩:=bX e;obtain⟨p,kvs,rfl,G,B⟩:=QB M ax e1;refine⟨p,kvs,ss,rfl,G,by rw[B.1];exact gB e2,λl hl=>?_⟩;have c9:eA X.K ρ H (bj mu (ss.map D.str) m).1 (bj mu (ss.map D.str) m).2 Q:=by rw[e];exact q
  exact c9.lst M (UW λ_ _=>rfl) hl) PyProof.Rows.boot_list U O ha (by decide) (by decide) Y
theorem mQ(ha:PE X a (tD C X.K pa))(mu:Bool:=en)(hu:X.A.units+20<cLine:=by assumption)(hc:X.calm=cf:=by kernel_rfl)(fT:Gl X "sorted":=by kernel_rfl)(dE:X.mg "sorted" = a0:=by assumption)(f6:Gl X "set":=by kernel_rfl)(fI:X.mg "set" = a0:=by assumption)(cv:gm [Expr.Call (.Name "set" p2) [a] [] q2] X.env=[(en,eval (.Call (.Name "set" p2) [a] [] q2) X.env)]:=by kernel_rfl)(c6:gm [a] X.env=[(en,eval a X.env)]:=by kernel_rfl):
  PE X (.Call (.Name "sorted" p1) [.Call (.Name "set" p2) [a] [] q2] [] q1) (tD C X.K (.b1 (.Bf mu) pa)):=
 V9 (r:=λx H1 Q=>W9 WM (Cs X.K) (λ_ _=>True) X.K x H1 Q) (f:=cw (.Bf mu)) (nQ hu hc fT dE f6 fI ha cv c6) (by
  intro ρ m af H dx d x Q M ax e q;cases dx with
  | tup xs=>
   obtain⟨ps,e2,e⟩:=az (show ((JH xs).bind λps=>if ps.length<64/\(ps.map (·.1)).Nodup then aV (bj mu ((G9 ps).map J1) m) else a0)=aV (d,af) from e);split at e
   case isFalse=>cases e
   rename_i h
   have au:=b5 e;obtain⟨p,vs,rfl,hq,as⟩:=id ax;obtain⟨fs,rfl,rfl,g⟩:=YM e2 as;refine⟨p,fs,rfl,.inr hq.sq,λx Z=>(g x Z).1,λys hn B=>qc (hn.length_le_of_subset B) h.1,λ_ _ _ _=>trivial,λfm ys hp f7 B G=>?_⟩;have cS:(ys.map (·.1)).Nodup:=(show (ys.map (·.1)).Pairwise (λa b=>WM a b=cf) by rw[L5];exact G).imp λq z=>by rw[z,Kh.mI]at q;cases q
   have U:(ys.map (·.1)).Perm (fs.map (·.1)):=(xA cS (Eu h.2)).mpr B;have O:ys.map (·.1)=G9 (fs.map (·.1)):=fL h.2 U (L5.mpr (G.imp Ff));have c9:eA X.K ρ H (bj mu ((G9 (fs.map (·.1))).map J1) m).1 (bj mu ((G9 (fs.map (·.1))).map J1) m).2 Q:=by rw[au];exact q
   refine c9.lst M ?_ hp;rw[<-O,b6];exact UW λz Y=>(g z (f7 z Y)).2
  | _=>cases e) λ_ _=>rfl
theorem Qm(hu:X.A.units+20<cLine){σ:L2.St}{Q:VK}(h:tD C X.K (.A7 pa pb) σ H Q):uA (λx y H Q=>∃(k:FK) (b p:Addr) (fs:List (FK×Addr)),x=.ref b/\Q0 X.K H k b/\y=.ref p/\cg X.K H p (fs.map λz=>V.ref z.2)/\(∀z∈fs,Q0 X.K H z.1 z.2)/\Q (.bl (!(fs.map (·.1)).any λz=>eH (z=k))) H) (tD C X.K pa) (tD C X.K pb) σ H Q:=by
 obtain⟨U,m,ρ,d,af,S,M,e,q⟩:=h;obtain⟨⟨x,B⟩,e1,e⟩:=az e;obtain⟨⟨y,m2⟩,e2,e⟩:=az e;obtain⟨k,e3,e⟩:=az e;obtain⟨xs,e4,e⟩:=az e;obtain⟨ks,e5,e⟩:=bX e;cases e;refine⟨U,m,ρ,x,B,S,M,e1,λv H1 aq O M1 A1=>⟨U,B,aq,y,af,S.mono M O,M1,e2,λw H2 cp G M2 A2=>?_⟩⟩;have hd:=rM e3;subst hd;obtain⟨b,rfl,Z⟩:=X3 (A1.mono M1 G);obtain⟨p,vs,rfl,Y,as⟩:=IV M2 A2 e4;obtain⟨fs,Ur,rfl,g3,g4⟩:=WY e5 as;subst Ur;exact⟨k,b,p,fs,rfl,Z,rfl,Y,g3,q _ H2 cp (O.trans G) M2 rfl⟩
theorem tZ(U:PE X a (tD C X.K pa))(O:PE X b (tD C X.K pb))(B:X.A.units+20<cLine:=by assumption)(G:behindInMarks .NotIn b=en:=by kernel_rfl):PT X (.Compare a [.NotIn] [b] pos) (gb C X.K (.val (.A7 pa pb))):=
 (uP (NB B) U O G).imp λ σ H Q h=>Qm B (zV (λ σ m d Y e=>by
 obtain⟨_,_,e⟩:=az e;obtain⟨_,_,e⟩:=az e;obtain⟨_,_,e⟩:=az e;obtain⟨_,_,e⟩:=az e;obtain⟨_,_,e⟩:=bX e;cases e;exact⟨_,rfl⟩) h)
theorem MG(ho:PE X a (tD C X.K pa))(he:PE X b (tD C X.K pb))(hf:PE X c (tD C X.K pc))(mm:M2 X a "setdefault" apos b c bP:=by constructor<;>kernel_rfl):PE X (.Call (.Attribute a "setdefault" apos) [b,c] [] bP) (tD C X.K (.zc pa pb pc)):=
 (Nm ho he hf mm).imp λ σ H Q ai=>by
 obtain⟨aj,m,ρ,d,af,S,M,e,q⟩:=ai;obtain⟨⟨x,m1⟩,e1,e⟩:=az e;obtain⟨⟨iL,Hs⟩,e0,e⟩:=az e;obtain⟨⟨y,m2⟩,e2,e⟩:=az e;obtain⟨⟨z,U⟩,e3,e⟩:=az e;refine⟨aj,m,ρ,x,m1,S,M,e1,λv H1 aq g1 M1 A1=>?_⟩;obtain⟨p,yy,rfl,yk,_⟩:=QB M1 A1 e0;refine⟨p,rfl,.inl ⟨yy,yk⟩,aj,m1,aq,y,m2,S.mono M g1,M1,e2,λu H2 cp Z M2 A2=>⟨aj,m2,cp,z,U,(S.mono M g1).mono M1 Z,M2,e3,λw O G Y M3 A3=>?_⟩⟩;have lj:=(A1.mono M1 Z).mono M2 Y;have BG:=A2.mono M2 Y;cases x with
 | aI i=>
  obtain⟨fm,hi,e6⟩:=lj;cases e6;have e:(match U[i]?,N5 y with
   | some (.ao ks vs),aV k=>match G5 ks vs k with
    | some v=>aV (v,U)
    | none=>if z.clean&&eH (ks.length<10000) then aV (z,U.set i (.ao (putD ks vs k z).1 (putD ks vs k z).2)) else a0
   | _,_=>a0)=aV (d,af):=e
  split at e
  .rename_i ks vs k hm hk
   obtain⟨kvs,hp,ka⟩:=M3.at' i p _ hi hm;have hy:=Z7 BG hk;subst hy;have hlen:=Z6 (K:=X.K) (ρ:=G.take i) (H:=O) ka;have lk:=ee.look (K:=X.K) (ρ:=G.take i) (H:=O) k ka;split at e
   .rename_i v hl
    cases e;obtain⟨wx,vi,Cz⟩:=lk.1 d hl;refine⟨kvs,k,hp,rfl,λv0 B=>?_,λB=>(by rw[vi]at B;cases B)⟩;rw[vi]at B;cases B;exact q _ O G (g1.trans (Z.trans Y)) M3 (Cz.dn (λ_ _ _ z=>z) (.pre (List.take_prefix _ _)))
   .rename_i hl
    split at e
    .rename_i hz
     rw[gS,decide_eq_true_eq]at hz;cases e;have eI:HS O (upd O p (.dK (putK kvs k w))):=λil bt iu bE=>by
      rw[CJ]
      .exact bE
      .rintro rfl;rw[hp]at bE;cases bE
     have kp:=ee.put (K:=X.K) (ρ:=G.take i) (H:=upd O p (.dK (putK kvs k w))) (k:=k) (A3.clean (ρ':=G.take i) eI hz.1) (ee.dn eI (.refl _) ka);obtain⟨M4,g4⟩:=M3.write (o:=.dK (putK kvs k w)) (q:=.ao (putD ks vs k d).1 (putD ks vs k d).2) hi ⟨_,CT,kp⟩;refine⟨kvs,k,hp,rfl,λv0 B=>(by rw[lk.2 hl]at B;cases B),λ_=>⟨iq (by lia:kvs.length<100000) (J3 (a8 _)),?_⟩⟩;exact q _ _ G (g1.trans (Z.trans (Y.trans g4))) M4 (A3.clean (ρ':=G) eI hz.1)
    .cases e
  .cases e
 | _=>cases e
end
end WL
namespace WL
open PySem PySem.Spec PyProof.Rows L2
section
variable{a:Expr}{ps:jh}{l:List String}
theorem kc(f:String)(ha:PA X (e::es) (uz C X.K ps))(D:∀f∈l,Def X.prog X.w X.K X.mg X.base n C f:=by assumption)(O:hE n X.A:=by assumption)(Y:f∈l:=by decide)(U:Gl X (fi f):=by kernel_rfl)(B:(fi f==("__debug__" : Str))=en:=by decide)(Z:gm (e::es) X.env=(en,eval e X.env)::gm es X.env:=by kernel_rfl)(G:(backTo pos (gm es X.env)).any (·.1)=en:=by kernel_rfl):
  PE X (.Call (.Name (fi f) p) (e::es) [] pos) (tD C X.K (.call f ps)):=MV (Def.TC (D f Y) O) ha U B Z G
end
section
variable{t:Te}{pe:Ex}
theorem kB(C:X.N=N)(h1:scope.kind=.function)(Z:(scope.names.all λy=>y.2 != .free||X.env.kindOf y.1==aV .cell)=cf)(Y:(match scope.names.filter (λy=>y.2==.cell) with | []=>cf | [y]=>scope.names.lookup y.1==aV .cell&&scope.names.all (λz=>z.2==.cell||z.1 != y.1) | _=>en)=cf)(U:(scope.names.all λy=>y.2 != .local||scope.names.lookup y.1==aV .local)=cf)(O:(M.all λx=>scope.names.lookup x != aV .local&&scope.names.lookup x != aV .cell)=cf)(G:X.env.scope.kind=.function)(B:(M.length==N.length&&(M.zip N).all λp=>eH (p.1=p.2)||scope.names.all λy=>eH (y.1≠p.1))=cf):ij X scope M own:=by
 subst C;obtain⟨a,b⟩:=Bool.and_eq_true_iff.mp B;exact⟨h1,Z,Y,U,O,G,.inr ⟨eq_of_beq a,b⟩⟩
theorem MF(k:Nat)(own M N:List Str)(hi:PI X tg iter (l7 C X.K ip))(Y:∀B bu cE ex,(eS X scope M own B bu cE ex).N.Nodup->PG (eS X scope M own B bu cE ex) tg (o5 X.K g))(G:∀B bu cE ex,nh (eS X scope M own B bu cE ex) ifs (gb C X.K t))(Z:∀B bu cE ex,PE (eS X scope M own B bu cE ex) elt (tD C X.K pe))(O:(M++own).Nodup:=by decide +kernel)(hk:own.length=k:=by kernel_rfl)(hX:X.N=N:=by kernel_rfl)(h1:scope.kind=.function:=by kernel_rfl)(h2:(scope.names.all λy=>y.2 != .free||X.env.kindOf y.1==aV .cell)=cf:=by kernel_rfl)(h3:(match scope.names.filter (λy=>y.2==.cell) with | []=>cf | [y]=>scope.names.lookup y.1==aV .cell&&scope.names.all (λz=>z.2==.cell||z.1 != y.1) | _=>en)=cf:=by kernel_rfl)(h4:(scope.names.all λy=>y.2 != .local||scope.names.lookup y.1==aV .local)=cf:=by kernel_rfl)(h5:(M.all λx=>scope.names.lookup x != aV .local&&scope.names.lookup x != aV .cell)=cf:=by kernel_rfl)(h6:X.env.scope.kind=.function:=by kernel_rfl)(U:(M.length==N.length&&(M.zip N).all λp=>eH (p.1=p.2)||scope.names.all λy=>eH (y.1≠p.1))=cf:=by kernel_rfl)(hc:X.calm=cf:=by kernel_rfl)(hs:∀x,I0 iter X.env x=pure x:=by intro _;kernel_rfl):PE X (.ListComp elt [⟨tg,iter,ifs,0⟩] scope pos) (tD C X.K (.comp en k g ip t pe)):=by
 subst hk;exact MU (kB hX h1 h2 h3 h4 h5 h6 U) hc hi (λa b c d=>Y a b c d O) G Z hs
theorem vB(i k:Nat)(own M N:List Str){y:Str}{O G:Pos}(hi:PI X tg iter (l7 C X.K ip))(hg:∀B bu cE ex,(eS X scope M own B bu cE ex).N.Nodup->PG (eS X scope M own B bu cE ex) tg (o5 X.K g))(ht:∀B bu cE ex,nh (eS X scope M own B bu cE ex) ifs (gb C X.K t))(he:∀B bu cE ex,PE (eS X scope M own B bu cE ex) elt (tD C X.K pe))(mu:Bool:=en)(hN:X.N.Nodup:=by assumption)(Y:X.N[i]?=aV y:=by kernel_rfl)(Z:X.env.scope.names.lookup y=aV .local:=by kernel_rfl)(hn:(M++own).Nodup:=by decide +kernel)(hk:own.length=k:=by kernel_rfl)(hX:X.N=N:=by kernel_rfl)(h1:scope.kind=.function:=by kernel_rfl)(h2:(scope.names.all λy=>y.2 != .free||X.env.kindOf y.1==aV .cell)=cf:=by kernel_rfl)(h3:(match scope.names.filter (λy=>y.2==.cell) with | []=>cf | [y]=>scope.names.lookup y.1==aV .cell&&scope.names.all (λz=>z.2==.cell||z.1 != y.1) | _=>en)=cf:=by kernel_rfl)(h4:(scope.names.all λy=>y.2 != .local||scope.names.lookup y.1==aV .local)=cf:=by kernel_rfl)(h5:(M.all λx=>scope.names.lookup x != aV .local&&scope.names.lookup x != aV .cell)=cf:=by kernel_rfl)(h6:X.env.scope.kind=.function:=by kernel_rfl)(hm:(M.length==N.length&&(M.zip N).all λp=>eH (p.1=p.2)||scope.names.all λy=>eH (y.1≠p.1))=cf:=by kernel_rfl)(hc:X.calm=cf:=by kernel_rfl)(U:swapsWith (.ListComp elt [⟨tg,iter,ifs,0⟩] scope pos) (aV (.Name y O)) G.line X.env=pure cf:=by kernel_rfl)(hs:∀x,I0 iter X.env x=pure x:=by intro _;kernel_rfl):PS X (.Assign [.Name y O] (.ListComp elt [⟨tg,iter,ifs,0⟩] scope pos) G) (mP C W X.K (.set i (.comp mu k g ip t pe))):=by
 subst hk;exact Mm i hN Y Z (kB hX h1 h2 h3 h4 h5 h6 hm) hc hi (λa b c d=>hg a b c d hn) ht he U hs
end
structure En where
 f:String
 st:Stmt
 ps:List Str
 N:List Str
 F:Fn
def TF(p:En->Prop):List En->Prop
 | []=>True
 | e::r=>p e/\TF p r
abbrev FA (K:p5) (f:Str) (st:Stmt):Prop:=∃(x:Addr) (oc:Value) (od an:Option Addr) (sl:Array (Option Value)) (kV C pm B ct:Value),rd K ly f=aV (aV (.ref x))/\K.lookup x=aV ⟨oc,od,.func (PySem.W.fnOf f f (N8 st) (JX st) (GX st) .none kV C pm an B ct),sl⟩/\PySem.W.codeIn K B f=cf/\PySem.W.keepIn K (.ref x)=cf
theorem Uh{f:Str}{x:Addr}{oc:Value}{od an:Option Addr}{sl:Array (Option Value)}{kV C pm B ct:Value}(a:rd K ly f=aV (aV (.ref x)))(l:K.lookup x=aV ⟨oc,od,.func (PySem.W.fnOf f f (N8 st) (JX st) (GX st) .none kV C pm an B ct),sl⟩)(c:PySem.W.codeIn K B f=cf)(k:PySem.W.keepIn K (.ref x)=cf):FA K f st:=⟨x,oc,od,an,sl,kV,C,pm,B,ct,a,l,c,k⟩
def Ah(ae:String->Option Fn)(e:En):Prop:=Y5 e.N e.ps (GX e.st)/\ae e.f=aV e.F/\e.F.ps=e.ps.length/\e.F.ns=e.N.length/\∀(kV doc pm:Value) (an:Option Addr) (du ct:Value) (us:List Value),us.length=e.ps.length->bindArgs (PySem.W.fnOf (fi e.f) (fi e.f) (N8 e.st) (JX e.st) (GX e.st) .none kV doc pm an du ct) ⟨us,[]⟩=pure (e.ps.zip us)
noncomputable abbrev XE (P:Program) (w:wy) (K:p5) (mg:Str->Option Value) (base:Heap) (N:List Str) (f:String) (st:Stmt) (B:Addr) (du:Value) (A:Around) (outer:List Env) (s:fu) (H:Hp) (E:XK):Cx:=(oU kM P w K mg base N (fi f) (GX st) B du A outer s H E).wa
abbrev He (P:Program) (w:wy) (K:p5) (mg:Str->Option Value) (base:Heap) (W n:Nat) (C:String->List D->Mem->Option (D×Mem)) (f:String) (st:Stmt) (N:List Str) (b:bz):Prop:=∀{B:Addr} {du:Value} {A:Around} {outer:List Env} {s:fu} {H:Hp} {E:XK},hE n (A.deeper (envOfC (fi f) (GX st) s.heap.objs.size B du))->eM (XE P w K mg base N f st B du A outer s H E) (JX st) (YD C W K b)
abbrev xk (K:p5) (mg:Str->Option Value) (e:En):Prop:=∃B fd,Cu K mg e.f e.st e.ps B fd
theorem Ks(X:K.In h)(G:h.Ns ly mg):∀{l:List En},TF (λe=>FA K (fi e.f) e.st) l->TF (Ah ae) l->TF (xk K mg) l
 | [],_,_=>trivial
 | _::_,⟨⟨x,oc,od,an,sl,kV,B,pm,C,ct,a,l,c,k⟩,t⟩,⟨q,u⟩=>⟨⟨x,_,rJ l c k,(rJ l c k).binds q.2.2.2.2,PySem.W.mg_of X G a⟩,Ks X G t u⟩
theorem Gi:∀{l:List En},TF (xk K mg) l->∀f∈l.map (·.f),Def P w K mg base 0 (BZ W ae 0) f
 | _::_,⟨⟨_,_,t⟩,_⟩,_,.head _=>t.zero
 | _::_,B,f,.tail _ q=>by
  obtain⟨_,h⟩:=B;exact Gi h f q
theorem Gh:∀{l:List En},TF (xk K mg) l->TF (Ah ae) l->TF (λe=>He P w K mg base W n (BZ W ae n) e.f e.st e.N e.F.body) l->∀f∈l.map (·.f),Def P w K mg base (n+1) (BZ W ae (n+1)) f
 | e::_,⟨⟨C,fd,t⟩,_⟩,⟨q,_⟩,⟨o,_⟩,_,.head _=>⟨C,fd,_,oM t.1 q.1 q.2.1 q.2.2.1 q.2.2.2.1 (λdu A outer s H E B=>o B),t.2.2,t.1.kp,t.2.1⟩
 | _::_,⟨_,h⟩,⟨_,q⟩,⟨_,o⟩,f,.tail _ z=>Gh h q o f z
theorem len0(h:l.length=0):l=[]:=List.length_eq_zero_iff.mp h
theorem zw(h:l.length=n+1):∃a r,l=a::r/\r.length=n:=by cases l with
 | nil=>cases h
 | cons a r=>exact⟨a,r,rfl,Nat.succ.inj h⟩
theorem Js(h:l.length=1):∃a,l=[a]:=by obtain⟨a,r,rfl,k⟩:=zw h;exact⟨a,by rw[len0 k]⟩
theorem Jt(h:l.length=2):∃a b,l=[a,b]:=by obtain⟨a,r,rfl,k⟩:=zw h;obtain⟨b,rfl⟩:=Js k;exact⟨a,b,rfl⟩
theorem Gz(h:l.length=3):∃a b c,l=[a,b,c]:=by obtain⟨a,r,rfl,k⟩:=zw h;obtain⟨b,c,rfl⟩:=Jt k;exact⟨a,b,c,rfl⟩
theorem S4(h:l.length=4):∃a b c d,l=[a,b,c,d]:=by obtain⟨a,r,rfl,k⟩:=zw h;obtain⟨b,c,d,rfl⟩:=Gz k;exact⟨a,b,c,d,rfl⟩
end WL
end
section
namespace T
open PySem L2 WL PySem.Spec PyProof.Rows
noncomputable def top(i:Nat):Stmt:=lp.main.body.getD i (.Pass ⟨0,0,0,0⟩)
noncomputable def xy:D:=.tup [.str "sum",.str "times",.str "less"]
noncomputable def fns:List String:=["names_of","names_in_term","parts_of","flows","gather_flows","add_flows","settled","targets_by_name","names_reached","trail_down","is_below","way_to","_law_cell","_law_mix","_law_name","_law_names","_law_levels","_law_term","_law_names_in","_law_deed","_law_block","_law_program","_law_flows","_law_goal","_law_least","_law_is_trail","law"]
structure Tp(K:p5)(mg:Str->Option Value):Prop where
 WZ:mg "all" = a0
 Xa:mg "dict" = a0
 Xb:mg "enumerate" = a0
 Xc:mg "int" = a0
 Xd:mg "isinstance" = a0
 Xe:mg "len" = a0
 Xf:mg "list" = a0
 Xg:mg "max" = a0
 Xh:mg "range" = a0
 Xi:mg "reversed" = a0
 Xj:mg "set" = a0
 Xk:mg "sorted" = a0
 Xl:mg "tuple" = a0
 Xm:mg "zip" = a0
 xy:vd K mg "PAIRING" xy
def QX(X:Cx)(W n:Nat)(C:String->List D->Mem->Option (D×Mem))(st:Stmt)(b:bz):Prop:=X.mg "all" = a0->X.mg "dict" = a0->X.mg "enumerate" = a0->X.mg "int" = a0->X.mg "isinstance" = a0->X.mg "len" = a0->X.mg "list" = a0->X.mg "max" = a0->X.mg "range" = a0->X.mg "reversed" = a0->X.mg "set" = a0->X.mg "sorted" = a0->X.mg "tuple" = a0->X.mg "zip" = a0->vd X.K X.mg "PAIRING" xy->(∀g∈fns,Def X.prog X.w X.K X.mg X.base n C g)->hE n X.A->X.A.units+1<cLine->X.A.units+11<cLine->X.A.units+20<cLine->X.A.units+64<cLine->PassesOwn (gx X.prog X.w) X.A X.env X.xe->X.N.Nodup->eM X (JX st) (YD C W X.K b)
def QP(f:String)(st:Stmt)(N:List Str)(b:bz):Prop:=∀(P:Program) (w:wy) (K:p5) (mg:Str->Option Value) (base:Heap) (W n:Nat) (C:String->List D->Mem->Option (D×Mem)) (B:Addr) (du:Value) (A:Around) (outer:List Env) (s:fu) (H:Hp) (E:XK),QX (XE P w K mg base N f st B du A outer s H E) W n C st b
noncomputable def QE(f:String)(st:Stmt)(N:List Str):Type:={b:bz // QP f st N b}
abbrev dR:List Str:=["program","found","waiting","part"]
noncomputable def bV:QE "names_of" (top 2) dR:=⟨_,by unfold QP QX;intros;exact BL (by with_reducible exact(DN 1 (MT (mu:=cf)))) (by with_reducible exact(BL (DN 2 (W6 (mu:=cf) (BJ 0))) (BL (bK (K7 (BJ 2)) (BL (DN 3 (Pw (BJ 2))) (BL (GQ (DR vX (CP (BJ 3) BP) (DY (BK DG (BK DG BR)))) (BL (iY (BJ 1) (CP (BJ 3) BP) W7) BX) BX) (BL (J2 (YH (BJ 2) (kc "parts_of" (BK (BJ 3) BR)))) BX)))) (BL (DK (QG (bQ (BJ 1)))) BX))))⟩
noncomputable def dG:bz:=bV.1
noncomputable def VP:Fn:=⟨1,4,dG⟩
abbrev RJ:List Str:=["term"]
noncomputable def R9:QE "names_in_term" (top 3) RJ:=⟨_,by unfold QP QX;intros;exact BL (by with_reducible exact(DK (kc "names_of" (BK (DY (BK (BJ 0) BR)) BR)))) (by with_reducible exact BX)⟩
noncomputable def RK:Fn:=⟨1,1,R9.1⟩
abbrev dO:List Str:=["part","kind"]
noncomputable def bU:QE "parts_of" (top 4) dO:=⟨_,by unfold QP QX;intros;exact BL (by with_reducible exact(DN 1 (CP (BJ 0) BP))) (by with_reducible exact(BL (GQ (DR vX (BJ 1) (DY (BK DG (BK DG BR)))) (BL (DK (DY BR)) BX) BX) (BL (GQ (DR vX (BJ 1) PD) (BL (DK (mW (BJ 0) (fM BP) u6)) BX) BX) (BL (GQ (DR vX (BJ 1) (DY (BK DG (BK DG BR)))) (BL (DK (mW (BJ 0) (fM BP) u6)) BX) BX) (BL (GQ (DR JT (BJ 1) DG) (BL (DK (HB (HB (DY (BK (CP (BJ 0) BP) BR)) (CP (BJ 0) BP)) (CP (BJ 0) BP))) BX) BX) (BL (DK (HB (DY (BK (CP (BJ 0) BP) BR)) (CP (BJ 0) BP))) BX))))))⟩
noncomputable def KH:Fn:=⟨1,2,bU.1⟩
abbrev wM:List Str:=["program","found"]
noncomputable def uM:QE "flows" (top 6) wM:=⟨_,by unfold QP QX;intros;exact BL (by with_reducible exact(DN 1 MS)) (by with_reducible exact(BL (J2 (kc "gather_flows" (BK (BJ 0) (BK (DY BR) (BK (BJ 1) BR))))) (BL (DK (QG (qP (BJ 1)))) BX)))⟩
noncomputable def wO:Fn:=⟨1,2,uM.1⟩
abbrev T9:List Str:=["block","choosing","found","deed","kind","within"]
noncomputable def SN:QE "gather_flows" (top 7) T9:=⟨_,by unfold QP QX;intros;exact BL (by with_reducible exact(M7 (J8 (BJ 0)) (GD 3) (BL (DN 4 (CP (BJ 3) BP)) (BL (GQ (DR JT (BJ 4) DG) (BL (DN 5 (HB (BJ 1) (kc "names_in_term" (BK (CP (BJ 3) BP) BR)))) (BL (J2 (kc "gather_flows" (BK (CP (BJ 3) BP) (BK (BJ 5) (BK (BJ 2) BR))))) (BL (J2 (kc "gather_flows" (BK (CP (BJ 3) BP) (BK (BJ 5) (BK (BJ 2) BR))))) BX))) (BL (GQ (DR JT (BJ 4) DG) (BL (J2 (kc "add_flows" (BK (HB (BJ 1) (kc "names_in_term" (BK (CP (BJ 3) BP) BR))) (BK (DY (BK DG (BK BP BR))) (BK (BJ 2) BR))))) (BL (J2 (kc "gather_flows" (BK (CP (BJ 3) BP) (BK (BJ 1) (BK (BJ 2) BR))))) BX)) (BL (GQ (DR JT (BJ 4) DG) (BL (J2 (kc "add_flows" (BK (HB (BJ 1) (kc "names_in_term" (BK (CP (BJ 3) BP) BR))) (BK (DY (BK DG (BK (CP (BJ 3) BP) BR))) (BK (BJ 2) BR))))) BX) (BL (J2 (kc "add_flows" (BK (HB (BJ 1) (kc "names_in_term" (BK (CP (BJ 3) BP) BR))) (BK (DY (BK DG (BK (CP (BJ 3) BP) BR))) (BK (BJ 2) BR))))) BX)) BX)) BX)) BX)))) (by with_reducible exact BX)⟩
noncomputable def T7:bz:=SN.1
noncomputable def xf:Fn:=⟨3,6,T7⟩
abbrev aK:List Str:=["names","target","found","name"]
noncomputable def ZQ:QE "add_flows" (top 8) aK:=⟨_,by unfold QP QX;intros;exact BL (by with_reducible exact(M7 (J8 (BJ 0)) (GD 3) (BL (Mp (BJ 2) (DY (BK (BJ 3) (BK (BJ 1) BR)))) BX))) (by with_reducible exact BX)⟩
noncomputable def PK:bz:=ZQ.1
noncomputable def xd:Fn:=⟨3,4,PK⟩
abbrev QV:List Str:=["program","house","told","onward","levels","level","starts","came_from","trail","name"]
noncomputable def fV:QE "settled" (top 10) QV:=⟨_,by unfold QP QX;intros;exact BL (by with_reducible exact(DN 2 (MJ (BJ 1)))) (by with_reducible exact(BL (DN 3 (kc "targets_by_name" (BK (kc "flows" (BK (BJ 0) BR)) BR))) (BL (DN 4 (mX (mu:=cf) (MF 1 ["name"] p9 QV (J8 (kc "names_of" (BK (BJ 0) BR))) (λ_ _ _ _ _=>(GD 10)) (λ_ _ _ _=>JW) (λ_ _ _ _=>(DY (BK (BJ 10) (BK BP BR))))))) (BL (J2 (Pu (BJ 4) (BJ 2))) (BL (M7 (J8 (mU (MF 2 ["name","own"] p9 QV (J8 (BJ 1)) (λ_ _ _ _ _=>(fO (J9 (GD 10) (J9 (GD 11) U3)))) (λ_ _ _ _=>JW) (λ_ _ _ _=>(BJ 11))))) (GD 5) (BL (vB 6 2 ["name","own"] p9 QV (J8 (BJ 1)) (λ_ _ _ _ _=>(fO (J9 (GD 10) (J9 (GD 11) U3)))) (λ_ _ _ _=>(R3 (DR JT (BJ 11) (BJ 5)))) (λ_ _ _ _=>(BJ 10))) (BL (DN 7 (kc "names_reached" (BK (BJ 6) (BK (BJ 3) (BK (BJ 2) BR))))) (BL (DN 8 (kc "trail_down" (BK (BJ 5) (BK (BJ 7) (BK (BJ 3) (BK (BJ 2) BR)))))) (BL (GQ (DR p7 (BJ 8) j9) (BL (DK (BJ 8)) BX) BX) (BL (M7 (aW (BJ 7)) (GD 9) (BL (iY (BJ 4) (BJ 9) (jA (BJ 5) (S7 (BJ 4) (BJ 9)))) BX)) BX)))))) (BL (DK (DY (BK DG (BK (QG (qO (BJ 4))) BR)))) BX))))))⟩
noncomputable def QT:bz:=fV.1
noncomputable def iR:Fn:=⟨2,10,QT⟩
abbrev PN:List Str:=["pairs","onward","name","target"]
noncomputable def OD:QE "targets_by_name" (top 11) PN:=⟨_,by unfold QP QX;intros;rename_i B _ _ _ _ nd;exact(KW (WK (Fb nd rfl (Or.inl rfl) nW) (WK (Fd PassesOwn.never rfl (Qa (O2 rfl (Or.inl rfl))) (Fg rfl (cA (jL nd rfl (Or.inl rfl)) (cA (jL nd rfl (Or.inl rfl)) uW))) (WK (F7 (E9 (fY B (O2 rfl (Or.inl rfl)) (O2 rfl (Or.inl rfl)))) (jK (uT B (O2 rfl (Or.inl rfl)) (O2 rfl (Or.inl rfl)) (Fh JC) rfl)) uQ) (jK (uR (fX zB PySem.F.slot_list_append PySem.F.type_list_append YQ (uX B (O2 rfl (Or.inl rfl)) (O2 rfl (Or.inl rfl)) (λ_ _=>rfl)) (GK (O2 rfl (Or.inl rfl)) JC rfl)))))) (jK (Fc (Qf (O2 rfl (Or.inl rfl))))))) rfl)⟩
noncomputable def Q5:Fn:=⟨1,4,OD.1⟩
abbrev M9:List Str:=["starts","onward","told","came_from","waiting","name","kind","other"]
noncomputable def R8:QE "names_reached" (top 12) M9:=⟨_,by unfold QP QX;intros;exact BL (by with_reducible exact(DN 3 (mX (mu:=cf) (MF 1 ["name"] ["starts","onward","told","came_from","waiting","5","kind","other"] M9 (J8 (BJ 0)) (λ_ _ _ _ _=>(GD 8)) (λ_ _ _ _=>JW) (λ_ _ _ _=>(DY (BK (BJ 8) (BK j9 BR)))))))) (by with_reducible exact(BL (DN 4 (W6 (mu:=cf) (BJ 0))) (BL (bK (K7 (BJ 4)) (BL (DN 5 (MH (BJ 4))) (BL (M7 (J8 (bR (BJ 1) (BJ 5) (Q7 BR))) (fO (J9 (GD 6) (J9 (GD 7) U3))) (BL (GQ (L2.PW.pt (R0 (DR JT (BJ 6) DG) (R0 (TY (BJ 7) (BJ 2)) (QZ (TY (BJ 7) (BJ 3)))))) (BL (iY (BJ 3) (BJ 7) (BJ 5)) (BL (J2 (E3 (BJ 4) (BJ 7))) BX)) BX) BX)) BX))) (BL (DK (BJ 3)) BX))))⟩
noncomputable def RG:bz:=R8.1
noncomputable def xg:Fn:=⟨3,8,RG⟩
abbrev XS:List Str:=["level","came_from","onward","told","name","target"]
noncomputable def WD:QE "trail_down" (top 13) XS:=⟨_,by unfold QP QX;intros;exact BL (by with_reducible exact(M7 (aW (BJ 1)) (GD 4) (BL (M7 (J8 (bR (BJ 2) (BJ 4) (Q7 BR))) (GD 5) (BL (GQ (K7 (kc "is_below" (BK (BJ 5) (BK (BJ 0) (BK (BJ 3) BR))))) (BL (DK (DY (BK DG (BK (kc "way_to" (BK (BJ 4) (BK (BJ 1) BR))) (BK (BJ 5) BR))))) BX) BX) BX)) BX))) (by with_reducible exact(BL (DK j9) BX))⟩
noncomputable def XF:bz:=WD.1
noncomputable def Y6:Fn:=⟨4,6,XF⟩
abbrev dU:List Str:=["target","level","told"]
noncomputable def bW:QE "is_below" (top 14) dU:=⟨_,by unfold QP QX;intros;exact BL (by with_reducible exact(GQ (DR JT (CP (BJ 0) BP) DG) (BL (DK (YK XD (CP (BJ 0) BP) (BJ 1))) BX) BX)) (by with_reducible exact(BL (DK (YK XD (bR (BJ 2) (CP (BJ 0) BP) (BJ 1)) (BJ 1))) BX))⟩
noncomputable def eE:Fn:=⟨3,3,bW.1⟩
abbrev pQ:List Str:=["name","came_from","names","step"]
noncomputable def nG:QE "way_to" (top 15) pQ:=⟨_,by unfold QP QX;intros;exact BL (by with_reducible exact(DN 2 (Q7 (mu:=cf) BR))) (by with_reducible exact(BL (DN 3 (BJ 0)) (BL (bK (DR p7 (BJ 3) j9) (BL (J2 (E3 (BJ 2) (BJ 3))) (BL (DN 3 (S7 (BJ 1) (BJ 3))) BX))) (BL (DK (xG (BJ 2))) BX))))⟩
noncomputable def pI:bz:=nG.1
noncomputable def pU:Fn:=⟨2,4,pI⟩
abbrev wL:List Str:=pf
noncomputable def uL:QE "_law_cell" (top 17) wL:=⟨_,by unfold QP QX;intros;exact BL (by with_reducible exact(GQ (DR XD (BJ 1) (VB (BJ 0))) (BL (DK (CP (BJ 0) (BJ 1))) BX) BX)) (by with_reducible exact(BL (DK BP) BX))⟩
noncomputable def V2:Fn:=⟨2,2,uL.1⟩
abbrev FX:List Str:=["_law_cell_here","_law_prime","_law_many"]
noncomputable def E8:QE "_law_mix" (top 18) FX:=⟨_,by unfold QP QX;intros;exact BL (by with_reducible exact(DK (S6 (S6 (KC (BJ 0) BP) (BJ 1)) (BJ 2)))) (by with_reducible exact BX)⟩
noncomputable def QC:Fn:=⟨3,3,E8.1⟩
abbrev bC:List Str:=["_law_script","_law_k","_law_letters","_law_seed","_law_sign","_law_tail","_law_at"]
noncomputable def uI:QE "_law_name" (top 19) bC:=⟨_,by unfold QP QX;intros;exact BL (by with_reducible exact(DN 2 DG)) (by with_reducible exact(BL (DN 3 (kc "_law_cell" (BK (BJ 0) (BK BP BR)))) (BL (DN 4 (CP (BJ 2) (S6 (HB (kc "_law_mix" (BK (BJ 3) (BK BP (BK BP BR)))) (KC BP (BJ 1))) BP))) (BL (DN 5 (MQ DG (MF 1 ["_law_j"] bC bC (YF (kc "_law_mix" (BK (BJ 3) (BK BP (BK BP BR))))) (λ_ _ _ _ _=>(GD 7)) (λ_ _ _ _=>JW) (λ_ _ _ _=>(CP (BJ 2) (kc "_law_mix" (BK (HB (BJ 3) (KC BP (BJ 7))) (BK BP (BK BP BR))))))))) (BL (DN 6 (kc "_law_mix" (BK (BJ 3) (BK BP (BK (HB (VB (BJ 5)) BP) BR))))) (BL (DK (HB (HB (mW (BJ 5) u6 (fM (BJ 6))) (BJ 4)) (mW (BJ 5) (fM (BJ 6)) u6))) BX))))))⟩
noncomputable def bD:Fn:=⟨2,7,uI.1⟩
abbrev Y0:List Str:=["_law_script"]
noncomputable def nH:QE "_law_names" (top 20) Y0:=⟨_,by unfold QP QX;intros;exact BL (by with_reducible exact(DK (MF 1 ["_law_k"] Y0 Y0 (YF BP) (λ_ _ _ _ _=>(GD 1)) (λ_ _ _ _=>JW) (λ_ _ _ _=>(kc "_law_name" (BK (BJ 0) (BK (BJ 1) BR))))))) (by with_reducible exact BX)⟩
noncomputable def dY:Fn:=⟨1,1,nH.1⟩
abbrev iQ:List Str:=["_law_script"]
noncomputable def fW:QE "_law_levels" (top 21) iQ:=⟨_,by unfold QP QX;intros;exact BL (by with_reducible exact(DK (Q7 (BK BP (BK BP (BK (kc "_law_mix" (BK (kc "_law_cell" (BK (BJ 0) (BK BP BR))) (BK BP (BK BP BR)))) (BK (kc "_law_mix" (BK (kc "_law_cell" (BK (BJ 0) (BK BP BR))) (BK BP (BK BP BR)))) BR))))))) (by with_reducible exact BX)⟩
noncomputable def Z8:Fn:=⟨1,1,fW.1⟩
abbrev wJ:List Str:=["_law_names_here","_law_seed","_law_left","_law_turn","_law_one"]
noncomputable def uH:QE "_law_term" (top 23) wJ:=⟨_,by unfold QP QX;intros;exact BL (by with_reducible exact(DN 3 (kc "_law_mix" (BK (BJ 1) (BK BP (BK BP BR)))))) (by with_reducible exact(BL (GQ (L2.PW.pt (RW (DR JT (BJ 2) BP) (RV (DR XD (BJ 3) BP)))) (BL (GQ (DR JT (S6 (BJ 3) BP) BP) (BL (DK (DY (BK DG (BK (kc "_law_mix" (BK (BJ 1) (BK BP (BK BP BR)))) BR)))) BX) BX) (BL (DK (DY (BK DG (BK (CP (BJ 0) (kc "_law_mix" (BK (BJ 1) (BK BP (BK BP BR))))) BR)))) BX)) BX) (BL (DN 4 (kc "_law_term" (BK (BJ 0) (BK (HB (KC (BJ 1) BP) BP) (BK (YG (BJ 2) BP) BR))))) (BL (DK (DY (BK (CP (Q7 (BK DG (BK DG (BK DG BR)))) (S6 (BJ 3) BP)) (BK (BJ 4) (BK (kc "_law_term" (BK (BJ 0) (BK (HB (KC (BJ 1) BP) BP) (BK (YG (BJ 2) BP) BR)))) BR))))) BX))))⟩
noncomputable def Y7:Fn:=⟨3,5,uH.1⟩
abbrev aH:List Str:=["_law_term_here"]
noncomputable def ZM:QE "_law_names_in" (top 24) aH:=⟨_,by unfold QP QX;intros;exact BL (by with_reducible exact(GQ (DR JT (CP (BJ 0) BP) DG) (BL (DK (Q7 (BK (CP (BJ 0) BP) BR))) BX) BX)) (by with_reducible exact(BL (GQ (DR JT (CP (BJ 0) BP) DG) (BL (DK (Q7 BR)) BX) BX) (BL (DK (S8 (kc "_law_names_in" (BK (CP (BJ 0) BP) BR)) (kc "_law_names_in" (BK (CP (BJ 0) BP) BR)))) BX)))⟩
noncomputable def J5:Fn:=⟨1,1,ZM.1⟩
abbrev V1:List Str:=["_law_plan","_law_cell_here","_law_deep","_law_need","_law_names_here","_law_levels_here","_law_honest","_law_term_here","_law_high","_law_turn","_law_one","_law_more","_law_block_here","_law_some"]
noncomputable def uK:QE "_law_deed" (top 25) V1:=⟨_,by unfold QP QX;intros;exact BL (by with_reducible exact(Pm (BJ 0) (fO (J9 (GD 4) (J9 (GD 5) (J9 (GD 6) U3)))))) (by with_reducible exact(BL (DN 7 (kc "_law_term" (BK (BJ 4) (BK (BJ 1) (BK (HB BP (S6 (BJ 1) BP)) BR))))) (BL (DN 8 (Py (S8 (MF 1 ["_law_name_here"] V1 V1 (J8 (kc "_law_names_in" (BK (BJ 7) BR))) (λ_ _ _ _ _=>(GD 14)) (λ_ _ _ _=>JW) (λ_ _ _ _=>(CP (BJ 5) (Lc (BJ 4) (BJ 14))))) (Q7 (BK (BJ 3) BR))))) (BL (DN 9 (kc "_law_mix" (BK (BJ 1) (BK BP (BK BP BR))))) (BL (GQ (L2.PW.pt (R0 (DR vY (BJ 2) BP) (QZ (DR XD (BJ 9) BP)))) (BL (DN 10 (kc "_law_block" (BK (BJ 0) (BK (HB (KC (BJ 1) BP) BP) (BK (YG (BJ 2) BP) (BK (BJ 8) BR)))))) (BL (DK (DY (BK DG (BK (BJ 7) (BK (BJ 10) (BK (kc "_law_block" (BK (BJ 0) (BK (HB (KC (BJ 1) BP) BP) (BK (YG (BJ 2) BP) (BK (BJ 8) BR))))) BR)))))) BX)) BX) (BL (GQ (L2.PW.pt (R0 (DR vY (BJ 2) BP) (R0 (DR XD (BJ 9) BP) (QZ (L2.PW.pt (RW (DR JT (BJ 3) BP) (RV (V7 (K7 (BJ 6)))))))))) (BL (DN 11 (DY (BK DG (BK (CP (BJ 4) BP) (BK (DY (BK DG (BK (DY (BK DG (BK (CP (BJ 4) BP) BR))) (BK (DY (BK DG (BK BP BR))) BR)))) BR))))) (BL (DN 12 (kc "_law_block" (BK (BJ 0) (BK (HB (KC (BJ 1) BP) BP) (BK (YG (BJ 2) BP) (BK (BJ 3) BR)))))) (BL (GQ (K7 (BJ 6)) (BL (DN 7 (DY (BK DG (BK (DY (BK DG (BK (CP (BJ 4) BP) BR))) (BK (DY (BK DG (BK (kc "_law_mix" (BK (BJ 1) (BK BP (BK BP BR)))) BR))) BR))))) BX) BX) (BL (DK (DY (BK DG (BK (BJ 7) (BK (HB (BJ 12) (DY (BK (BJ 11) BR))) BR))))) BX)))) BX) (BL (vB 13 1 ["_law_k"] V1 V1 (YF BP) (λ_ _ _ _ _=>(GD 14)) (λ_ _ _ _=>(R3 (L2.PW.pt (RW (DR Sy (CP (BJ 5) (BJ 14)) (BJ 8)) (RV (V7 (K7 (BJ 6)))))))) (λ_ _ _ _=>(BJ 14))) (BL (GQ (L2.PW.pt (R0 (DR XD (BJ 9) BP) (QZ (K7 (BJ 13))))) (BL (DK (DY (BK DG (BK (CP (BJ 4) (CP (BJ 13) (kc "_law_mix" (BK (BJ 1) (BK BP (BK (VB (BJ 13)) BR)))))) (BK (BJ 7) BR))))) BX) BX) (BL (DK (DY (BK DG (BK (jA (kc "_law_mix" (BK (BJ 1) (BK BP (BK BP BR)))) (KC (BJ 8) (MR (BJ 6)))) (BK (BJ 7) BR))))) BX)))))))))⟩
noncomputable def UL:bz:=uK.1
noncomputable def bF:Fn:=⟨4,14,UL⟩
abbrev Y4:List Str:=["_law_plan","_law_cell_here","_law_deep","_law_need","_law_many"]
noncomputable def nO:QE "_law_block" (top 26) Y4:=⟨_,by unfold QP QX;intros;exact BL (by with_reducible exact(DN 4 (HB BP (kc "_law_mix" (BK (BJ 1) (BK BP (BK BP BR))))))) (by with_reducible exact(BL (DK (QG (MF 1 ["_law_k"] Y4 Y4 (YF (BJ 4)) (λ_ _ _ _ _=>(GD 5)) (λ_ _ _ _=>JW) (λ_ _ _ _=>(kc "_law_deed" (BK (BJ 0) (BK (HB (KC (BJ 1) BP) (KC BP (BJ 5))) (BK (BJ 2) (BK (BJ 3) BR))))))))) BX))⟩
noncomputable def Y8:Fn:=⟨4,5,nO.1⟩
abbrev R6:List Str:=["_law_script","_law_k","_law_honest","_law_plan","_law_cells"]
noncomputable def bT:QE "_law_program" (top 27) R6:=⟨_,by unfold QP QX;intros;exact BL (by with_reducible exact(DN 2 (YK vY (kc "_law_mix" (BK (kc "_law_cell" (BK (BJ 0) (BK BP BR))) (BK BP (BK BP BR)))) BP))) (by with_reducible exact(BL (DN 3 (DY (BK (kc "_law_names" (BK (BJ 0) BR)) (BK (kc "_law_levels" (BK (BJ 0) BR)) (BK (BJ 2) BR))))) (BL (DN 4 (mW (BJ 0) (fM (BJ 1)) (fM (HB (HB (BJ 1) BP) (S6 (kc "_law_cell" (BK (BJ 0) (BK BP BR))) BP))))) (BL (DK (QG (MF 1 ["_law_cell_here"] R6 R6 (J8 (BJ 4)) (λ_ _ _ _ _=>(GD 5)) (λ_ _ _ _=>JW) (λ_ _ _ _=>(kc "_law_deed" (BK (BJ 3) (BK (BJ 5) (BK BP (BK BP BR))))))))) BX))))⟩
noncomputable def dX:Fn:=⟨2,5,bT.1⟩
abbrev LQ:List Str:=["_law_block_here","_law_around","_law_found","_law_deed_here","_law_names_here"]
noncomputable def nM:QE "_law_flows" (top 28) LQ:=⟨_,by unfold QP QX;intros;exact BL (by with_reducible exact(DN 2 (Q7 (mu:=cf) BR))) (by with_reducible exact(BL (M7 (J8 (BJ 0)) (GD 3) (BL (GQ (DR JT (CP (BJ 3) BP) DG) (BL (J2 (YH (BJ 2) (MF 1 ["_law_name_here"] LQ LQ (J8 (S8 (BJ 1) (kc "_law_names_in" (BK (CP (BJ 3) BP) BR)))) (λ_ _ _ _ _=>(GD 5)) (λ_ _ _ _=>JW) (λ_ _ _ _=>(DY (BK (BJ 5) (BK (DY (BK DG (BK (CP (BJ 3) BP) BR))) BR))))))) BX) BX) (BL (GQ (DR JT (CP (BJ 3) BP) DG) (BL (J2 (YH (BJ 2) (MF 1 ["_law_name_here"] LQ LQ (J8 (S8 (BJ 1) (kc "_law_names_in" (BK (CP (BJ 3) BP) BR)))) (λ_ _ _ _ _=>(GD 5)) (λ_ _ _ _=>JW) (λ_ _ _ _=>(DY (BK (BJ 5) (BK (DY (BK DG (BK (CP (BJ 3) BP) BR))) BR))))))) BX) BX) (BL (GQ (DR JT (CP (BJ 3) BP) DG) (BL (J2 (YH (BJ 2) (MF 1 ["_law_name_here"] LQ LQ (J8 (S8 (BJ 1) (kc "_law_names_in" (BK (CP (BJ 3) BP) BR)))) (λ_ _ _ _ _=>(GD 5)) (λ_ _ _ _=>JW) (λ_ _ _ _=>(DY (BK (BJ 5) (BK (DY (BK DG (BK BP BR))) BR))))))) (BL (J2 (YH (BJ 2) (kc "_law_flows" (BK (CP (BJ 3) BP) (BK (BJ 1) BR))))) BX)) BX) (BL (GQ (DR JT (CP (BJ 3) BP) DG) (BL (DN 4 (S8 (BJ 1) (kc "_law_names_in" (BK (CP (BJ 3) BP) BR)))) (BL (J2 (YH (BJ 2) (S8 (kc "_law_flows" (BK (CP (BJ 3) BP) (BK (BJ 4) BR))) (kc "_law_flows" (BK (CP (BJ 3) BP) (BK (BJ 4) BR)))))) BX)) BX) BX))))) (BL (DK (mV (BJ 2))) BX)))⟩
noncomputable def pL:bz:=nM.1
noncomputable def dZ:Fn:=⟨2,5,pL⟩
abbrev wK:List Str:=["_law_target","_law_levels_here"]
noncomputable def uJ:QE "_law_goal" (top 29) wK:=⟨_,by unfold QP QX;intros;exact BL (by with_reducible exact(GQ (DR JT (CP (BJ 0) BP) DG) (BL (DK (CP (BJ 0) BP)) BX) BX)) (by with_reducible exact(BL (DK (bR (BJ 1) (CP (BJ 0) BP) BP)) BX))⟩
noncomputable def wN:Fn:=⟨2,2,uJ.1⟩
abbrev pR:List Str:=["_law_house_here","_law_names_here","_law_some","_law_levels_here","_law_name_here","_law_turn","_law_target"]
noncomputable def nJ:QE "_law_least" (top 30) pR:=⟨_,by unfold QP QX;intros;exact BL (by with_reducible exact(DN 3 (MJ (mu:=cf) (BJ 0)))) (by with_reducible exact(BL (M7 (J8 (BJ 1)) (GD 4) (BL (J2 (MG (BJ 3) (BJ 4) BP)) BX)) (BL (M7 (YF (HB (KC BP (VB (BJ 3))) BP)) (GD 5) (BL (M7 (J8 (BJ 2)) (fO (J9 (GD 4) (J9 (GD 6) U3))) (BL (GQ (L2.PW.pt (R0 (DR JT (CP (BJ 6) BP) DG) (QZ (TY (CP (BJ 6) BP) (MJ (BJ 0)))))) (BL (iY (BJ 3) (CP (BJ 6) BP) (jA (S7 (BJ 3) (CP (BJ 6) BP)) (S7 (BJ 3) (BJ 4)))) BX) BX) BX)) BX)) (BL (DK (BJ 3)) BX))))⟩
noncomputable def d9:bz:=nJ.1
noncomputable def pW:Fn:=⟨3,7,d9⟩
abbrev aJ:List Str:=["_law_found","_law_house_here","_law_some","_law_names_here","_law_k"]
noncomputable def ZP:QE "_law_is_trail" (top 31) aJ:=⟨_,by unfold QP QX;intros;exact BL (by with_reducible exact(GQ (L2.PW.pt (RW (DR gU (VB (BJ 0)) BP) (RW (V7 (K7 (VD (CP (BJ 0) BP)))) (RW (V7 (K7 (CP (BJ 0) BP))) (RV (TY (CP (CP (BJ 0) BP) BP) (MJ (BJ 1)))))))) (BL (DK W7) BX) BX)) (by with_reducible exact(BL (DN 3 (W6 (CP (BJ 0) BP))) (BL (M7 (MA BP (VB (BJ 3))) (GD 4) (BL (GQ (tZ (DY (BK (CP (BJ 3) (YG (BJ 4) BP)) (BK (DY (BK DG (BK (CP (BJ 3) (BJ 4)) BR))) BR))) (BJ 2)) (BL (DK W7) BX) BX) BX)) (BL (GQ (tZ (DY (BK (CP (BJ 3) Px) (BK (CP (BJ 0) BP) BR))) (BJ 2)) (BL (DK W7) BX) BX) (BL (GQ (L2.PW.pt (R0 (DR JT (CP (CP (BJ 0) BP) BP) DG) (QZ (TY (CP (CP (BJ 0) BP) BP) (MJ (BJ 1)))))) (BL (DK W7) BX) BX) (BL (DK (YK XD (kc "_law_goal" (BK (CP (BJ 0) BP) (BK (MJ (BJ 1)) BR))) (S7 (MJ (BJ 1)) (CP (BJ 3) BP)))) BX))))))⟩
noncomputable def aF:bz:=ZP.1
noncomputable def aL:Fn:=⟨3,5,aF⟩
abbrev PX:List Str:=["_law_script","_law_program_here","_law_names_here","_law_pairs","_law_house_here","_law_some","_law_mine","_law_levels_here","_law_found","_law_told"]
noncomputable def F6:QE "law" (top 32) PX:=⟨_,by unfold QP QX;intros;exact BL (by with_reducible exact(DN 1 (kc "_law_program" (BK (BJ 0) (BK BP BR))))) (by with_reducible exact(BL (DN 2 (kc "_law_names" (BK (BJ 0) BR))) (BL (vB 3 1 ["_law_k"] PX PX (YF BP) (λ_ _ _ _ _=>(GD 10)) (λ_ _ _ _=>JW) (λ_ _ _ _=>(DY (BK (CP (BJ 2) (BJ 10)) (BK (kc "_law_mix" (BK (HB (kc "_law_cell" (BK (BJ 0) (BK BP BR))) (KC BP (BJ 10))) (BK BP (BK BP BR)))) BR))))) (BL (GQ (DR JT (S6 (kc "_law_cell" (BK (BJ 0) (BK BP BR))) BP) BP) (BL (DN 3 (ML (BJ 2) (kc "_law_levels" (BK (BJ 0) BR)))) BX) BX) (BL (DN 4 (QG (xH (MF 2 ["_law_k","_law_pair"] PX PX (MC (BJ 3)) (λ_ _ _ _ _=>(fO (J9 (GD 10) (J9 (GD 11) U3)))) (λ_ _ _ _=>(R3 (DR vY (kc "_law_mix" (BK (HB (kc "_law_cell" (BK (BJ 0) (BK BP BR))) (BJ 10)) (BK BP (BK BP BR)))) BP))) (λ_ _ _ _=>(BJ 11)))))) (BL (DN 5 (kc "_law_flows" (BK (BJ 1) (BK (Q7 BR) BR)))) (BL (vB 6 1 ["_law_name_here"] PX PX (J8 (BJ 2)) (λ_ _ _ _ _=>(GD 10)) (λ_ _ _ _=>(R3 (K7 (MF 1 ["_law_flow"] p6 p6 (J8 (BJ 5)) (λ_ _ _ _ _=>(GD 11)) (λ_ _ _ _=>(R3 (L2.PW.pt (RW (DR JT (BJ 10) (CP (BJ 11) BP)) (RV (DR JT (DY (BK DG (BK (BJ 10) BR))) (CP (BJ 11) BP))))))) (λ_ _ _ _=>(BJ 11)))))) (λ_ _ _ _=>(BJ 10))) (BL (DN 7 (kc "_law_least" (BK (BJ 4) (BK (BJ 6) (BK (BJ 5) BR))))) (BL (DN 8 (kc "settled" (BK (BJ 1) (BK (BJ 4) BR)))) (BL (GQ (L2.PW.pt (RW (V7 (K7 (VD (BJ 8)))) (RV (DR XD (VB (BJ 8)) BP)))) (BL (DK W7) BX) BX) (BL (GQ (V7 (K7 (PH (MF 1 ["_law_flow"] PX PX (J8 (BJ 5)) (λ_ _ _ _ _=>(GD 10)) (λ_ _ _ _=>JW) (λ_ _ _ _=>(YK Sx (S7 (BJ 7) (CP (BJ 10) BP)) (kc "_law_goal" (BK (CP (BJ 10) BP) (BK (BJ 7) BR))))))))) (BL (DK (PF (YK JT (CP (BJ 8) BP) DG) (MM (kc "_law_is_trail" (BK (BJ 8) (BK (BJ 4) (BK (BJ 5) BR))))))) BX) BX) (BL (GQ (L2.PW.pt (RW (DR gU (CP (BJ 8) BP) DG) (RW (V7 (K7 (VD (CP (BJ 8) BP)))) (RV (DR gU (W6 (CP (BJ 8) BP)) (mQ (CP (BJ 8) BP))))))) (BL (DK W7) BX) BX) (BL (DN 9 (MJ (CP (BJ 8) BP))) (BL (GQ (DR gU (bQ (BJ 9)) (j8 (S8 (W6 (kc "names_of" (BK (BJ 1) BR))) (Lb (MJ (BJ 4)))))) (BL (DK W7) BX) BX) (BL (GQ (K7 (MF 1 ["_law_name_here"] PX PX (aW (BJ 7)) (λ_ _ _ _ _=>(GD 10)) (λ_ _ _ _=>(R3 (DR gU (bR (BJ 9) (BJ 10) BP) (S7 (BJ 7) (BJ 10))))) (λ_ _ _ _=>(BJ 10)))) (BL (DK W7) BX) BX) (BL (DK (MI (MF 1 ["_law_name_here"] PX PX (aW (BJ 9)) (λ_ _ _ _ _=>(GD 10)) (λ_ _ _ _=>(R3 (L2.PW.pt (RW (DR LV (BJ 10) (BJ 2)) (RV (L2.PW.pt (R0 (TY (BJ 10) (BJ 7)) (QZ (DR gU (S7 (BJ 9) (BJ 10)) BP))))))))) (λ_ _ _ _=>(BJ 10))))) BX))))))))))))))))⟩
noncomputable def iK:bz:=F6.1
noncomputable def u7:Fn:=⟨1,10,iK⟩
noncomputable def tP:List En:=[⟨"names_of",top 2,["program"],dR,VP⟩,⟨"names_in_term",top 3,["term"],RJ,RK⟩,⟨"parts_of",top 4,["part"],dO,KH⟩,⟨"flows",top 6,["program"],wM,wO⟩,⟨"gather_flows",top 7,["block","choosing","found"],T9,xf⟩,⟨"add_flows",top 8,["names","target","found"],aK,xd⟩,⟨"settled",top 10,["program","house"],QV,iR⟩,⟨"targets_by_name",top 11,["pairs"],PN,Q5⟩,⟨"names_reached",top 12,["starts","onward","told"],M9,xg⟩,⟨"trail_down",top 13,["level","came_from","onward","told"],XS,Y6⟩,⟨"is_below",top 14,["target","level","told"],dU,eE⟩,⟨"way_to",top 15,["name","came_from"],pQ,pU⟩,⟨"_law_cell",top 17,pf,wL,V2⟩,⟨"_law_mix",top 18,["_law_cell_here","_law_prime","_law_many"],FX,QC⟩,⟨"_law_name",top 19,pf,bC,bD⟩,⟨"_law_names",top 20,["_law_script"],Y0,dY⟩,⟨"_law_levels",top 21,["_law_script"],iQ,Z8⟩,⟨"_law_term",top 23,["_law_names_here","_law_seed","_law_left"],wJ,Y7⟩,⟨"_law_names_in",top 24,["_law_term_here"],aH,J5⟩,⟨"_law_deed",top 25,["_law_plan","_law_cell_here","_law_deep","_law_need"],V1,bF⟩,⟨"_law_block",top 26,["_law_plan","_law_cell_here","_law_deep","_law_need"],Y4,Y8⟩,⟨"_law_program",top 27,pf,R6,dX⟩,⟨"_law_flows",top 28,["_law_block_here","_law_around"],LQ,dZ⟩,⟨"_law_goal",top 29,["_law_target","_law_levels_here"],wK,wN⟩,⟨"_law_least",top 30,["_law_house_here","_law_names_here","_law_some"],pR,pW⟩,⟨"_law_is_trail",top 31,["_law_found","_law_house_here","_law_some"],aJ,aL⟩,⟨"law",top 32,["_law_script"],PX,u7⟩]
noncomputable def ae:String->Option Fn:=λf=>List.lookup f (tP.map λe=>(e.f,e.F))
def Ds(P:Program)(w:wy)(K:p5)(mg:Str->Option Value)(base:Heap)(W n:Nat):Prop:=∀f∈fns,Def P w K mg base n (BZ W ae n) f
theorem qs:TF (λe=>QP e.f e.st e.N e.F.body) tP:=⟨bV.2,R9.2,bU.2,uM.2,SN.2,ZQ.2,fV.2,OD.2,R8.2,WD.2,bW.2,nG.2,uL.2,E8.2,uI.2,nH.2,fW.2,uH.2,ZM.2,uK.2,nO.2,bT.2,nM.2,uJ.2,nJ.2,ZP.2,F6.2,trivial⟩
theorem Ez{P:Program}{w:wy}{K:p5}{mg:Str->Option Value}{base:Heap}{W n:Nat}(T:Tp K mg)(D:Ds P w K mg base W n):∀{l:List En},TF (Ah ae) l->TF (λe=>QP e.f e.st e.N e.F.body) l->TF (λe=>He P w K mg base W n (BZ W ae n) e.f e.st e.N e.F.body) l
 | [],_,_=>trivial
 | _::_,⟨q,u⟩,⟨o,v⟩=>⟨λB=>o P w K mg base W n _ _ _ _ _ _ _ _ T.WZ T.Xa T.Xb T.Xc T.Xd T.Xe T.Xf T.Xg T.Xh T.Xi T.Xj T.Xk T.Xl T.Xm T.xy D B (So B) (Oa B) (N9 B) B.units PassesOwn.never q.1.nd,Ez T D u v⟩
end T
end
section
variable{C:String->List WL.D->WL.Mem->Option (WL.D×WL.Mem)}{W:Nat}{X:Option (WL.Out×WL.Mem)}{b:WL.DS->WL.Mem->Option (WL.Out×WL.Mem)}{c:Bool}{e2:WL.Ex}{g:WL.Tg}{xs:List WL.D}{ae:String->Option WL.Fn}
section
set_option genInjectivity false
namespace WW
inductive Op where
 | sum | times | less
 deriving DecidableEq
noncomputable def Op.ap:Op->Int->Int->Int
 | .sum,a,b=>(a+b) % 997
 | .times,a,b=>(a*b) % 997
 | .less,a,b=>if a<b then 1 else 0
section
variable{N:Type}
inductive Tm (N:Type) where
 | num (n:Int)
 | hZ (x:N)
 | bin (o:Op) (a b:Tm N)
noncomputable def Tm.val(f:N->Int):Tm N->Int
 | .num n=>n
 | .hZ x=>f x
 | .bin o a b=>o.ap (a.val f) (b.val f)
noncomputable def Tm.dep:Tm N->Nat
 | .num _=>0
 | .hZ _=>0
 | .bin _ a b=>max a.dep b.dep+1
noncomputable def Tm.names:Tm N->List N
 | .num _=>[]
 | .hZ x=>[x]
 | .bin _ a b=>a.names++b.names
def Tm.Ok(P:N->Prop):Tm N->Prop
 | .num n=>0<=n/\n<997
 | .hZ x=>P x
 | .bin _ a b=>a.Ok P/\b.Ok P
theorem Tm.Ok.names{P:N->Prop}:∀{t:Tm N},t.Ok P->∀x∈t.names,P x
 | .num _,_,x,B=>by simp[Tm.names]at B
 | .hZ y,h,x,B=>by
  have:x=y:=by simpa[Tm.names] using B
  rw[this];exact h
 | .bin _ a b,h,x,B=>by
  rcases dg B with B | B
  .exact h.1.names x B
  .exact h.2.names x B
mutual
inductive Dd (N:Type) where
 | put (x:N) (t:Tm N)
 | fq (l:Int) (t:Tm N)
 | ite (t:Tm N) (b c:Bl N)
 | dA (t:Tm N) (b:Bl N)
inductive Bl (N:Type) where
 | nil
 | cons (d:Dd N) (b:Bl N)
end
noncomputable def Bl.list:Bl N->List (Dd N)
 | .nil=>[]
 | .cons d b=>d::b.list
noncomputable def Bl.of:List (Dd N)->Bl N
 | []=>.nil
 | d::r=>.cons d (Bl.of r)
theorem Bl.Em:∀l:List (Dd N),(Bl.of l).list=l
 | []=>rfl
 | d::r=>by show d::(Bl.of r).list=_;rw[Bl.Em r]
noncomputable def Bl.app:Bl N->Bl N->Bl N
 | .nil,c=>c
 | .cons d b,c=>.cons d (b.app c)
theorem Bl.Ju:∀b c:Bl N,(b.app c).list=b.list++c.list
 | .nil,_=>rfl
 | .cons d b,c=>by show d::(b.app c).list=_;rw[Bl.Ju b c];rfl
mutual
noncomputable def Dd.size:Dd N->Nat
 | .put _ _=>1
 | .fq _ _=>1
 | .ite _ b c=>b.size+c.size+1
 | .dA _ b=>b.size+1
noncomputable def Bl.size:Bl N->Nat
 | .nil=>0
 | .cons d b=>d.size+b.size
end
mutual
noncomputable def Dd.dep:Dd N->Nat
 | .put _ t=>t.dep
 | .fq _ t=>t.dep
 | .ite t b c=>max t.dep (max b.dep c.dep)+1
 | .dA t b=>max t.dep b.dep+1
noncomputable def Bl.dep:Bl N->Nat
 | .nil=>0
 | .cons d b=>max d.dep b.dep
end
mutual
def Dd.Ok(P:N->Prop):Dd N->Prop
 | .put x t=>P x/\t.Ok P
 | .fq l t=>(0<=l/\l<3)/\t.Ok P
 | .ite t b c=>t.Ok P/\b.Ok P/\c.Ok P
 | .dA t b=>t.Ok P/\b.Ok P
def Bl.Ok(P:N->Prop):Bl N->Prop
 | .nil=>True
 | .cons d b=>d.Ok P/\b.Ok P
end
theorem Dd.size_pos:∀d:Dd N,0<d.size
 | .put _ _=>Nat.one_pos
 | .fq _ _=>Nat.one_pos
 | .ite _ _ _=>Nat.succ_pos _
 | .dA _ _=>Nat.succ_pos _
noncomputable def wg:List (Dd N)->Nat
 | []=>0
 | d::r=>d.size+wg r
theorem V8:∀b:Bl N,wg b.list=b.size
 | .nil=>rfl
 | .cons d b=>by show d.size+wg b.list=d.size+b.size;rw[V8 b]
theorem mJ:∀{l:List (Dd N)} {d:Dd N},d∈l->d.size<=wg l
 | [],_,h=>nomatch h
 | e::r,d,h=>by
  rcases cq h with h | h
  .subst h;exact qi _ _
  .exact fN (mJ h) (Nat.le_add_left _ _)
theorem Bl.Ok.mem{P:N->Prop}:∀{b:Bl N},b.Ok P->∀d∈b.list,d.Ok P
 | .nil,_,d,h=>nomatch h
 | .cons e b,h,d,hd=>by
  rcases cq hd with hd | hd
  .subst hd;exact h.1
  .exact Bl.Ok.mem h.2 d hd
theorem Bl.CB:∀{b:Bl N} {d:Dd N},d∈b.list->d.dep<=b.dep
 | .nil,_,h=>nomatch h
 | .cons e b,d,h=>by
  rcases cq h with h | h
  .subst h;exact Nat.le_max_left _ _
  .exact fN (Bl.CB h) (Nat.le_max_right _ _)
variable[DecidableEq N]
noncomputable def KQ(f:N->Int)(x:N)(v:Int):N->Int:=λy=>if y=x then v else f y
noncomputable def aaR(B:List (Int×Int))(l:Int):List Int:=(B.filter λp=>p.1=l).map (·.2)
end
end WW
end
namespace WL
open PySem L2
@[simp] theorem ofString_eq{a b:String}:(fi a=fi b)=(a=b):=by
 apply propext;refine⟨λh=>?_,λh=>by rw[h]⟩;rw[Str.ofString_eq_toList,Str.ofString_eq_toList]at h;have C:a.toList.map Char.toNat=b.toList.map Char.toNat:=by simpa using congrArg (λs:Str=>s.cps.toList) h
 have B:a.toList=b.toList:=List.map_inj_right (λx y h=>Char.toNat_inj.mp h) |>.mp C;exact String.toList_inj.mp B
section
variable{m:Mem}
@[simp] theorem Zn(a b:Str):kj (.str a) (.str b)=aV (eH (a=b)):=rfl
@[simp] theorem Zo(a b:Int):kj (.int a) (.int b)=aV (eH (a=b)):=rfl
@[simp] theorem Zy(a b:D):LC .eq a b=kj a b:=rfl
@[simp] theorem Rc(a b:D):LC .ne a b=(kj a b).map (!·):=rfl
@[simp] theorem Zu(a b:Int):LC .lt (.int a) (.int b)=aV (eH (a<b)):=rfl
@[simp] theorem Zv(a b:Int):LC .le (.int a) (.int b)=aV (eH (a<=b)):=rfl
@[simp] theorem cmp_gt(a b:Int):LC .gt (.int a) (.int b)=aV (eH (b<a)):=rfl
@[simp] theorem Zx(a b:Int):LC .ge (.int a) (.int b)=aV (eH (b<=a)):=rfl
@[simp] theorem Zw(a:D):LC .is a .aE=aV a.sC:=rfl
@[simp] theorem Zp(a:D)(b:Bool):LC .is a (.bl b)=aV (a.uk b):=rfl
@[simp] theorem Y3(a:D)(b:Bool):LC .sD a (.bl b)=aV (!a.uk b):=rfl
@[simp] theorem Zm(b c:Bool):D.uk b (.bl c)=(c==b):=rfl
@[simp] theorem Zd(a:D):LC .sD a .aE=aV (!a.sC):=rfl
@[simp] theorem Zb:D.sC .aE=cf:=rfl
@[simp] theorem Zc(i:Int):D.sC (.int i)=en:=rfl
@[simp] theorem Zs(b:Bool):eO (.bl b) m=aV b:=rfl
@[simp] theorem Zk(xs:List D):eO (.lst xs) m=aV (!xs.isEmpty):=rfl
@[simp] theorem Zr(a b:Int):Z1 .add (.int a) (.int b) m=aV (.int (a+b),m):=rfl
@[simp] theorem Zq(a b:Int):Z1 .sub (.int a) (.int b) m=aV (.int (a-b),m):=rfl
theorem d8{a b:Int}(h:-(2 ^ 64)<b/\b<2 ^ 64):Z1 .mul (.int a) (.int b) m=aV (.int (a*b),m):=ah (.inr h)
theorem QS{a b:Int}(h:-(2 ^ 64)<a/\a<2 ^ 64):Z1 .mul (.int a) (.int b) m=aV (.int (a*b),m):=ah (.inl h)
theorem UJ{a b:Int}(h:0<b):Z1 .mod (.int a) (.int b) m=aV (.int (a % b),m):=ah h
theorem wF{a b:Str}(h:a.length+b.length<=1000):Z1 .add (.str a) (.str b) m=aV (.str (a++b),m):=ah h
theorem NP{a b:List D}(h:a.length+b.length<=10000):Z1 .add (.tup a) (.tup b) m=aV (.tup (a++b),m):=ah h
@[simp] theorem Jn(xs:List D)(i:Int):ke (.tup xs) (.int i) m=cy xs i:=rfl
@[simp] theorem QH(xs:List D)(i:Int):ke (.lst xs) (.int i) m=cy xs i:=rfl
@[simp] theorem Zt(xs:List Int)(i:Int):ke (.b9 xs) (.int i) m=(cy xs i).map .int:=rfl
theorem O6{α:Type}{xs:List α}{i:Nat}:cy xs (i:Int)=xs[i]?:=by
 unfold cy um
 by_cases h:i<xs.length
 .rw[ah (Int.natCast_nonneg i),ah (by lia)]
  simp
 .rw[ah (Int.natCast_nonneg i),ak (by lia)]
  simp[kv (by lia:xs.length<=i)]
@[simp] theorem GI{α:Type}{a:α}{r:List α}:cy (a::r) 0=aV a:=O6 (i:=0)
@[simp] theorem ZE{α:Type}{a b:α}{r:List α}:cy (a::b::r) 1=aV b:=O6 (i:=1)
@[simp] theorem ZA{α:Type}{a b c:α}{r:List α}:cy (a::b::c::r) 2=aV c:=O6 (i:=2)
@[simp] theorem Zz{α:Type}{a b c d:α}{r:List α}:cy (a::b::c::d::r) 3=aV d:=O6 (i:=3)
@[simp] theorem Zi(i:Int):D.clean (.int i)=cf:=rfl
@[simp] theorem Zf(i:Str):D.clean (.str i)=cf:=rfl
@[simp] theorem Zj(i:Bool):D.clean (.bl i)=cf:=rfl
@[simp] theorem Zg:D.clean .aE=cf:=rfl
@[simp] theorem Ze(xs:List D):D.clean (.tup xs)=D.clean.cK xs:=rfl
@[simp] theorem Zh(xs:List D):D.clean (.lst xs)=D.clean.cK xs:=rfl
@[simp] theorem Za:D.clean.cK []=cf:=rfl
@[simp] theorem Y2(a:D)(r:List D):D.clean.cK (a::r)=(a.clean&&D.clean.cK r):=rfl
theorem fZ{n:Nat}{d:D}(h:d.clean=cf):outD n m d=aV d:=by
 cases d with
 | aI i=>cases h
 | _=>simp only[outD,h,if_true]
theorem NQ{f:String}{F:Fn}{n:Nat}(h:ae f=aV F)(hl:xs.length=F.ps):BZ W ae (n+1) f xs m=(aT (BZ W ae n) W F.body (xs.map aV++i5 (F.ns-F.ps) a0) m).bind λz=>match z.1 with
    | .rt d=>(outD m.length z.2 d).map λd=>(d,z.2.take m.length)
    | .nx _=>aV (.aE,z.2.take m.length):=by
 show (ae f).bind _=_;rw[h,bS,ah hl]<;>
 rfl
theorem FJ{f:String}{F:Fn}{n:Nat}{d:D}(h:ae f=aV F)(hl:xs.length=F.ps)(B:d.clean=cf)(e:aT (BZ W ae n) W F.body (xs.map aV++i5 (F.ns-F.ps) a0) m=aV (.rt d,m)):BZ W ae (n+1) f xs m=aV (d,m):=by
 rw[NQ h hl,e];simp only[bS,fZ B,j2,List.take_length]
@[simp] theorem Zl:Walk.ok ⟨xs,a0⟩ m=cf:=rfl
end
end WL
namespace WL
open PySem L2
section
variable{m:Mem}
theorem oX{w:Walk}{f:D->Mem->Option (Option D×Mem)}{g:D->Option D}(e:w.ok m=cf):∀{xs:List D},(∀d∈xs,f d m=aV (g d,m))->T6 w f xs m=aV (xs.filterMap g,m)
 | [],_=>by simp[T6,e]
 | d::r,h=>by
  simp only[T6,e,if_true,h d bw,bS];rw[oX e λx B=>h x (bx _ B)];cases hp:g d<;>simp[tE,hp]
theorem LL{k:Nat}{i:Ie}{t:Te}{e:Ex}{σ:DS}{q:Option Nat}{h:D->Option D}(Z:Walk.ok ⟨xs,q⟩ m=cf)(ho:mM σ.length g=cf)(hi:ei C i σ m=aV (⟨xs,q⟩,m))(hl:xs.length<=1000)(hf:∀d∈xs,∃σ1 c,JL g d (σ++i5 k a0)=aV σ1/\et C t σ1 m=aV (c,m)/\(if c=cf then (h d).isSome=cf/\ev C e σ1 m=aV ((h d).getD .aE,m) else h d=a0)):ev C (.comp en k g i t e) σ m=aV (.lst (xs.filterMap h),m):=by
 have G:=oX (w:=⟨xs,q⟩) (m:=m) (g:=h) Z (xs:=xs) (f:=λd m=>(JL g d (σ++i5 k a0)).bind λ σ1=>(et C t σ1 m).bind λ(c,O)=>if c then (ev C e σ1 O).map λ(y,Y)=>(aV y,Y) else aV (a0,O)) (λd hd=>by
  obtain⟨σ1,c,U,e2,B⟩:=hf d hd;cases c with
  | true=>
   rw[ah rfl]at B;obtain⟨B,e4⟩:=B;simp only[U,e2,bS,if_true,e4,j2];cases hh:h d with
   | none=>rw[hh]at B;cases B
   | some y=>rfl
  | false=>
   rw[ak (by decide)]at B;simp only[U,e2,bS,B];rfl)
 show (if mM σ.length g=cf then (ei C i σ m).bind _ else a0)=_;rw[ah ho,hi];simp only[bS];rw[G];simp only[bS,bj];have:=List.length_filterMap_le h xs;rw[ah (by lia)];rfl
theorem vL{k:Nat}{i:Ie}{t:Te}{e:Ex}{σ:DS}{h:D->Option D}(B:mM σ.length g=cf)(hi:ei C i σ m=aV (⟨xs,a0⟩,m))(hl:xs.length<=1000)(G:∀d∈xs,∃σ1 c,JL g d (σ++i5 k a0)=aV σ1/\et C t σ1 m=aV (c,m)/\(if c=cf then (h d).isSome=cf/\ev C e σ1 m=aV ((h d).getD .aE,m) else h d=a0)):ev C (.comp en k g i t e) σ m=aV (.lst (xs.filterMap h),m):=LL rfl B hi hl G
theorem KZ{k:Nat}{i:Ie}{t:Te}{e:Ex}{σ:DS}(h:D->D)(B:mM σ.length g=cf)(hi:ei C i σ m=aV (⟨xs,a0⟩,m))(hl:xs.length<=1000)(G:∀d∈xs,∃σ1,JL g d (σ++i5 k a0)=aV σ1/\et C t σ1 m=aV (cf,m)/\ev C e σ1 m=aV (h d,m)):ev C (.comp en k g i t e) σ m=aV (.lst (xs.map h),m):=by
 have:=vL (C:=C) (k:=k) (g:=g) (i:=i) (t:=t) (e:=e) (h:=λd=>aV (h d)) B hi hl (λd hd=>by
  obtain⟨σ1,U,e2,O⟩:=G d hd;exact⟨σ1,cf,U,e2,by rw[ah rfl];exact⟨rfl,O⟩⟩)
 rw[this,r8]
end
theorem BD:ev C (.var i) σ m=match σ[i]? with | some (aV d)=>aV (d,m) | _=>a0:=rfl
theorem Pr:ev C (.get d k z) σ m=(ev C d σ m).bind λ(x,m1)=>(HF x m1).bind λ_=>(ev C k σ m1).bind λ(y,G)=>(ev C z σ G).bind λ(u,B)=>(HF x B).bind λ(ks,vs)=>(N5 y).map λk=>((G5 ks vs k).getD u,B):=rfl
end WL
namespace WL
open PySem L2
section
variable{m m1 m2:Mem}{σ σ':DS}{r a b:bz}{e:Ex}{t:Te}{d:D}{i:Nat}
theorem CN(h:ev C e σ m=aV (d,m1))(k:aT C W r (σ.set i (aV d)) m1=X):aT C W (.cons (.set i e) r) σ m=X:=by
 show ((ev C e σ m).map _).bind _=_;rw[h];exact k
theorem Pc(h:ev C e σ m=aV (d,m1))(B:JL g d σ=aV σ')(k:aT C W r σ' m1=X):aT C W (.cons (.asg g e) r) σ m=X:=by
 show ((ev C e σ m).bind _).bind _=_;rw[h];show ((JL g d σ).map _).bind _=X;rw[B];exact k
theorem IW(h:ev C e σ m=aV (d,m1))(k:aT C W r σ m1=X):aT C W (.cons (.drop e) r) σ m=X:=by
 show ((ev C e σ m).map _).bind _=_;rw[h];exact k
theorem DQ(h:ev C e σ m=aV (d,m1)):aT C W (.cons (.ret e) r) σ m=aV (.rt d,m1):=by
 show ((ev C e σ m).map _).bind _=_;rw[h];rfl
theorem DX(h:et C t σ m=aV (en,m1))(k:aT C W r σ m1=X):aT C W (.cons (.ite t a .nil) r) σ m=X:=by
 show ((et C t σ m).bind _).bind _=_;rw[h];show (aT C W .nil σ m1).bind _=X;exact k
theorem HY(h:et C t σ m=aV (cf,m1))(k:aT C W a σ m1=aV (.rt d,m2)):aT C W (.cons (.ite t a b) r) σ m=aV (.rt d,m2):=by
 show ((et C t σ m).bind _).bind _=_;rw[h];show (aT C W a σ m1).bind _=_;rw[k];rfl
theorem K3(h:et C t σ m=aV (cf,m1))(k:aT C W a σ m1=aV (.nx σ',m2))(q:aT C W r σ' m2=X):aT C W (.cons (.ite t a b) r) σ m=X:=by
 show ((et C t σ m).bind _).bind _=_;rw[h];show (aT C W a σ m1).bind _=_;rw[k];exact q
theorem M6{i:Ie}{w:Walk}(h:ei C i σ m=aV (w,m1))(k:forL w g (λ σ m=>aT C W b σ m) w.xs σ m1=aV (.nx σ',m2))(q:aT C W r σ' m2=X):aT C W (.cons (.fr g i b) r) σ m=X:=by
 show ((ei C i σ m).bind _).bind _=_;rw[h];show (forL w g (λ σ m=>aT C W b σ m) w.xs σ m1).bind _=_;rw[k];exact q
theorem BC{i:Ie}:ex C W (.fr g i b) σ m=(ei C i σ m).bind λ(w,m1)=>forL w g (λ σ m=>aT C W b σ m) w.xs σ m1:=rfl
theorem JZ{p:Prop}[Decidable p](h:et C t σ m=aV (decide p,m1))(hp:p):et C t σ m=aV (cf,m1):=by
 rw[h,cz hp]
theorem J6{p:Prop}[Decidable p](h:et C t σ m=aV (decide p,m1))(hp:¬p):et C t σ m=aV (en,m1):=by
 rw[h,df hp]
theorem Gg{p:Prop}[Decidable p](h:et C t σ m=aV (!decide p,m1))(hp:p):et C t σ m=aV (en,m1):=by
 rw[h,cz hp];rfl
theorem GH{B:Bool}(h:et C t σ m=aV (c,m1))(G:c=B):et C t σ m=aV (B,m1):=G▸h
theorem K5{s:Te}(h:et C t σ m=aV (cf,m1))(k:et C s σ m1=aV (c,m2)):et C (.and t s) σ m=aV (c,m2):=by
 show (et C t σ m).bind _=_;rw[h];exact k
theorem N6{s:Te}(h:et C t σ m=aV (en,m1)):et C (.and t s) σ m=aV (en,m1):=by
 show (et C t σ m).bind _=_;rw[h];rfl
theorem T4{s:Te}(h:et C t σ m=aV (en,m1))(k:et C s σ m1=aV (c,m2)):et C (.or t s) σ m=aV (c,m2):=by
 show (et C t σ m).bind _=_;rw[h];exact k
theorem Fy{s:Te}(h:et C t σ m=aV (cf,m1)):et C (.or t s) σ m=aV (cf,m1):=by
 show (et C t σ m).bind _=_;rw[h];rfl
theorem FP(h:ev C e σ m=aV (d,m1))(k:eO d m1=aV c):et C (.val e) σ m=aV (c,m1):=by
 show (ev C e σ m).bind _=_;rw[h];show (eO d m1).map _=_;rw[k];rfl
theorem CG{f:String}{as:jh}{z:D×Mem}(k:C f xs m1=aV z)(h:jo C as σ m=aV (xs,m1)):ev C (.call f as) σ m=aV z:=by
 show (jo C as σ m).bind _=_;rw[h];exact k
theorem BW{as:jh}(h:ev C e σ m=aV (d,m1))(k:jo C as σ m1=aV (xs,m2)):jo C (.cons e as) σ m=aV (d::xs,m2):=by
 show (ev C e σ m).bind _=_;rw[h];show (jo C as σ m1).map _=_;rw[k];rfl
theorem FW{o:Cq}{d2:D}{z:D×Mem}(h:ev C e σ m=aV (d,m1))(k:ev C e2 σ m1=aV (d2,m2))(q:Z1 o d d2 m2=aV z):ev C (.bin o e e2) σ m=aV z:=by
 show (ev C e σ m).bind _=_;rw[h];show (ev C e2 σ m1).bind _=_;rw[k];exact q
theorem J0{o:tu}{d2:D}(h:ev C e σ m=aV (d,m1))(k:ev C e2 σ m1=aV (d2,m2))(q:LC o d d2=aV c):ev C (.cmp o e e2) σ m=aV (.bl c,m2):=by
 show (ev C e σ m).bind _=_;rw[h];show (ev C e2 σ m1).bind _=_;rw[k];show (LC o d d2).map _=_;rw[q];rfl
theorem cQ{ys:List D}(h:ev C e σ m=aV (.lst xs,m1))(k:ev C e2 σ m1=aV (.lst ys,m2))(hl:xs.length+ys.length<=10000):ev C (.cat en e e2) σ m=aV (.lst (xs++ys),m2):=by
 show (ev C e σ m).bind _=_;rw[h];show (ev C e2 σ m1).bind _=_;rw[k];show (if xs.length+ys.length<=10000 then aV (bj en (xs++ys) m2) else a0)=_;rw[ah hl];rfl
theorem JR{d2 B:D}(h:ev C e σ m=aV (d,m1))(k:ev C e2 σ m1=aV (d2,m2))(q:ke d d2 m2=aV B):ev C (.ix e e2) σ m=aV (B,m2):=by
 show (ev C e σ m).bind _=_;rw[h];show (ev C e2 σ m1).bind _=_;rw[k];show (ke d d2 m2).map _=_;rw[q];rfl
theorem HD{as:jh}(h:jo C as σ m=aV (xs,m1))(hl:xs.length<=1000):ev C (.tup as) σ m=aV (.tup xs,m1):=by
 show (jo C as σ m).bind _=_;rw[h];show (if xs.length<=1000 then aV (D.tup xs,m1) else a0)=_;rw[ah hl]
theorem kE{i j:Int}(h:ev C e σ m=aV (.int i,m1))(k:ev C e2 σ m1=aV (.int j,m2)):ev C (.max2 e e2) σ m=aV (.int (if j > i then j else i),m2):=by
 show (ev C e σ m).bind _=_;rw[h];show (ev C e2 σ m1).bind _=_;rw[k];rfl
theorem kI{s:Te}{B:Bool}(h:et C t σ m=aV (c,m1))(k:et C s σ m1=aV (B,m1)):et C (.or t s) σ m=aV (c||B,m1):=by
 show (et C t σ m).bind _=_;rw[h];cases c
 .exact k
 .rfl
theorem Ph(h:xs≠[]):eO (.lst xs) m=aV cf:=by
 cases xs with
 | nil=>exact absurd rfl h
 | cons a r=>rfl
theorem G8{o:B1}{z:D×Mem}(h:ev C e σ m=aV (d,m1))(q:cw o d m1=aV z):ev C (.b1 o e) σ m=aV z:=by
 show (ev C e σ m).bind _=_;rw[h];exact q
theorem TJ(h:et C t σ m=aV (en,m1))(k:aT C W b σ m1=aV (.nx σ',m2))(q:aT C W r σ' m2=X):aT C W (.cons (.ite t a b) r) σ m=X:=by
 show ((et C t σ m).bind _).bind _=_;rw[h];show (aT C W b σ m1).bind _=_;rw[k];exact q
theorem iU{dd k v:Ex}{z y:D}{B:Mem}{i:Nat}{kk:Key}{ks:List Key}{vs:List D}(O:ev C v σ m=aV (z,m1))(hd:ev C dd σ m1=aV (.aI i,m2))(hk:ev C k σ m2=aV (y,B))(U:B[i]?=aV (.ao ks vs))(G:N5 y=aV kk)(Y:z.clean=cf)(hl:ks.length<10000)(q:aT C W r σ (B.set i (.ao (putD ks vs kk z).1 (putD ks vs kk z).2))=X):aT C W (.cons (.put dd k v) r) σ m=X:=by
 show ((ev C v σ m).bind _).bind _=_;rw[O];show ((ev C dd σ m1).bind _).bind _=_;rw[hd];show ((ev C k σ m2).bind _).bind _=_;rw[hk];simp only[bS,U,G,Y,hl,decide_true,Bool.and_self,if_true];exact q
theorem Fx{i:Nat}(h:ev C e σ m=aV (.aI i,m))(k:ev C e2 σ m=aV (d,m))(B:m[i]?=aV (.lst xs))(G:d.clean=cf)(hl:xs.length<100000):ev C (.app e e2) σ m=aV (.aE,m.set i (.lst (xs++[d]))):=by
 show (ev C e σ m).bind _=_;rw[h];show (G4 (.aI i) m).bind _=_;rw[show G4 (.aI i) m=aV xs by simp only[G4,B]];show (ev C e2 σ m).bind _=_;rw[k];simp only[bS,B,G,hl,decide_true,Bool.and_self,if_true]
theorem cP{i:Nat}{ys:List D}(h:ev C e σ m=aV (.aI i,m))(k:ev C e2 σ m=aV (.lst ys,m))(B:m[i]?=aV (.lst xs))(G:D.clean.cK ys=cf)(hl:xs.length+ys.length<=100000):ev C (.ext e e2) σ m=aV (.aE,m.set i (.lst (xs++ys))):=by
 show (ev C e σ m).bind _=_;rw[h];show (G4 (.aI i) m).bind _=_;rw[show G4 (.aI i) m=aV xs by simp only[G4,B]];show (ev C e2 σ m).bind _=_;rw[k];simp only[bS,B,G,hl,decide_true,Bool.and_self,if_true]
theorem QU{i:Nat}(h:ev C e σ m=aV (.aI i,m))(G:m[i]?=aV (.lst xs))(B:xs[xs.length-1]?=aV d):ev C (.pop e) σ m=aV (d,m.set i (.lst xs.dropLast)):=by
 show (ev C e σ m).bind _=_;rw[h];simp only[bS,G,B,j2]
theorem Ou{i:Nat}{ys:List D}(h:ev C e σ m=aV (.aI i,m))(k:ev C e2 σ m=aV (.tup ys,m))(B:m[i]?=aV (.lst xs))(G:D.clean.cK ys=cf)(hl:xs.length+ys.length<=100000):ev C (.ext e e2) σ m=aV (.aE,m.set i (.lst (xs++ys))):=by
 show (ev C e σ m).bind _=_;rw[h];show (G4 (.aI i) m).bind _=_;rw[show G4 (.aI i) m=aV xs by simp only[G4,B]];show (ev C e2 σ m).bind _=_;rw[k];simp only[bS,B,G,hl,decide_true,Bool.and_self,if_true]
theorem lZ{i:Nat}(h:m[i]?=aV (.lst xs)):eO (.aI i) m=aV (!xs.isEmpty):=by
 show (match m[i]? with | some (.lst xs)=>aV (!xs.isEmpty) | some (.ao ks _)=>aV (!ks.isEmpty) | _=>a0)=_;rw[h]
theorem Ot{B:Str}{ys:List Str}(h:ev C e σ m=aV (.str B,m1))(k:ev C e2 σ m1=aV (.lst xs,m2))(hs:strsOf xs=aV ys)(hl:(ys.map (·.length)).sum+ys.length*B.length<=100000):ev C (.join e e2) σ m=aV (.str (Txt.join B ys),m2):=by
 show (ev C e σ m).bind _=_;rw[h];show (ev C e2 σ m1).bind _=_;rw[k];show (strsOf xs).bind _=_;rw[hs];exact ah hl
theorem LJ{x y:D}{k:Nat}(h:ev C e σ m=aV (x,m))(B:G4 x m=aV xs)(O:ev C e2 σ m=aV (y,m))(G:(y.flat&&xs.all D.flat&&eH (xs.length<1000))=cf)(hd:findD y xs 0=aV k):ev C (.index e e2) σ m=aV (.int k,m):=by
 show (ev C e σ m).bind _=_;rw[h];show (G4 x m).bind _=_;rw[B];show (ev C e2 σ m).bind _=_;rw[O];show (G4 x m).bind _=_;rw[B];show (if _=cf then (findD y xs 0).map _ else a0)=_;rw[ah G,hd];rfl
theorem Me{dd k:Ex}{y:D}{i:Nat}{ks:List FK}{kk:FK}(hd:ev C dd σ m=aV (.aI i,m))(hk:ev C k σ m=aV (y,m))(G:m[i]?=aV (.fd ks))(B:ml y=aV kk)(hl:ks.length<10000)(q:aT C W r σ (m.set i (.fd (XR ks kk)))=X):aT C W (.cons (.C2 dd k) r) σ m=X:=by
 show ((ev C dd σ m).bind _).bind _=_;rw[hd];show ((ev C k σ m).bind _).bind _=_;rw[hk];simp only[bS,G,B,hl,if_true];exact q
theorem kW{j:Int}(h:ev C e σ m=aV (.int j,m1))(B:-(2 ^ 62)<=j/\j<2 ^ 62):ei C (.jx e) σ m=aV (⟨(iS j.toNat).map λ(i:Nat)=>.int i,a0⟩,m1):=by
 show (ev C e σ m).bind _=_;rw[h];exact ah B
theorem gX{a b:String}(h:a≠b):¬fi a=fi b:=λq=>h (ofString_eq.mp q)
theorem Q6{B:Mem}(h:m=B):aT C W .nil σ m=aV (.nx σ,B):=by rw[h];rfl
theorem bA{dd k z:Ex}{x y u:D}{kk:Key}{ks:List Key}{vs:List D}(O:ev C dd σ m=aV (x,m))(G:ev C k σ m=aV (y,m))(B:ev C z σ m=aV (u,m))(hd:HF x m=aV (ks,vs))(hk:N5 y=aV kk):ev C (.get dd k z) σ m=aV ((G5 ks vs kk).getD u,m):=by
 show (ev C dd σ m).bind _=_;rw[O];show (HF x m).bind _=_;rw[hd];show (ev C k σ m).bind _=_;rw[G];show (ev C z σ m).bind _=_;rw[B];show (HF x m).bind _=_;rw[hd];show (N5 y).map _=_;rw[hk];rfl
theorem xa{B:Ex}{r:jh}{a k j:Int}{ds:List D}(hk:-(2 ^ 64)<k/\k<2 ^ 64)(U:ev C B σ m=aV (d,m))(O:ev C e2 σ m=aV (.int a,m))(G:jo C r σ m=aV (ds,m)):jo C (.cons B (.cons (.bin .add (.bin .mul e2 (.con (.int k))) (.con (.int j))) r)) σ m=aV (d::.int (a*k+j)::ds,m):=
 BW U (BW (FW (FW O rfl (d8 hk)) rfl rfl) G)
theorem QY{as:jh}(h:jo C as σ m=aV (xs,m1))(hl:xs.length<=1000):ev C (.lst en as) σ m=aV (.lst xs,m1):=by
 show (jo C as σ m).bind _=_;rw[h];show (if xs.length<=1000 then aV (bj en xs m1) else a0)=_;rw[ah hl];rfl
theorem HX{σ1:DS}{w:Walk}{b:DS->Mem->Option (Out×Mem)}{r:List D}(B:w.ok m=cf)(C:JL g d σ=aV σ1)(h:b σ1 m=aV (.nx σ',m1))(k:forL w g b r σ' m1=X):forL w g b (d::r) σ m=X:=by
 rw[forL,ah B,C];show (b σ1 m).bind _=_;rw[h];exact k
theorem K8{w:Walk}{b:DS->Mem->Option (Out×Mem)}(B:w.ok m=cf):forL w g b [] σ m=aV (.nx σ,m):=by
 rw[forL,ah B]
theorem NT{f:String}{F:Fn}{n:Nat}{q:Mem}(h:ae f=aV F)(hl:xs.length=F.ps)(B:d.clean=cf)(e:aT (BZ W ae n) W F.body (xs.map aV++i5 (F.ns-F.ps) a0) m=aV (.rt d,m++q)):BZ W ae (n+1) f xs m=aV (d,m):=by
 rw[NQ h hl,e];show (outD m.length (m++q) d).map _=_;rw[fZ B];show aV (d,(m++q).take m.length)=_;rw[List.take_left]
theorem Oz(h:ev C e σ m=aV (.lst xs,m1)):ei C (.enum e) σ m=aV (⟨T5 xs 0,a0⟩,m1):=by
 show (ev C e σ m).bind _=_;rw[h];rfl
theorem Ox(h:ev C e σ m=aV (.tup xs,m1)):ei C (.seq e) σ m=aV (⟨xs,a0⟩,m1):=by
 show (ev C e σ m).bind _=_;rw[h];rfl
theorem N7(h:ev C e σ m=aV (.lst xs,m1)):ei C (.seq e) σ m=aV (⟨xs,a0⟩,m1):=by
 show (ev C e σ m).bind _=_;rw[h];rfl
theorem pY(h:RM (et C t) (λ σ m=>aT C W b σ m) W σ m=aV (.nx σ',m1))(q:aT C W r σ' m1=X):aT C W (.cons (.dA t b) r) σ m=X:=by
 show (RM (et C t) (λ σ m=>aT C W b σ m) W σ m).bind _=_;rw[h];exact q
theorem B2{i:Int}(h:ev C e σ m=aV (.int i,m1)):eo C (.pt e) σ m=aV (aV i,m1):=by
 show (ev C e σ m).bind _=_;rw[h];rfl
theorem BV{lo hi:Oe}{l h:Option Int}{x:D}(G:ev C e σ m=aV (x,m))(hl:eo C lo σ m=aV (l,m))(B:eo C hi σ m=aV (h,m))(q:sP x l h=aV d):ev C (.sl e lo hi) σ m=aV (d,m):=by
 show (ev C e σ m).bind _=_;rw[G];show (eo C lo σ m).bind _=_;rw[hl];show (eo C hi σ m).bind _=_;rw[B];show (sP x l h).map _=_;rw[q];rfl
end
end WL
end
section
variable{C:String->List WL.D->WL.Mem->Option (WL.D×WL.Mem)}{R:List (PySem.Str×WL.D)}{W i n:Nat}{a x:PySem.Str}{f g:PySem.Str->Int}{hk l nm s0 wq:List PySem.Str}{k:PySem.FK}{ks:List PySem.FK}{lv ns:List Int}{m m0:WL.Mem}{t:PySem.Str×L2.Key}{v:Int}{vs:List WL.D}{ae:String->Option WL.Fn}{σ:WL.DS}
namespace T
open PySem L2 WL WW
noncomputable def G3(c p k:Int):Int:=c*48271 % p % k
theorem JD(c p:Int){k:Int}(h:0<k):0<=G3 c p k/\G3 c p k<k:=⟨Int.emod_nonneg _ (by lia),Int.emod_lt_of_pos _ h⟩
noncomputable def EY(ns:List Int)(k:Nat):Int:=ns.getD k 0
theorem O4(H:ae "_law_mix" = aV QC){c p k:Int}(hp:0<p)(hk:0<k):BZ W ae (n+1) "_law_mix" [.int c,.int p,.int k] m=aV (.int (G3 c p k),m):=by
 refine FJ H rfl rfl ?_;exact DQ (FW (FW (FW rfl rfl (d8 (by decide))) rfl (UJ hp)) rfl (UJ hk))
theorem lH(H:ae "_law_cell" = aV V2){k:Nat}:BZ W ae (n+1) "_law_cell" [.b9 ns,.int k] m=aV (.int (EY ns k),m):=by
 refine FJ H rfl rfl ?_;have e:cw .len (.b9 ns) m=aV (.int ns.length,m):=by
  show aV (D.int ((ns.map D.int).length:Nat),m)=_;rw[a6]
 by_cases h:k<ns.length
 .have B:ke (.b9 ns) (.int k) m=aV (.int (EY ns k)):=by
   show (cy ns (k:Int)).map D.int=_;rw[O6,EY,js,eg h];rfl
  exact HY (JZ (p:=(k:Int)<(ns.length:Int)) (FP (J0 rfl (G8 rfl e) rfl) rfl) (by lia)) (DQ (JR rfl rfl B))
 .rw[show EY ns k=0 by rw[EY,js,kv (by lia)];rfl]
  exact DX (J6 (p:=(k:Int)<(ns.length:Int)) (FP (J0 rfl (G8 rfl e) rfl) rfl) (by lia)) (DQ rfl)
theorem WU:(fi "abcdefghijklmnopqrstuvwxyz").cps.toList=(iS 26).map (97+·):=by decide +kernel
theorem oG:(fi "abcdefghijklmnopqrstuvwxyz").length=26:=by decide +kernel
theorem gC{i:Int}(B:0<=i)(C:i<26):ke (.str "abcdefghijklmnopqrstuvwxyz") (.int i) m=aV (.str ⟨#[97+i.toNat]⟩):=by
 show (if (fi "abcdefghijklmnopqrstuvwxyz").length<=1000 then (cy (fi "abcdefghijklmnopqrstuvwxyz").cps.toList i).map (λc=>D.str ⟨#[c]⟩) else a0)=_;rw[ah (by rw[oG];lia),WU];obtain⟨k,rfl⟩:=An B;rw[O6];have:k<26:=by lia
 simp[this]
theorem Sr{l:List Nat}(h:l.length<=2):Txt.join (fi "") (l.map λc=>⟨#[c]⟩)=⟨l.toArray⟩:=by
 match l,h with
 | [],_=>decide
 | [a],_=>rfl
 | [a,b],_=>rfl
theorem TX(l:List Str):strsOf (l.map .str)=aV l:=by
 induction l with
 | nil=>rfl
 | cons a r B=>simp[strsOf,B]
theorem KO(l:List Nat):strsOf (l.map λq=>.str ⟨#[q]⟩)=aV (l.map λq=>⟨#[q]⟩):=by
 have:=TX (l.map λq=>⟨#[q]⟩);rw[b6]at this;exact this
theorem len_str{z:Str}(h:z.length<=1000):cw .len (.str z) m=aV (.int z.length,m):=ah h
theorem Rw{z:Str}{j:Int}(h:z.length<=1000)(C:0<=j)(B:j<=z.cps.toList.length):sP (.str z) a0 (aV j)=aV (.str ⟨(z.cps.toList.take j.toNat).toArray⟩):=by
 show (if z.length<=1000 then aV (D.str (StrLaws.sliceText z a0 (aV j))) else a0)=_;rw[ah h,StrLaws.sliceText_to ⟨C,B⟩,List.drop_zero,Int.sub_zero]
theorem Mz{z:Str}{j:Int}(h:z.length<=1000)(C:0<=j)(B:j<=z.cps.toList.length):sP (.str z) (aV j) a0=aV (.str ⟨(z.cps.toList.drop j.toNat).toArray⟩):=by
 show (if z.length<=1000 then aV (D.str (StrLaws.sliceText z (aV j) a0)) else a0)=_;rw[ah h,StrLaws.sliceText_from ⟨C,B⟩,r9 (by simp only[List.length_drop];omega)]
noncomputable def GZ(c:Int):List Nat:=(iS (G3 c 9931 3).toNat).map λ(j:Nat)=>97+(G3 (c+3*j) 9941 26).toNat
noncomputable def gE(c:Int):Int:=G3 c 9929 ((GZ c).length+1)
noncomputable def ZJ(c:Int)(k:Nat):Nat:=97+((G3 c 9949 26+5*k) % 26).toNat
noncomputable def KR(c:Int)(k:Nat):Str:=⟨((GZ c).take (gE c).toNat++[ZJ c k]++(GZ c).drop (gE c).toNat).toArray⟩
theorem zZ(c:Int):(GZ c).length<=2:=by
 have:=JD c 9931 (k:=3) (by lia);simp only[GZ,a6,qw];lia
theorem Gm(c:Int):0<=gE c/\gE c<=(GZ c).length:=by
 have:=JD c 9929 (k:=(GZ c).length+1) (by lia);unfold gE;lia
theorem Rg(Hm:ae "_law_mix" = aV QC)(Hc:ae "_law_cell" = aV V2)(H:ae "_law_name" = aV bD){k:Nat}:BZ W ae (n+2) "_law_name" [.b9 ns,.int k] m=aV (.str (KR (EY ns 0) k),m):=by
 refine FJ H rfl rfl ?_;have G:=lH (W:=W) (n:=n) (m:=m) Hc (ns:=ns) (k:=0);rw[Int.natCast_zero]at G;generalize EY ns 0=c at G ⊢;have r1:=JD c 9931 (k:=3) (by lia);have Z:=zZ c;have B:=Gm c;have comp:∀x y z,ev (BZ W ae (n+1)) (.comp en 1 (.nm 7) (.jx (.call "_law_mix" (.cons (.var 3) (.cons (.con (.int 9931)) (.cons (.con (.int 3)) .nil))))) .tt (.ix (.var 2) (.call "_law_mix" (.cons (.bin .add (.var 3) (.bin .mul (.con (.int 3)) (.var 7))) (.cons (.con (.int 9941)) (.cons (.con (.int 26)) .nil)))))) [aV (.b9 ns),aV (.int k),aV (.str "abcdefghijklmnopqrstuvwxyz"),aV (.int c),x,y,z] m=aV (.lst ((GZ c).map λq=>.str ⟨#[q]⟩),m):=by
  intro x y z;rw[KZ (xs:=(iS (G3 c 9931 3).toNat).map λ(i:Nat)=>.int i) (λd=>match d with | .int j=>.str ⟨#[97+(G3 (c+3*j) 9941 26).toNat]⟩ | _=>.aE) rfl (kW (CG (O4 Hm (by decide) (by decide)) rfl) (by lia)) (by rw[a6,qw];lia)]
  .simp[GZ,Function.comp_def]
  .intro d hd
   obtain⟨j,hj,rfl⟩:=ck hd;have Y:=JD (c+3*j) 9941 (k:=26) (by lia);refine⟨[aV (.b9 ns),aV (.int k),aV (.str "abcdefghijklmnopqrstuvwxyz"),aV (.int c),x,y,z,aV (.int j)],rfl,rfl,JR rfl (CG (O4 Hm (by decide) (by decide)) (BW (FW rfl (FW rfl rfl (QS (by decide))) rfl) rfl)) (gC Y.1 Y.2)⟩
 have U:0<=(G3 c 9949 26+5*k) % 26/\(G3 c 9949 26+5*k) % 26<26:=by lia
 have join:=Sr Z;have hs:(((GZ c).map λq=>(⟨#[q]⟩:Str)).map (·.length)).sum+((GZ c).map λq=>(⟨#[q]⟩:Str)).length*(fi "").length<=100000:=by
  have:(fi "").length=0:=by decide
  rw[this]
  match GZ c,Z with
  | [],_=>simp
  | [a],_=>simp[Str.length]
  | [a,b],_=>simp[Str.length]
 have C:(⟨(GZ c).toArray⟩:Str).length<=1000:=by
  show (GZ c).toArray.size<=1000;simp;lia
 have l1:(⟨(GZ c).toArray⟩:Str).length=(GZ c).length:=by show (GZ c).toArray.size=_;simp
 have e1:G3 c 9929 ((GZ c).length+1)=gE c:=rfl;have s1:=Rw C B.1 (by simpa using B.2);have s2:=Mz C B.1 (by simpa using B.2);simp only[]at s1 s2;have a1:(⟨((GZ c).take (gE c).toNat).toArray⟩:Str).length<=2:=by show ((GZ c).take (gE c).toNat).toArray.size<=2;simp;lia
 have a2:(⟨((GZ c).drop (gE c).toNat).toArray⟩:Str).length<=2:=by show ((GZ c).drop (gE c).toNat).toArray.size<=2;simp;lia
 have mx:BZ W ae (n+1) "_law_mix" [.int c,.int 9929,.int ((⟨(GZ c).toArray⟩:Str).length+1)] m=aV (.int (gE c),m):=by
  rw[O4 Hm (by lia) (by lia),l1];rfl
 have p1:∀(a b:List Nat),(⟨a.toArray⟩:Str)++(⟨b.toArray⟩:Str)=⟨(a++b).toArray⟩:=λa b=>by
  show (⟨a.toArray++b.toArray⟩:Str)=_;simp
 have b1:(⟨#[97+((G3 c 9949 26+5*k) % 26).toNat]⟩:Str).length=1:=rfl;have p2:=p1 ((GZ c).take (gE c).toNat) [97+((G3 c 9949 26+5*k) % 26).toNat];have b2:((⟨((GZ c).take (gE c).toNat).toArray⟩:Str)++(⟨#[97+((G3 c 9949 26+5*k) % 26).toNat]⟩:Str)).length<=3:=by
  rw[show (#[97+((G3 c 9949 26+5*k) % 26).toNat]:Array Nat)=[97+((G3 c 9949 26+5*k) % 26).toNat].toArray from rfl,p2];show ((GZ c).take (gE c).toNat++[97+((G3 c 9949 26+5*k) % 26).toNat]).toArray.size<=3;simp;lia
 have O:(⟨((GZ c).take (gE c).toNat).toArray⟩:Str)++(⟨#[97+((G3 c 9949 26+5*k) % 26).toNat]⟩:Str)++(⟨((GZ c).drop (gE c).toNat).toArray⟩:Str)=KR c k:=by
  rw[show (#[97+((G3 c 9949 26+5*k) % 26).toNat]:Array Nat)=[97+((G3 c 9949 26+5*k) % 26).toNat].toArray from rfl,p2,p1];rfl
 rw[<-O];exact CN rfl (CN (d:=.int c) (CG G rfl) (CN (JR rfl (FW (FW (CG (O4 Hm (by decide) (by decide)) rfl) (FW rfl rfl (QS (by decide))) rfl) rfl (UJ (by decide))) (gC U.1 U.2)) (CN (d:=.str ⟨(GZ c).toArray⟩) (by rw[<-join];exact Ot rfl (comp _ _ _) (KO _) hs) (CN (CG mx (BW rfl (BW rfl (BW (FW (G8 rfl (len_str C)) rfl rfl) rfl)))) (DQ (FW (FW (BV rfl rfl (B2 rfl) s1) rfl (wF (by rw[b1];lia))) (BV rfl (B2 rfl) rfl s2) (wF (by lia))))))))
theorem uZ(c:Int)(k:Nat):(KR c k).cps.toList[(gE c).toNat]?=aV (ZJ c k):=by
 have r:=Gm c;have:((GZ c).take (gE c).toNat).length=(gE c).toNat:=by simp;lia
 show ((GZ c).take (gE c).toNat++[ZJ c k]++(GZ c).drop (gE c).toNat)[(gE c).toNat]?=_;rw[vk,qk (by lia),this,Nat.sub_self];rfl
theorem Lq{c:Int}{j:Nat}(hi:i<4)(G:j<4)(h:KR c i=KR c j):i=j:=by
 have B:=uZ c i;rw[h,uZ c j]at B;have C:ZJ c j=ZJ c i:=b5 B;unfold ZJ at C;have:=JD c 9949 (k:=26) (by lia);lia
noncomputable def GJ(c:Int):List Str:=[KR c 0,KR c 1,KR c 2,KR c 3]
theorem names_nodup(c:Int):(GJ c).Nodup:=by
 have h:∀{i j:Nat},i<4->j<4->i≠j->KR c i≠KR c j:=λhi C B e=>B (Lq hi C e)
 simp only[GJ,List.nodup_cons,h7,jI,or_false,not_or,not_false_eq_true,lu,and_true];exact⟨⟨h (by decide) (by decide) (by decide),h (by decide) (by decide) (by decide),h (by decide) (by decide) (by decide)⟩,⟨h (by decide) (by decide) (by decide),h (by decide) (by decide) (by decide)⟩,h (by decide) (by decide) (by decide)⟩
theorem NJ(c:Int)(k:Nat):∀q∈(KR c k).cps.toList,97<=q/\q<123:=by
 intro q B;have B:q∈(GZ c).take (gE c).toNat++[ZJ c k]++(GZ c).drop (gE c).toNat:=B;have C:∀q∈GZ c,97<=q/\q<123:=λq B=>by
  obtain⟨j,_,rfl⟩:=ck B;have:=JD (c+3*j) 9941 (k:=26) (by lia);lia
 simp only[lz,List.mem_singleton]at B;rcases B with (B | B) | B
 .exact C q (List.mem_of_mem_take B)
 .subst B
  unfold ZJ;lia
 .exact C q (List.mem_of_mem_drop B)
theorem vZ(Hm:ae "_law_mix" = aV QC)(Hc:ae "_law_cell" = aV V2)(Hn:ae "_law_name" = aV bD)(H:ae "_law_names" = aV dY):BZ W ae (n+3) "_law_names" [.b9 ns] m=aV (.lst ((GJ (EY ns 0)).map .str),m):=by
 refine FJ H rfl rfl ?_;have comp:ev (BZ W ae (n+2)) (.comp en 1 (.nm 1) (.jx (.con (.int 4))) .tt (.call "_law_name" (.cons (.var 0) (.cons (.var 1) .nil)))) [aV (.b9 ns)] m=aV (.lst ((GJ (EY ns 0)).map .str),m):=by
  rw[KZ (xs:=(iS 4).map λ(i:Nat)=>.int i) (λd=>match d with | .int j=>.str (KR (EY ns 0) j.toNat) | _=>.aE) rfl rfl (fR rfl)]
  .simp[GJ,iS,List.range.loop]
  .intro d hd
   obtain⟨j,B,rfl⟩:=ck hd;exact⟨[aV (.b9 ns),aV (.int j)],rfl,rfl,CG (Rg Hm Hc Hn) rfl⟩
 exact DQ comp
noncomputable def P0(c:Int):List Int:=[0,2,G3 c 9923 3,G3 c 9907 3]
theorem oF(c:Int):∀x∈P0 c,0<=x/\x<3:=by
 have:=JD c 9923 (k:=3) (by omega);have:=JD c 9907 (k:=3) (by omega);intro x B;simp only[P0,h7,jI,or_false]at B;rcases B with rfl | rfl | rfl | rfl<;>omega
theorem pC(Hm:ae "_law_mix" = aV QC)(Hc:ae "_law_cell" = aV V2)(H:ae "_law_levels" = aV Z8):BZ W ae (n+2) "_law_levels" [.b9 ns] m=aV (.lst ((P0 (EY ns 1)).map .int),m):=by
 refine FJ H rfl rfl ?_;have B:=lH (W:=W) (n:=n) (m:=m) Hc (ns:=ns) (k:=1);rw[Int.natCast_one]at B;exact DQ (QY (BW rfl (BW rfl (BW (CG (O4 Hm (by decide) (by decide)) (BW (CG B rfl) rfl)) (BW (CG (O4 Hm (by decide) (by decide)) (BW (CG B rfl) rfl)) rfl)))) (fR rfl))
noncomputable def wb:Op->String
 | .sum=>"sum"
 | .times=>"times"
 | .less=>"less"
noncomputable def dT:Tm Str->D
 | .num n=>.tup [.str "number",.int n]
 | .hZ x=>.tup [.str "name",.str x]
 | .bin o a b=>.tup [.str (fi (wb o)),dT a,dT b]
theorem NK:∀t:Tm Str,(dT t).clean=cf
 | .num n=>rfl
 | .hZ x=>rfl
 | .bin o a b=>by simp[dT,NK a,NK b]
theorem Rk{α β:Type}(f:α->β)(l:List α)(i:Int):cy (l.map f) i=(cy l i).map f:=by
 unfold cy;rw[a6];cases um l.length i with
 | none=>rfl
 | some j=>simp
theorem KN{α β:Type}{f:α->β}{l:List α}{i:Int}{x:α}(h:cy l i=aV x):cy (l.map f) i=aV (f x):=by rw[Rk,h];rfl
theorem Z5{α:Type}{l:List α}{i:Int}(B:0<=i)(C:i<l.length):∃x∈l,cy l i=aV x:=by
 obtain⟨k,rfl⟩:=An B;have hk:k<l.length:=by lia
 exact⟨l[k],List.getElem_mem hk,by rw[O6];exact eg hk⟩
theorem Rf(Hm:ae "_law_mix" = aV QC)(H:ae "_law_term" = aV Y7)(hl:nm.length=4):∀(left:Nat) (B:Int),∃t:Tm Str,t.Ok (·∈nm)/\t.dep<=left/\∀n m,BZ W ae (n+(left+2)) "_law_term" [.lst (nm.map .str),.int B,.int left] m=aV (dT t,m):=by
 intro left
 induction left with
 | zero=>
  intro B;have O:=JD B 9887 (k:=997) (by lia);have G:=JD B 9883 (k:=4) (by lia);obtain⟨x,Y,ex⟩:=Z5 (l:=nm) G.1 (by lia)
  by_cases h:G3 B 9901 9 % 3=0
  .exact⟨.num (G3 B 9887 997),O,a8 _,λn m=>FJ H rfl rfl (CN (CG (O4 Hm (by decide) (by decide)) rfl) (HY (Fy (JZ (p:=((0:Nat):Int)=0) rfl rfl)) (HY (JZ rfl h) (DQ (HD (BW rfl (BW (CG (O4 Hm (by decide) (by decide)) rfl) rfl)) (fR rfl))))))⟩
  .exact⟨.hZ x,Y,a8 _,λn m=>FJ H rfl rfl (CN (CG (O4 Hm (by decide) (by decide)) rfl) (HY (Fy (JZ (p:=((0:Nat):Int)=0) rfl rfl)) (DX (J6 rfl h) (DQ (HD (BW rfl (BW (JR rfl (CG (O4 Hm (by decide) (by decide)) rfl) (KN ex)) rfl)) (fR rfl))))))⟩
 | succ left ih=>
  intro B;have O:=JD B 9887 (k:=997) (by lia);have G:=JD B 9883 (k:=4) (by lia);have r3:=JD B 9901 (k:=9) (by lia);obtain⟨x,Y,ex⟩:=Z5 (l:=nm) G.1 (by lia);obtain⟨a,ha,da,ea⟩:=ih (B*3+1);obtain⟨b,hb,db,eb⟩:=ih (B*5+2);have U:¬(((left+1:Nat):Int)=0):=by lia
  have C:∀(n:Nat) (m:Mem) {c p k:Int},0<p->0<k->BZ W ae (n+(left+2)) "_law_mix" [.int c,.int p,.int k] m=aV (.int (G3 c p k),m):=λn m _ _ _ hp hk=>O4 (n:=n+(left+1)) Hm hp hk
  have hs:((left+1:Nat):Int)-1=left:=by lia
  rw[<-hs]at ea eb
  by_cases Z:G3 B 9901 9<3
  .by_cases h:G3 B 9901 9 % 3=0
   .exact⟨.num (G3 B 9887 997),O,eC _,λn m=>FJ (n:=n+(left+2)) H rfl rfl (CN (CG (C n m (by decide) (by decide)) rfl) (HY (T4 (J6 rfl U) (JZ rfl Z)) (HY (JZ rfl h) (DQ (HD (BW rfl (BW (CG (C n m (by decide) (by decide)) rfl) rfl)) (fR rfl))))))⟩
   .exact⟨.hZ x,Y,eC _,λn m=>FJ (n:=n+(left+2)) H rfl rfl (CN (CG (C n m (by decide) (by decide)) rfl) (HY (T4 (J6 rfl U) (JZ rfl Z)) (DX (J6 rfl h) (DQ (HD (BW rfl (BW (JR rfl (CG (C n m (by decide) (by decide)) rfl) (KN ex)) rfl)) (fR rfl))))))⟩
  .have hq:∃o:Op,cy [D.str "sum",.str "times",.str "less"] (G3 B 9901 9 % 3)=aV (.str (fi (wb o))):=by
    have:G3 B 9901 9 % 3=0\/G3 B 9901 9 % 3=1\/G3 B 9901 9 % 3=2:=by lia
    rcases this with e | e | e
    .exact⟨.sum,by rw[e];rfl⟩
    .exact⟨.times,by rw[e];rfl⟩
    .exact⟨.less,by rw[e];rfl⟩
   obtain⟨o,eo⟩:=hq;refine⟨.bin o a b,⟨ha,hb⟩,?_,λn m=>FJ (n:=n+(left+2)) H rfl (NK (.bin o a b)) (CN (CG (C n m (by decide) (by decide)) rfl) (DX (T4 (J6 rfl U) (J6 rfl Z)) (CN (CG (ea n m) (xa (by decide) rfl rfl rfl)) (DQ (HD (BW (JR rfl rfl eo) (BW rfl (BW (CG (eb n m) (xa (by decide) rfl rfl rfl)) rfl))) (fR rfl))))))⟩;simp only[Tm.dep];omega
theorem KD(H:ae "_law_names_in" = aV J5):∀{t:Tm Str} {n:Nat} {m:Mem},t.dep<n->t.dep<=8->t.names.length<=2 ^ t.dep/\BZ W ae n "_law_names_in" [dT t] m=aV (.lst (t.names.map .str),m)
 | .num k,n+1,m,h,_=>⟨eC _,FJ H rfl rfl (DX (J6 (p:=("number":Str)="name") rfl (gX (by decide))) (HY (JZ (p:=("number":Str)="number") rfl rfl) (DQ rfl)))⟩
 | .hZ x,n+1,m,h,_=>⟨a8 _,FJ H rfl rfl (HY (JZ (p:=("name":Str)="name") rfl rfl) (DQ rfl))⟩
 | .bin o a b,n+1,m,h,O=>by
  simp only[Tm.dep]at h O;obtain⟨la,Y⟩:=KD H (t:=a) (n:=n) (m:=m) (by lia) (by lia);obtain⟨lb,U⟩:=KD H (t:=b) (n:=n) (m:=m) (by lia) (by lia);have p1:2 ^ a.dep<=2 ^ (max a.dep b.dep):=pg (by lia) (by lia);have p2:2 ^ b.dep<=2 ^ (max a.dep b.dep):=pg (by lia) (by lia);have Z:2 ^ (max a.dep b.dep)<=2 ^ 7:=pg (by lia) (by lia);have hl:(Tm.bin o a b).names.length<=2 ^ (max a.dep b.dep+1):=by
   simp only[Tm.names,fA,Nat.pow_succ];lia
  have cl:∀l:List Str,D.clean.cK (l.map .str)=cf:=λl=>by
   induction l with
   | nil=>rfl
   | cons a r G=>exact G
  have C:wb o≠"name":=by cases o<;>decide
  have B:wb o≠"number":=by cases o<;>decide
  refine⟨hl,FJ H rfl (cl _) (DX (J6 rfl (gX C)) (DX (J6 rfl (gX B)) (DQ ?_)))⟩;rw[show (Tm.bin o a b).names=a.names++b.names from rfl,gi];exact cQ (CG Y rfl) (CG U rfl) (by rw[a6,a6];lia)
noncomputable def DP(B:List Str):List Key:=B.map .inr
noncomputable def HJ(B:List Str)(f:Str->Int):List D:=B.map λx=>.int (f x)
theorem JK{f:Str->Int}{x:Str}:∀{B:List Str},x∈B->G5 (DP B) (HJ B f) (.inr x)=aV (.int (f x))
 | y::r,h=>by
  show (if (kf y:Key)=.inr x then aV (D.int (f y)) else G5 (DP r) (HJ r f) (.inr x))=_
  by_cases e:y=x
  .subst e;rw[ah rfl]
  .rw[ak (λq=>e (j1 q))]
   exact JK ((cq h).resolve_left (λq=>e q.symm))
mutual
noncomputable def dD:Dd Str->D
 | .put x t=>.tup [.str "put",.str x,dT t]
 | .fq l t=>.tup [.str "show",.int l,dT t]
 | .ite t b c=>.tup [.str "if",dT t,.tup (dB b),.tup (dB c)]
 | .dA t b=>.tup [.str "while",dT t,.tup (dB b)]
noncomputable def dB:Bl Str->List D
 | .nil=>[]
 | .cons d b=>dD d::dB b
end
theorem M8:∀b:Bl Str,dB b=b.list.map dD
 | .nil=>rfl
 | .cons d b=>by simp[dB,Bl.list,M8 b]
theorem Gj(l:List (Dd Str)):dB (Bl.of l)=l.map dD:=by rw[M8,Bl.Em]
theorem Rb(a b:Bl Str):dB (a.app b)=dB a++dB b:=by rw[M8,M8,M8,Bl.Ju,gi]
mutual
theorem bB:∀d:Dd Str,(dD d).clean=cf
 | .put x t=>by simp[dD,NK]
 | .fq l t=>by simp[dD,NK]
 | .ite t b c=>by simp[dD,NK,UG b,UG c]
 | .dA t b=>by simp[dD,NK,UG b]
theorem UG:∀b:Bl Str,D.clean.cK (dB b)=cf
 | .nil=>rfl
 | .cons d b=>by simp[dB,bB d,UG b]
end
theorem eF{P:Str->Prop}:∀{l:List (Dd Str)},(∀d∈l,d.Ok P)->(Bl.of l).Ok P
 | [],_=>trivial
 | d::r,h=>⟨h d bw,eF λx B=>h x (bx _ B)⟩
theorem Z9{k:Nat}:∀{l:List (Dd Str)},(∀d∈l,d.dep<=k)->(Bl.of l).dep<=k
 | [],_=>eC _
 | d::r,h=>by
  have G:=h d bw;have C:=Z9 (k:=k) (l:=r) λx B=>h x (bx _ B)
  simp only[Bl.of,Bl.dep];omega
theorem VR{k:Nat}:∀{l:List (Dd Str)},(∀d∈l,d.size<=k)->(Bl.of l).size<=l.length*k
 | [],_=>eC _
 | d::r,h=>by
  have G:=h d bw;have C:=VR (k:=k) (l:=r) λx B=>h x (bx _ B)
  simp only[Bl.of,Bl.size,hJ,Nat.add_mul];lia
theorem iT{P:Str->Prop}:∀{a b:Bl Str},a.Ok P->b.Ok P->(a.app b).Ok P
 | .nil,_,_,h=>h
 | .cons d a,b,h,g=>⟨h.1,iT h.2 g⟩
theorem eG:∀{a b:Bl Str},(a.app b).dep=max a.dep b.dep
 | .nil,b=>by simp[Bl.app,Bl.dep]
 | .cons d a,b=>by simp only[Bl.app,Bl.dep,eG (a:=a)];exact(Nat.max_assoc _ _ _).symm
theorem aM:∀{a b:Bl Str},(a.app b).size=a.size+b.size
 | .nil,b=>by simp[Bl.app,Bl.size]
 | .cons d a,b=>by simp only[Bl.app,Bl.size,aM (a:=a)];lia
noncomputable def sz:Nat->Nat
 | 0=>1
 | d+1=>4*sz d+1
theorem EZ(d:Nat):1<=sz d:=by cases d<;>simp[sz]
theorem X7{x:Str}:∀{nm:List Str} {j:Nat},x∈nm->∃k,j<=k/\k<j+nm.length/\findD (.str x) (nm.map .str) j=aV k
 | y::r,j,h=>by
  by_cases e:x=y
  .exact⟨j,a8 _,by simp,by simp[findD,inD,e]⟩
  .obtain⟨k,G,C,B⟩:=X7 (nm:=r) (j:=j+1) ((cq h).resolve_left e)
   exact⟨k,by lia,by simp only[hJ];lia,by simp[findD,inD,e,B]⟩
theorem Fj:∀{l:List Int} {a:Int},∃h,qY (a::l)=aV h/\h∈a::l
 | [],a=>⟨a,rfl,bw⟩
 | b::r,a=>by
  obtain⟨h,e,B⟩:=Fj (l:=r) (a:=if b > a then b else a);refine⟨h,e,?_⟩;rcases cq B with q | q
  .rw[q]
   split<;>simp
  .simp[q]
theorem Sg{l:List Int}(hl:l≠[])(h:∀x∈l,0<=x/\x<3):∃q,qY l=aV q/\0<=q/\q<3:=by
 cases l with
 | nil=>exact absurd rfl hl
 | cons a r=>
  obtain⟨q,e,B⟩:=Fj (l:=r) (a:=a);exact⟨q,e,h q B⟩
theorem ints_of(l:List Int):intsOf (l.map .int)=aV l:=by
 induction l with
 | nil=>rfl
 | cons a r B=>simp[intsOf,B]
noncomputable def SX(nm:List Str)(lv:List Int)(x:Str):Int:=(cy lv ((findD (.str x) (nm.map .str) 0).getD 0:Nat)).getD 0
noncomputable def OJ(nm:List Str)(lv:List Int)(b7:Bool):D:=.tup [.lst (nm.map .str),.lst (lv.map .int),.bl b7]
theorem YT(nm:List Str):(nm.map D.str).all D.flat=cf:=by
 induction nm with
 | nil=>rfl
 | cons a r B=>simp[D.flat]
noncomputable def K1:Nat->bz->bz
 | 0,s=>s
 | _+1,.nil=>.nil
 | n+1,.cons _ r=>K1 n r
structure Plan(nm:List Str)(lv:List Int):Prop where
 n4:nm.length=4
 l4:lv.length=4
 lr:∀x∈lv,0<=x/\x<3
theorem Fm(hp:Plan nm lv)(G:x∈nm):∃k:Nat,findD (.str x) (nm.map .str) 0=aV k/\cy lv k=aV (SX nm lv x)/\0<=SX nm lv x/\SX nm lv x<3:=by
 obtain⟨k,_,Y,B⟩:=X7 (x:=x) (j:=0) G;have U:=hp.n4;have O:=hp.l4;obtain⟨l,hl,C⟩:=Z5 (l:=lv) (i:=k) (by lia) (by lia);have:SX nm lv x=l:=by simp only[SX,B,Option.getD_some,C]
 exact⟨k,B,by rw[C,this],by rw[this];exact hp.lr l hl⟩
theorem yH{C:String->List D->Mem->Option (D×Mem)}{m:Mem}{nm:List Str}{lv:List Int}(hp:Plan nm lv){t:Tm Str}(ht:t.Ok (·∈nm))(hl:t.names.length<=1000)(hn:C "_law_names_in" [dT t] m=aV (.lst (t.names.map .str),m)){x0 x1 x2 Z x6 x8 Y U O G B:Option D}:
  ev C (.comp en 1 (.nm 14) (.seq (.call "_law_names_in" (.cons (.var 7) .nil))) .tt (.ix (.var 5) (.index (.var 4) (.var 14)))) [x0,x1,x2,Z,aV (.lst (nm.map .str)),aV (.lst (lv.map .int)),x6,aV (dT t),x8,Y,U,O,G,B] m=aV (.lst ((t.names.map (SX nm lv)).map .int),m):=by
 rw[KZ (xs:=t.names.map .str) (λd=>match d with | .str x=>.int (SX nm lv x) | _=>.aE) rfl (N7 (CG hn rfl)) (by rw[a6];exact hl)]
 .rw[b6,b6];rfl
 .intro d hd
  obtain⟨x,hx,rfl⟩:=ck hd;obtain⟨k,e1,e2,_⟩:=Fm hp (ht.names x hx);refine⟨[x0,x1,x2,Z,aV (.lst (nm.map .str)),aV (.lst (lv.map .int)),x6,aV (dT t),x8,Y,U,O,G,B,aV (.str x)],rfl,rfl,JR rfl (LJ rfl rfl rfl ?_ e1) (KN e2)⟩;rw[YT,a6,hp.n4];rfl
noncomputable def ZG(lv:List Int)(B:Int)(b7:Bool):List Nat:=(iS 4).filter λj=>eH (B<=lv.getD j 0)||!b7
theorem Om{C:String->List D->Mem->Option (D×Mem)}{m:Mem}{lv:List Int}(hl:lv.length=4){B:Int}{b7:Bool}{x0 x1 x2 x3 x4 x7 x9 Z Y U O:Option D}:
  ev C (.comp en 1 (.nm 14) (.jx (.con (.int 4))) (.or (.val (.cmp .ge (.ix (.var 5) (.var 14)) (.var 8))) (.not (.val (.var 6)))) (.var 14)) [x0,x1,x2,x3,x4,aV (.lst (lv.map .int)),aV (.bl b7),x7,aV (.int B),x9,Z,Y,U,O] m=aV (.lst ((ZG lv B b7).map λ(j:Nat)=>.int j),m):=by
 rw[vL (xs:=(iS 4).map λ(i:Nat)=>.int i) (h:=λd=>match d with | .int j=>if eH (B<=lv.getD j.toNat 0)||!b7 then aV (.int j) else a0 | _=>a0) rfl rfl (fR rfl)]
 .simp only[ZG,List.filterMap_map,Function.comp_def,qp]
  rw[<-r8,List.filterMap_filter]
 .intro d hd
  obtain⟨j,G,rfl⟩:=ck hd;have G:j<lv.length:=by have:=my.mp G;lia
  have ha:cy lv (j:Int)=aV (lv.getD j 0):=by rw[O6,js,eg G];rfl
  refine⟨[x0,x1,x2,x3,x4,aV (.lst (lv.map .int)),aV (.bl b7),x7,aV (.int B),x9,Z,Y,U,O,aV (.int j)],eH (B<=lv.getD j 0)||!b7,rfl,kI (FP (J0 (JR rfl rfl (KN ha)) rfl rfl) rfl) rfl,?_⟩;show if (eH (B<=lv.getD j 0)||!b7)=cf then ((if (eH (B<=lv.getD j 0)||!b7)=cf then aV (D.int j) else a0).isSome=cf/\_=aV ((if (eH (B<=lv.getD j 0)||!b7)=cf then aV (D.int j) else a0).getD .aE,m)) else (if (eH (B<=lv.getD j 0)||!b7)=cf then aV (D.int j) else a0)=a0
  cases (eH (B<=lv.getD j 0)||!b7)
  .exact rfl
  .exact⟨rfl,rfl⟩
def tL(ae:String->Option Fn)(W:Nat)(nm:List Str)(lv:List Int)(b7:Bool)(B:Nat):Prop:=∀(cell C:Int),0<=C->C<3->∃d:Dd Str,d.Ok (·∈nm)/\d.dep<=B+2/\d.size<=sz B/\∀n m,BZ W ae (n+(2*B+5)) "_law_deed" [OJ nm lv b7,.int cell,.int B,.int C] m=aV (dD d,m)
def wQ(ae:String->Option Fn)(W:Nat)(nm:List Str)(lv:List Int)(b7:Bool)(B:Nat):Prop:=∀(cell C:Int),0<=C->C<3->∃b:Bl Str,b.Ok (·∈nm)/\b.dep<=B+2/\b.size<=2*sz B/\b.list.length<=2/\∀n m,BZ W ae (n+(2*B+6)) "_law_block" [OJ nm lv b7,.int cell,.int B,.int C] m=aV (.tup (dB b),m)
theorem OP(Hm:ae "_law_mix" = aV QC)(H:ae "_law_block" = aV Y8){b7:Bool}{B:Nat}(hd:tL ae W nm lv b7 B):wQ ae W nm lv b7 B:=by
 intro cell need U O;have G:=λc=>hd c need U O
 let g:Int->Dd Str:=λc=>Classical.choose (G c)
 have C:∀c,(g c).Ok (·∈nm)/\(g c).dep<=B+2/\(g c).size<=sz B/\∀n m,BZ W ae (n+(2*B+5)) "_law_deed" [OJ nm lv b7,.int c,.int B,.int need] m=aV (dD (g c),m):=λc=>Classical.choose_spec (G c)
 have r1:=JD cell 9839 (k:=2) (by omega);have Z:0<1+G3 cell 9839 2/\1+G3 cell 9839 2<3:=by omega
 refine⟨Bl.of ((iS (1+G3 cell 9839 2).toNat).map λ(j:Nat)=>g (cell*7+11*j)),?_,?_,?_,by rw[Bl.Em];simp;omega,λn m=>?_⟩
 .refine eF λd h=>?_
  obtain⟨j,_,rfl⟩:=ck h;exact(C _).1
 .refine Z9 λd h=>?_
  obtain⟨j,_,rfl⟩:=ck h;exact(C _).2.1
 .refine fN (VR (k:=sz B) λd h=>?_) (Nat.mul_le_mul_right _ (by simp;omega))
  obtain⟨j,_,rfl⟩:=ck h;exact(C _).2.2.1
 .refine FJ (n:=n+(2*B+5)) H rfl (UG _) ?_
  have Y:∀{c p k:Int},0<p->0<k->BZ W ae (n+(2*B+5)) "_law_mix" [.int c,.int p,.int k] m=aV (.int (G3 c p k),m):=λhp hk=>O4 (n:=n+(2*B+4)) Hm hp hk
  have comp:ev (BZ W ae (n+(2*B+5))) (.comp en 1 (.nm 5) (.jx (.var 4)) .tt (.call "_law_deed" (.cons (.var 0) (.cons (.bin .add (.bin .mul (.var 1) (.con (.int 7))) (.bin .mul (.con (.int 11)) (.var 5))) (.cons (.var 2) (.cons (.var 3) .nil)))))) [aV (OJ nm lv b7),aV (.int cell),aV (.int B),aV (.int need),aV (.int (1+G3 cell 9839 2))] m=aV (.lst (dB (Bl.of ((iS (1+G3 cell 9839 2).toNat).map λ(j:Nat)=>g (cell*7+11*j)))),m):=by
   rw[KZ (xs:=(iS (1+G3 cell 9839 2).toNat).map λ(i:Nat)=>.int i) (λd=>match d with | .int j=>dD (g (cell*7+11*j)) | _=>.aE) rfl (kW rfl (by omega)) (by rw[a6,qw];omega)]
   .simp[Gj,Function.comp_def]
   .intro d hd
    obtain⟨j,hj,rfl⟩:=ck hd;exact⟨[aV (OJ nm lv b7),aV (.int cell),aV (.int B),aV (.int need),aV (.int (1+G3 cell 9839 2)),aV (.int j)],rfl,rfl,CG ((C _).2.2.2 n m) (BW rfl (BW (FW (FW rfl rfl (d8 (by decide))) (FW rfl rfl (QS (by decide))) rfl) rfl))⟩
  exact CN (FW rfl (CG (Y (by decide) (by decide)) rfl) rfl) (DQ (G8 comp rfl))
theorem NN{l:List Int}{q:Int}(h:qY l=aV q):cw .max (.lst (l.map .int)) m=aV (.int q,m):=by
 show ((intsOf (l.map D.int)).bind λns=>(qY ns).map λx=>(D.int x,m))=_;rw[ints_of,bS,h];rfl
noncomputable def EJ(nm:List Str)(lv:List Int)(b7:Bool)(cell:Int)(G:Nat)(B:Int)(t:Tm Str)(C:Int):DS:=[aV (OJ nm lv b7),aV (.int cell),aV (.int G),aV (.int B),aV (.lst (nm.map .str)),aV (.lst (lv.map .int)),aV (.bl b7),aV (dT t),aV (.int C),aV (.int (G3 cell 9871 9)),a0,a0,a0,a0]
theorem w6(Hm:ae "_law_mix" = aV QC)(Ht:ae "_law_term" = aV Y7)(Hi:ae "_law_names_in" = aV J5)(H:ae "_law_deed" = aV bF)(hp:Plan nm lv){b7:Bool}{B:Nat}(UQ:∀d,B=d+1->wQ ae W nm lv b7 d):tL ae W nm lv b7 B:=by
 intro cell need n0 n3;have Vx:1+cell % 2=((1+(cell % 2).toNat:Nat):Int):=by lia
 obtain⟨t,O,dt,et⟩:=Rf (W:=W) Hm Ht (nm:=nm) hp.n4 (1+(cell % 2).toNat) cell;rw[<-Vx]at et;have CC:t.dep<=2:=by lia
 obtain⟨high,eh,h0,h3⟩:=Sg (l:=t.names.map (SX nm lv)++[need]) (by simp) (λx C=>by
  rcases dg C with C | C
  .obtain⟨y,hy,rfl⟩:=ck C
   obtain⟨_,_,_,q⟩:=Fm hp (O.names y hy);exact q
  .rw[fw C];exact⟨n0,n3⟩)
 have e0:∀(n:Nat) (m:Mem) {c p k:Int},0<p->0<k->BZ W ae (n+(2*B+4)) "_law_mix" [.int c,.int p,.int k] m=aV (.int (G3 c p k),m):=λn m _ _ _ hp hk=>O4 (n:=n+(2*B+3)) Hm hp hk
 have e1:∀(n:Nat) (m:Mem),BZ W ae (n+(2*B+4)) "_law_term" [.lst (nm.map .str),.int cell,.int (1+cell % 2)] m=aV (dT t,m):=λn m=>by
  have:=et (n+(2*B+4)-(1+(cell % 2).toNat+2)) m;rw[show n+(2*B+4)-(1+(cell % 2).toNat+2)+(1+(cell % 2).toNat+2)=n+(2*B+4) from by lia]at this;exact this
 have e2:∀(n:Nat) (m:Mem),BZ W ae (n+(2*B+4)) "_law_names_in" [dT t] m=aV (.lst (t.names.map .str),m):=λn m=>(KD Hi (by lia) (by lia)).2
 have l0:t.names.length<=9:=by
  have:=(KD (W:=W) (n:=20) (m:=[]) Hi (t:=t) (by lia) (by lia)).1;have:2 ^ t.dep<=2 ^ 2:=pg (by lia) CC;lia
 have e3:=λn m=>@yH (BZ W ae (n+(2*B+4))) m nm lv hp t O (by lia) (e2 n m)
 have e4:∀m,cw .max (.lst ((t.names.map (SX nm lv)).map .int++[.int need])) m=aV (.int high,m):=λm=>by
  have:=NN (m:=m) eh;rw[gi]at this;exact this
 have l1:((t.names.map (SX nm lv)).map D.int).length<=9:=by simpa using l0
 generalize (t.names.map (SX nm lv)).map D.int=L at e3 e4 l1;have l2:L.length<=9999:=by lia
 have e5:=λn m=>@Om (BZ W ae (n+(2*B+4))) m lv hp.l4 high b7
 have r0:=JD cell 9871 (k:=9) (by lia);have r1:=JD cell 9851 (k:=3) (by lia);have cD:∀(n:Nat) (m:Mem) (d:Dd Str),aT (BZ W ae (n+(2*B+4))) W UL [aV (OJ nm lv b7),aV (.int cell),aV (.int B),aV (.int need),a0,a0,a0,a0,a0,a0,a0,a0,a0,a0] m=aV (.rt (dD d),m)->BZ W ae (n+(2*B+5)) "_law_deed" [OJ nm lv b7,.int cell,.int B,.int need] m=aV (dD d,m):=λn m d h=>FJ (n:=n+(2*B+4)) H rfl (bB d) h
 have pre:∀(n:Nat) (m:Mem) {X},aT (BZ W ae (n+(2*B+4))) W (K1 4 UL) (EJ nm lv b7 cell B need t high) m=X->aT (BZ W ae (n+(2*B+4))) W UL [aV (OJ nm lv b7),aV (.int cell),aV (.int B),aV (.int need),a0,a0,a0,a0,a0,a0,a0,a0,a0,a0] m=X:=λn m _ k=>
  Pc (d:=OJ nm lv b7) (σ':=[aV (OJ nm lv b7),aV (.int cell),aV (.int B),aV (.int need),aV (.lst (nm.map .str)),aV (.lst (lv.map .int)),aV (.bl b7),a0,a0,a0,a0,a0,a0,a0]) rfl rfl (CN (CG (e1 n m) rfl) (CN (G8 (cQ (e3 n m) rfl (Nat.succ_le_succ l2)) (e4 m)) (CN (CG (e0 n m (by decide) (by decide)) rfl) k)))
 have cd:(∀(n:Nat) (m:Mem) {X},aT (BZ W ae (n+(2*B+4))) W (K1 6 UL) (EJ nm lv b7 cell B need t high) m=X->aT (BZ W ae (n+(2*B+4))) W (K1 4 UL) (EJ nm lv b7 cell B need t high) m=X)->∃d:Dd Str,d.Ok (·∈nm)/\d.dep<=B+2/\d.size<=sz B/\∀n m,BZ W ae (n+(2*B+5)) "_law_deed" [OJ nm lv b7,.int cell,.int B,.int need] m=aV (dD d,m):=by
  intro IX;have IJ:=EZ B
  by_cases hc:G3 cell 9871 9<7/\ZG lv high b7≠[]
  .obtain⟨Y,dq⟩:=hc
   have Vv:=List.length_pos_iff.mpr dq;have G:0<((ZG lv high b7).length:Int):=by lia
   have r2:=JD cell 9857 G;obtain⟨j,hj,ej⟩:=Z5 (l:=ZG lv high b7) r2.1 r2.2;have aam:j<4:=my.mp (me hj).1;have DO:=hp.n4;obtain⟨x,C,ex⟩:=Z5 (l:=nm) (i:=j) (by lia) (by lia);refine⟨.put x t,⟨C,O⟩,Nat.le_add_left_of_le CC,IJ,λn m=>cD n m _ (pre n m (IX n m (CN (e5 n m) (HY (K5 (JZ (p:=G3 cell 9871 9<7) rfl Y) (FP (d:=.lst ((ZG lv high b7).map λ(j:Nat)=>.int j)) rfl (Ph λh=>dq (List.map_eq_nil_iff.mp h)))) (DQ (HD (xs:=[.str "put",.str x,dT t]) (BW rfl (BW (JR rfl (JR rfl (CG (e0 n m (c:=cell) (p:=9857) (by decide) G) (by rw[<-a6 (f:=λ(j:Nat)=>D.int j)];rfl)) (KN ej)) (KN ex)) rfl)) (fR rfl)))))))⟩
  .refine⟨.fq (if high*(if b7 then 1 else 0) > G3 cell 9851 3 then high*(if b7 then 1 else 0) else G3 cell 9851 3) t,⟨?_,O⟩,Nat.le_add_left_of_le CC,IJ,λn m=>cD n m _ (pre n m (IX n m (CN (e5 n m) (DX ?_ (DQ (HD (BW rfl (BW (kE (CG (e0 n m (by decide) (by decide)) rfl) (FW rfl rfl (QS (by lia)))) rfl)) (fR rfl)))))))⟩
   .cases b7<;>simp<;>split<;>lia
   .by_cases Y:G3 cell 9871 9<7
    .have he:ZG lv high b7=[]:=OX λq=>hc ⟨Y,q⟩
     exact K5 (JZ (p:=G3 cell 9871 9<7) rfl Y) (FP (d:=.lst ((ZG lv high b7).map λ(j:Nat)=>.int j)) rfl (by rw[he];rfl))
    .exact N6 (J6 (p:=G3 cell 9871 9<7) rfl Y)
 cases B with
 | zero=>exact cd λn m _ k=>DX (N6 (J6 (p:=(0:Int)<0) rfl (by decide))) (DX (N6 (J6 (p:=(0:Int)<0) rfl (by decide))) k)
 | succ d=>
  have hb:=UQ d rfl;have hs:((d+1:Nat):Int)-1=d:=by lia
  have U:(0:Int)<((d+1:Nat):Int):=by lia
  have aav:=EZ d
  by_cases h2:G3 cell 9871 9<2
  .obtain⟨b,ob,db,sb,lb,eb⟩:=hb (cell*3+1) high h0 h3
   obtain⟨c,oc,dc,sc,lc,ec⟩:=hb (cell*5+2) high h0 h3;rw[<-hs]at eb ec;refine⟨.ite t b c,⟨O,ob,oc⟩,by simp only[Dd.dep];omega,by simp only[Dd.size,sz];omega,λn m=>cD n m _ (pre n m (HY (K5 (JZ rfl U) (JZ rfl h2)) (CN (CG (eb n m) (xa (by decide) rfl rfl rfl)) (DQ (HD (BW rfl (BW rfl (BW rfl (BW (CG (ec n m) (xa (by decide) rfl rfl rfl)) rfl)))) (fR rfl))))))⟩
  .by_cases Z:G3 cell 9871 9<4/\(need=0\/b7=en)
   .obtain⟨Z,yj⟩:=Z
    obtain⟨b,ob,db,sb,lb,eb⟩:=hb (cell*3+1) need n0 n3;rw[<-hs]at eb;have DO:=hp.n4;obtain⟨x,C,ex⟩:=Z5 (l:=nm) (i:=0) (by lia) (by lia);have r2:=JD cell 9859 (k:=6) (by lia);have CO:cy (nm.map D.str) 0=aV (.str x):=KN ex;have hD:∀u:Tm Str,dD (.dA u (b.app (.cons (.put x (.bin .sum (.hZ x) (.num 1))) .nil)))=.tup [.str "while",dT u,.tup (dB b++[dD (.put x (.bin .sum (.hZ x) (.num 1)))])]:=λu=>by
     show D.tup [_,_,.tup (dB _)]=_;rw[Rb];rfl
    have hl:(dB b).length+1<=10000:=by rw[M8,a6];lia
    have VX:(eH (need=0)||!b7)=cf:=by rcases yj with h | h<;>simp[h]
    refine⟨.dA (if b7 then .bin .less (.hZ x) (.num (G3 cell 9859 6)) else t) (b.app (.cons (.put x (.bin .sum (.hZ x) (.num 1))) .nil)),⟨?_,?_⟩,?_,?_,λn m=>cD n m _ (pre n m (DX (K5 (JZ rfl U) (J6 rfl h2)) (HY (K5 (JZ rfl U) (K5 (JZ rfl Z) (GH (kI rfl rfl) VX))) (CN (d:=dD (.put x (.bin .sum (.hZ x) (.num 1)))) (HD (BW rfl (BW (JR rfl rfl CO) (BW (HD (BW rfl (BW (HD (BW rfl (BW (JR rfl rfl CO) rfl)) (fR rfl)) rfl)) (fR rfl)) rfl))) (fR rfl)) (CN (CG (eb n m) (xa (by decide) rfl rfl rfl)) ?_)))))⟩
    .cases b7
     .exact O
     .exact⟨C,by constructor<;>lia⟩
    .exact iT ob ⟨⟨C,C,by constructor<;>lia⟩,trivial⟩
    .simp only[Dd.dep,eG,Bl.dep,Tm.dep]
     cases b7<;>simp[Tm.dep]<;>omega
    .simp only[Dd.size,aM,Bl.size,sz]
     lia
    .rw[hD]
     cases b7
     .exact DX rfl (DQ (HD (BW rfl (BW rfl (BW (FW (d2:=.tup [dD (.put x (.bin .sum (.hZ x) (.num 1)))]) rfl rfl (NP hl)) rfl))) (fR rfl)))
     .exact K3 rfl (CN (HD (BW rfl (BW (HD (BW rfl (BW (JR rfl rfl CO) rfl)) (fR rfl)) (BW (HD (BW rfl (BW (CG (e0 n m (by decide) (by decide)) rfl) rfl)) (fR rfl)) rfl))) (fR rfl)) rfl) (DQ (HD (BW rfl (BW rfl (BW (FW (d2:=.tup [dD (.put x (.bin .sum (.hZ x) (.num 1)))]) rfl rfl (NP hl)) rfl))) (fR rfl)))
   .refine cd λn m _ k=>DX (K5 (JZ rfl U) (J6 rfl h2)) (DX (K5 (JZ rfl U) ?_) k)
    by_cases xC:G3 cell 9871 9<4
    .have hn:¬need=0:=λq=>Z ⟨xC,Or.inl q⟩
     have hh:b7=cf:=by
      cases b7 with
      | true=>rfl
      | false=>exact absurd ⟨xC,Or.inr rfl⟩ Z
     exact K5 (JZ rfl xC) (GH (kI rfl rfl) (by rw[hh,df hn];rfl))
    .exact N6 (J6 rfl xC)
theorem Rh(Hm:ae "_law_mix" = aV QC)(Ht:ae "_law_term" = aV Y7)(Hi:ae "_law_names_in" = aV J5)(Hb:ae "_law_block" = aV Y8)(H:ae "_law_deed" = aV bF)(hp:Plan nm lv){b7:Bool}:∀B:Nat,tL ae W nm lv b7 B:=by
 intro B
 induction B with
 | zero=>exact w6 Hm Ht Hi H hp λd h=>by cases h
 | succ d C=>exact w6 Hm Ht Hi H hp λe h=>by cases h;exact OP Hm Hb C
noncomputable def SG:bz->bz
 | .cons (.dA _ b) _=>b
 | s=>s
theorem lK{x:Str}:∀{B:List Str},x∈B->((DP B).any λk=>eH (k=.inr x))=cf
 | y::r,h=>by
  show (eH ((kf y:Key)=.inr x)||(DP r).any λk=>eH (k=.inr x))=cf;rcases cq h with e | e
  .subst e;simp
  .rw[lK e];simp
theorem E5{x:Str}{f:Str->Int}{v:Int}:∀{B:List Str},jC (DP B) (HJ B f) (.inr x) (.int v)=HJ B (KQ f x v)
 | []=>rfl
 | y::r=>by
  show (if (kf y:Key)=.inr x then D.int v else .int (f y))::jC (DP r) (HJ r f) (.inr x) (.int v)=.int (if y=x then v else f y)::HJ r (KQ f x v);rw[E5]
  by_cases e:y=x
  .subst e;simp
  .rw[ak (λq=>e (j1 q)),ak e]
theorem qT{B:List Str}(h:x∈B):putD (DP B) (HJ B f) (.inr x) (.int v)=(DP B,HJ B (KQ f x v)):=by
 rw[putD,ah (lK h),E5]
theorem g8:∀l:List (Dd Str),l.length<=wg l
 | []=>a8 _
 | d::r=>by
  have:=g8 r;have:=d.size_pos;simp only[hJ,wg];lia
theorem jG:∀{r:List Key} {q:List D} {ks:List Key} {vs:List D},r.length=q.length->r.Nodup->(∀k∈r,k∉ks)->FQ ks vs r q=(ks++r,vs++q)
 | [],[],ks,vs,_,_,_=>by simp[FQ]
 | k::r,v::q,ks,vs,hl,C,hd=>by
  have hk:(ks.any λx=>eH (x=k))=en:=by
   rw[List.any_eq_false];intro x B e;exact hd k bw (by simpa using (eW e)▸B)
  have e:putD ks vs k v=(ks++[k],vs++[v]):=by rw[putD,hk];rfl
  rw[FQ,e];rw[jG (by simpa using hl) (nj C).2 (λx B q=>by
   rcases dg q with q | q
   .exact hd x (bx _ B) q
   .rw[fw q]at B
    exact(nj C).1 B)]
  simp
noncomputable def CV(B:List Str)(f:Str->Int):List D:=B.map λx=>.tup [.str x,.int (f x)]
theorem QK{f:Str->Int}:∀B:List Str,pairsOf (CV B f)=aV (DP B,HJ B f)
 | []=>rfl
 | x::r=>by
  have C:=QK (f:=f) r;simp only[CV,cj]at C ⊢;simp only[pairsOf,N5,C];rfl
theorem lA(l:List Str)(f:Str->Int):D.clean.cK (l.map λx=>.tup [.str x,.int (f x)])=cf:=by
 induction l with
 | nil=>rfl
 | cons a r B=>simp[B]
structure Co(ae:String->Option Fn):Prop where
 cell:ae "_law_cell" = aV V2
 mix:ae "_law_mix" = aV QC
 name:ae "_law_name" = aV bD
 names:ae "_law_names" = aV dY
 levels:ae "_law_levels" = aV Z8
 term:ae "_law_term" = aV Y7
 JJ:ae "_law_names_in" = aV J5
 TR:ae "_law_deed" = aV bF
 block:ae "_law_block" = aV Y8
 program:ae "_law_program" = aV dX
noncomputable def cW(ns:List Int)(lo hi:Option Int):List Int:=(ns.drop (HT.bq ns.length 0 lo)).take (HT.bq ns.length ns.length hi-HT.bq ns.length 0 lo)
theorem OH(ns:List Int)(lo hi:Option Int):cutD (ns.map .int) lo hi=(cW ns lo hi).map .int:=by
 simp only[WL.cutD,cW,a6,List.map_take,List.map_drop]
theorem OI(ns:List Int){a b:Int}(B:0<=a)(C:a<=b):(cW ns (aV a) (aV b)).length<=(b-a).toNat:=by
 obtain⟨i,rfl⟩:=An B;obtain⟨j,rfl⟩:=An (show 0<=b by omega);simp only[cW,HT.X2,zl,List.length_drop];omega
theorem P9(c d:Int):Plan (GJ c) (P0 d):=⟨rfl,rfl,oF d⟩
theorem yW(H:Co ae){k:Nat}:∃B:Bl Str,B.Ok (·∈GJ (EY ns 0))/\B.dep<=4/\B.size<=63/\∀n m,BZ W ae (n+10) "_law_program" [.b9 ns,.int k] m=aV (.tup (dB B),m):=by
 have Y:=Rh (W:=W) H.mix H.term H.JJ H.block H.TR (P9 (EY ns 0) (EY ns 1)) (b7:=eH (0<G3 (EY ns 0) 9833 4)) 2;have O:=λc=>Y c 0 (by lia) (by lia)
 let g:Int->Dd Str:=λc=>Classical.choose (O c)
 have C:=λc=>Classical.choose_spec (O c)
 have d6:=OI ns (a:=k) (b:=k+1+EY ns 0 % 3) (by lia) (by lia);have aaf:(cW ns (aV k) (aV (k+1+EY ns 0 % 3))).length<=3:=by lia
 refine⟨Bl.of ((cW ns (aV k) (aV (k+1+EY ns 0 % 3))).map g),?_,?_,?_,λn m=>?_⟩
 .refine eF λd h=>?_
  obtain⟨j,_,rfl⟩:=ck h;exact(C j).1
 .refine Z9 λd h=>?_
  obtain⟨j,_,rfl⟩:=ck h;exact(C j).2.1
 .refine fN (VR (k:=21) λd h=>?_) ?_
  .obtain⟨j,_,rfl⟩:=ck h
   exact(C j).2.2.1
  .rw[a6];lia
 .refine FJ (n:=n+9) H.program rfl (UG _) ?_
  have G:=lH (W:=W) (n:=n+8) (m:=m) H.cell (ns:=ns) (k:=0);rw[Int.natCast_zero]at G;have hm:∀{c p k:Int},0<p->0<k->BZ W ae (n+9) "_law_mix" [.int c,.int p,.int k] m=aV (.int (G3 c p k),m):=λhp hk=>O4 (n:=n+8) H.mix hp hk
  have Z:=vZ (W:=W) (n:=n+6) (m:=m) H.mix H.cell H.name H.names (ns:=ns);have hl:=pC (W:=W) (n:=n+7) (m:=m) H.mix H.cell H.levels (ns:=ns);have U:sP (.b9 ns) (aV k) (aV (k+1+EY ns 0 % 3))=aV (.lst ((cW ns (aV k) (aV (k+1+EY ns 0 % 3))).map .int)):=by
   show aV (D.lst (cutD (ns.map .int) _ _))=_;rw[OH]
  have comp:∀x,ev (BZ W ae (n+9)) (.comp en 1 (.nm 5) (.seq (.var 4)) .tt (.call "_law_deed" (.cons (.var 3) (.cons (.var 5) (.cons (.con (.int 2)) (.cons (.con (.int 0)) .nil)))))) [aV (.b9 ns),aV (.int k),x,aV (OJ (GJ (EY ns 0)) (P0 (EY ns 1)) (eH (0<G3 (EY ns 0) 9833 4))),aV (.lst ((cW ns (aV k) (aV (k+1+EY ns 0 % 3))).map .int))] m=aV (.lst (dB (Bl.of ((cW ns (aV k) (aV (k+1+EY ns 0 % 3))).map g))),m):=by
   intro x;rw[KZ (xs:=(cW ns (aV k) (aV (k+1+EY ns 0 % 3))).map .int) (λd=>match d with | .int j=>dD (g j) | _=>.aE) rfl rfl (by rw[a6];lia)]
   .rw[Gj,b6,b6];rfl
   .intro d hd
    obtain⟨j,hj,rfl⟩:=ck hd;refine⟨[aV (.b9 ns),aV (.int k),x,aV (OJ (GJ (EY ns 0)) (P0 (EY ns 1)) (eH (0<G3 (EY ns 0) 9833 4))),aV (.lst ((cW ns (aV k) (aV (k+1+EY ns 0 % 3))).map .int)),aV (.int j)],rfl,rfl,CG ((C j).2.2.2 n m) rfl⟩
  exact CN (J0 (CG (hm (by decide) (by decide)) (BW (CG G rfl) rfl)) rfl rfl) (CN (HD (BW (CG Z rfl) (BW (CG hl rfl) rfl)) (fR rfl)) (CN (BV rfl rfl (B2 (FW rfl (FW (CG G rfl) rfl (UJ (by decide))) rfl)) U) (DQ (G8 (comp _) rfl))))
noncomputable def qE:Nat->D->Bool
 | _,.aE=>cf
 | _,.bl _=>cf
 | _,.int _=>cf
 | _,.str x=>(PyData.str x).canLay0
 | k+1,.tup xs=>xs.all (qE k)
 | _,_=>en
theorem uN:∀{k:Nat} {d:D},qE k d=cf->∃p,o4 d=aV p/\p.canLay0=cf/\p.depth<=k:=by
 intro k
 induction k with
 | zero=>
  intro d h;cases d with
  | aE=>exact⟨_,rfl,rfl,a8 _⟩
  | bl b=>exact⟨_,rfl,rfl,a8 _⟩
  | int i=>exact⟨_,rfl,rfl,a8 _⟩
  | str x=>exact⟨_,rfl,h,a8 _⟩
  | _=>cases h
 | succ k U=>
  intro d h;cases d with
  | aE=>exact⟨_,rfl,rfl,eC _⟩
  | bl b=>exact⟨_,rfl,rfl,eC _⟩
  | int i=>exact⟨_,rfl,rfl,eC _⟩
  | str x=>exact⟨_,rfl,h,eC _⟩
  | tup xs=>
   have G:∀xs:List D,(xs.all (qE k))=cf->∃ps,bY xs=aV ps/\PyData.canLayAll0 ps=cf/\PyData.depthAll ps<=k:=by
    intro xs
    induction xs with
    | nil=>exact λ_=>⟨[],rfl,rfl,eC _⟩
    | cons a r WB=>
     intro h;simp only[List.all_cons,gS]at h;obtain⟨p,Z,Y,e3⟩:=U h.1;obtain⟨ps,C,B,O⟩:=WB h.2;exact⟨p::ps,by
      show (o4 a).bind _=_;rw[Z];show (bY r).map _=_;rw[C];rfl,by simp[PyData.canLayAll0,Y,B],by simp only[PyData.depthAll];lia⟩
   obtain⟨ps,C,B,O⟩:=G xs h;exact⟨.tuple ps,by
    show (bY xs).map _=_;rw[C];rfl,by simpa[PyData.canLay0] using B,by simp only[PyData.depth];lia⟩
  | _=>cases h
theorem Ly(q:Int)(k:Nat):(PyData.str (KR q k)).canLay0=cf:=by
 have h:=NJ q k;simp only[PyData.canLay0,PyData.strOk,Array.all_eq_true_iff_forall_mem];intro x B;have:=h x (by simpa using B);simp;lia
noncomputable def ou:bz->bz
 | .cons (.fr _ _ b) _=>b
 | s=>s
structure ib(nm ks:List Str)(f:Str->Int):Prop where
 nd:ks.Nodup
 sub:∀x∈ks,x∈nm
 zero:∀x,x∉ks->f x=0
theorem U6{f:Str->Int}{x:Str}:∀{ks:List Str},x∉ks->G5 (DP ks) (HJ ks f) (.inr x)=a0
 | [],_=>rfl
 | y::r,h=>by
  show (if (kf y:Key)=.inr x then aV (D.int (f y)) else G5 (DP r) (HJ r f) (.inr x))=_;rw[ak (λq=>h (by rw[j1 q];exact bw))];exact U6 λq=>h (bx _ q)
theorem Lw{ks:List Str}(h:ib nm ks f)(x:Str):(G5 (DP ks) (HJ ks f) (.inr x)).getD (.int 0)=.int (f x):=by
 by_cases e:x∈ks
 .rw[JK e];rfl
 .rw[U6 e,h.zero x e];rfl
theorem dJ{x:Str}:∀{ks:List Str},x∉ks->((DP ks).any λk=>eH (k=.inr x))=en
 | [],_=>rfl
 | y::r,h=>by
  show (eH ((kf y:Key)=.inr x)||(DP r).any λk=>eH (k=.inr x))=en;rw[dJ λq=>h (bx _ q)];have:¬(kf y:Key)=.inr x:=λq=>h (by rw[j1 q];exact bw)
  simp[this]
theorem Nb{ks:List Str}(h:ib nm ks f)(G:x∈nm)(v:Int):∃C,putD (DP ks) (HJ ks f) (.inr x) (.int v)=(DP C,HJ C (KQ f x v))/\ib nm C (KQ f x v):=by
 by_cases e:x∈ks
 .exact⟨ks,qT e,h.nd,h.sub,λy B=>by
   unfold KQ;rw[ak (λq=>B (by rw[q];exact e))];exact h.zero y B⟩
 .refine⟨ks++[x],?_,?_,?_,?_⟩
  .rw[putD,dJ e]
   simp only[DP,HJ,gi,cj,List.map_nil];have:ks.map (λy=>D.int (f y))=ks.map λy=>D.int (KQ f x v y):=qe λy B=>by
    unfold KQ;rw[ak (λq=>e (by rw[<-q];exact B))]
   rw[this];simp[KQ]
  .exact qu.mpr ⟨h.nd,by simp,λa U b O q=>by
    rw[fw O]at q;exact e (q▸U)⟩
  .intro y B
   rcases dg B with q | q
   .exact h.sub y q
   .rw[fw q];exact G
  .intro y B
   have Z:y∉ks:=λq=>B (iw _ q)
   have Y:y≠x:=λq=>B (by simp[q])
   unfold KQ;rw[ak Y];exact h.zero y Z
theorem fG(a b:Str):(G6 a b||G6 b a)=cf:=by
 unfold G6
 by_cases h:b.cps.toList<a.cps.toList
 .have:¬a.cps.toList<b.cps.toList:=λq=>List.lt_irrefl _ (List.lt_trans h q)
  simp[this]
 .simp[h]
theorem zf{b:Str}(h:G6 a b=cf)(h':G6 b a=cf):a=b:=by
 unfold G6 at h h';simp at h h';have:a.cps.toList=b.cps.toList:=List.le_antisymm h h';cases a;cases b;simp at this;rw[this]
theorem m9{b c:Str}(h:G6 a b=cf)(h':G6 b c=cf):G6 a c=cf:=by
 unfold G6 at h h' ⊢;simp at h h' ⊢;exact List.le_trans h h'
theorem RZ(l:List Str):(CQ l).Pairwise (λa b=>G6 a b=cf):=List.pairwise_mergeSort (le:=G6) (λa b c h h'=>m9 h h') fG l
theorem X8{ks:List Str}(O:ks.Nodup)(G:ks.length<=1000)(mu:Bool)(m:Mem):cw (.dict mu) (.tup (CV ks f)) m=aV (iN mu (DP ks) (HJ ks f) m):=by
 have C:=jG (r:=DP ks) (q:=HJ ks f) (ks:=[]) (vs:=[]) (by simp[DP,HJ]) (by
  unfold DP;exact List.Pairwise.map _ (λa b (h:a≠b) q=>h (j1 q)) O) (by simp)
 have B:(DP ks).length<=1000:=by simpa only [DP,a6] using G
 show ((pairsOf (CV ks f)).bind λ(ks,vs)=>if ks.length<=1000 then aV (iN mu (FQ [] [] ks vs).1 (FQ [] [] ks vs).2 m) else a0)=_;rw[QK,bS];show (if (DP ks).length<=1000 then aV (iN mu (FQ [] [] (DP ks) (HJ ks f)).1 (FQ [] [] (DP ks) (HJ ks f)).2 m) else a0)=_;rw[ah B,C];rfl
inductive Pt where
 | tm (t:Tm Str) | dd (d:Dd Str)
noncomputable def dP:Pt->D
 | .tm t=>dT t
 | .dd d=>dD d
noncomputable def Pt.own:Pt->List Str
 | .tm (.hZ x)=>[x]
 | .dd (.put x _)=>[x]
 | _=>[]
noncomputable def Pt.parts:Pt->List Pt
 | .tm (.bin _ a b)=>[.tm a,.tm b]
 | .dd (.put _ e)=>[.tm e]
 | .dd (.fq _ e)=>[.tm e]
 | .dd (.ite e b c)=>.tm e::(b.list.map Pt.dd++c.list.map Pt.dd)
 | .dd (.dA e b)=>.tm e::b.list.map Pt.dd
 | _=>[]
noncomputable def jz:Tm Str->Nat
 | .bin _ a b=>jz a+jz b+1
 | _=>1
mutual
noncomputable def mh:Dd Str->Nat
 | .put _ e=>jz e+1
 | .fq _ e=>jz e+1
 | .ite e b c=>jz e+om b+om c+1
 | .dA e b=>jz e+om b+1
noncomputable def om:Bl Str->Nat
 | .nil=>0
 | .cons d b=>mh d+om b
end
noncomputable def Pt.w:Pt->Nat
 | .tm t=>jz t
 | .dd d=>mh d
noncomputable def MN:List Pt->Nat
 | []=>0
 | p::r=>p.w+MN r
theorem O1:∀a b:List Pt,MN (a++b)=MN a+MN b
 | [],b=>by simp[MN]
 | p::a,b=>by simp only[List.cons_append,MN,O1 a b];lia
theorem U4:∀b:Bl Str,MN (b.list.map Pt.dd)=om b
 | .nil=>rfl
 | .cons d b=>by simp only[Bl.list,cj,MN,Pt.w,om,U4 b]
theorem VF(p:Pt):MN p.parts+1=p.w:=by
 cases p with
 | tm t=>cases t<;>simp only[Pt.parts,MN,Pt.w,jz]<;>lia
 | dd d=>cases d<;>simp only[Pt.parts,MN,Pt.w,mh,O1,U4]<;>lia
mutual
noncomputable def rn:Dd Str->List Str
 | .put x e=>x::e.names
 | .fq _ e=>e.names
 | .ite e b c=>e.names++j0 b++j0 c
 | .dA e b=>e.names++j0 b
noncomputable def j0:Bl Str->List Str
 | .nil=>[]
 | .cons d b=>rn d++j0 b
end
noncomputable def Pt.N:Pt->List Str
 | .tm t=>t.names
 | .dd d=>rn d
theorem Z0{x:Str}:∀b:Bl Str,x∈j0 b↔∃p∈b.list.map Pt.dd,x∈p.N
 | .nil=>by simp[j0,Bl.list]
 | .cons d b=>by simp only[j0,lz,Bl.list,cj,h7,exists_eq_or_imp,Z0 b,Pt.N]
theorem jJ(p:Pt)(x:Str):x∈p.N↔x∈p.own\/∃q∈p.parts,x∈q.N:=by
 cases p with
 | tm t=>cases t<;>simp[Pt.N,Pt.own,Pt.parts,Tm.names]
 | dd d=>
  cases d with
  | put y e=>simp[Pt.N,Pt.own,Pt.parts,rn]
  | fq l e=>simp[Pt.N,Pt.own,Pt.parts,rn]
  | ite e b c=>
   simp only[Pt.N,Pt.own,Pt.parts,rn,lz,jI,false_or,h7,exists_eq_or_imp,Z0];constructor
   .rintro ((h | ⟨p,B,C⟩) | ⟨p,B,C⟩)
    .exact .inl h
    .exact .inr ⟨p,.inl B,C⟩
    .exact .inr ⟨p,.inr B,C⟩
   .rintro (h | ⟨p,B | B,C⟩)
    .exact .inl (.inl h)
    .exact .inl (.inr ⟨p,B,C⟩)
    .exact .inr ⟨p,B,C⟩
  | dA e b=>simp only[Pt.N,Pt.own,Pt.parts,rn,lz,jI,false_or,h7,exists_eq_or_imp,Z0]
theorem pF(b:Bl Str):(b.list.map Pt.dd).map dP=dB b:=by
 rw[M8,b6];rfl
theorem OF(d:Dd Str):1<=mh d:=by cases d<;>simp only[mh]<;>lia
theorem kY:∀b:Bl Str,(dB b).length<=om b
 | .nil=>a8 _
 | .cons d b=>by
  have:=kY b;have:=OF d;simp only[dB,hJ,om];lia
theorem rh{a b c:D}:sP (.tup [a,b,c]) (aV 2) a0=aV (.tup [c]):=rfl
theorem oJ{ys:List Str}:LC .isin (.str x) (.tup (ys.map .str))=aV (ys.any λy=>eH (x=y)):=by
 have G:D.flat (.str x)=cf:=rfl;have C:=YT ys;have B:inD (.str x) (ys.map .str)=ys.any λy=>eH (x=y):=by
  simp only[inD,List.any_map];rfl
 show (if D.flat (.str x)&&(ys.map D.str).all D.flat then aV (inD (.str x) (ys.map .str)) else a0)=_;rw[G,C,B];rfl
theorem Sj{b:Str}:LC .isin (.str x) (.tup [.str a,.str b])=aV (eH (x=a)||decide (x=b)):=by
 have:=oJ (x:=x) (ys:=[a,b]);simpa using this
theorem Si{b c:Str}:LC .isin (.str x) (.tup [.str a,.str b,.str c])=aV (eH (x=a)||(eH (x=b)||decide (x=c))):=by
 have:=oJ (x:=x) (ys:=[a,b,c]);simpa using this
theorem AS{a b c:String}{v:Bool}(h:(eH (a=b)||decide (a=c))=v):LC .isin (.str (fi a)) (.tup [.str (fi b),.str (fi c)])=aV v:=by rw[Sj];simp only[ofString_eq,h]
theorem WE{a b c d:String}{v:Bool}(h:(eH (a=b)||(eH (a=c)||decide (a=d)))=v):LC .isin (.str (fi a)) (.tup [.str (fi b),.str (fi c),.str (fi d)])=aV v:=by rw[Si];simp only[ofString_eq,h]
theorem OM(H:ae "parts_of" = aV KH)(p:Pt)(hl:p.w<=4000):BZ W ae (n+1) "parts_of" [dP p] m=aV (.tup (p.parts.map dP),m):=by
 have cl:∀ps:List Pt,D.clean.cK (ps.map dP)=cf:=λps=>by
  induction ps with
  | nil=>rfl
  | cons q r U=>
   have:(dP q).clean=cf:=by
    cases q with
    | tm t=>exact NK t
    | dd d=>exact bB d
   simp[this,U]
 have B:∀(a:String) (v:Bool) (σ:DS),(eH (a = "number")||decide (a = "name"))=v->σ[1]?=aV (aV (.str (fi a)))->et (BZ W ae n) (.val (.cmp .isin (.var 1) (.tup (.cons (.con (.str "number")) (.cons (.con (.str "name")) .nil))))) σ m=aV (v,m):=λa v σ h C=>FP (J0 (d:=.str (fi a)) (by rw[BD,C]) rfl (AS h)) rfl
 have G:∀(a:String) (v:Bool) (σ:DS),(eH (a = "sum")||(eH (a = "times")||decide (a = "less")))=v->σ[1]?=aV (aV (.str (fi a)))->et (BZ W ae n) (.val (.cmp .isin (.var 1) (.con xy))) σ m=aV (v,m):=λa v σ h C=>FP (J0 (d:=.str (fi a)) (by rw[BD,C]) rfl (WE h)) rfl
 have O:∀(a:String) (v:Bool) (σ:DS),(eH (a = "put")||decide (a = "show"))=v->σ[1]?=aV (aV (.str (fi a)))->et (BZ W ae n) (.val (.cmp .isin (.var 1) (.tup (.cons (.con (.str "put")) (.cons (.con (.str "show")) .nil))))) σ m=aV (v,m):=λa v σ h C=>FP (J0 (d:=.str (fi a)) (by rw[BD,C]) rfl (AS h)) rfl
 refine FJ H rfl (cl _) ?_;cases p with
 | tm t=>
  cases t with
  | num k=>exact CN rfl (HY (B "number" cf _ (by decide) rfl) (DQ rfl))
  | hZ x=>exact CN rfl (HY (B "name" cf _ (by decide) rfl) (DQ rfl))
  | bin o a b=>exact CN rfl (DX (B (wb o) en _ (by cases o<;>decide) rfl) (HY (G (wb o) cf _ (by cases o<;>decide) rfl) (DQ rfl)))
 | dd d=>
  cases d with
  | put x e=>exact CN rfl (DX (B "put" en _ (by decide) rfl) (DX (G "put" en _ (by decide) rfl) (HY (O "put" cf _ (by decide) rfl) (DQ rfl))))
  | fq l e=>exact CN rfl (DX (B "show" en _ (by decide) rfl) (DX (G "show" en _ (by decide) rfl) (HY (O "show" cf _ (by decide) rfl) (DQ rfl))))
  | ite e b c=>
   have Y:=kY b;have Z:=kY c;simp only[Pt.w,mh]at hl;rw[show (Pt.parts (.dd (.ite e b c))).map dP=[dT e]++dB b++dB c by
    rw[M8,M8];show dT e::_=_;rw[gi,b6,b6];rfl]
   exact CN rfl (DX (B "if" en _ (by decide) rfl) (DX (G "if" en _ (by decide) rfl) (DX (O "if" en _ (by decide) rfl) (HY (JZ (p:=("if":Str)="if") rfl rfl) (DQ (FW (FW rfl rfl (NP (by rw[nI];lia))) rfl (NP (by rw[fA,nI];lia))))))))
  | dA e b=>
   have Y:=kY b;simp only[Pt.w,mh]at hl;rw[show (Pt.parts (.dd (.dA e b))).map dP=[dT e]++dB b by
    rw[M8];show dT e::_=_;rw[b6];rfl]
   exact CN rfl (DX (B "while" en _ (by decide) rfl) (DX (G "while" en _ (by decide) rfl) (DX (O "while" en _ (by decide) rfl) (DX (J6 (p:=("while":Str)="if") rfl (gX (by decide))) (DQ (FW rfl rfl (NP (by rw[nI];lia))))))))
noncomputable def l9(ks:List Str):List D:=ks.map λ_=>.bl cf
noncomputable def RP(ks:List Str):List Str->List Str
 | []=>ks
 | x::r=>RP (if x∈ks then ks else ks++[x]) r
noncomputable def mn(m0:Mem)(ks:List Str)(ps:List Pt):Mem:=m0++[.ao (DP ks) (l9 ks),.lst (ps.map dP)]
noncomputable def sN(b:Nat)(prog:D)(B:Option D):DS:=[aV prog,aV (.aI b),aV (.aI (b+1)),B]
noncomputable def wC:bz:=SG (K1 2 dG)
section
variable{ks dk:List Str}{ps qV:List Pt}
theorem JE:(mn m0 ks ps)[m0.length]?=aV (.ao (DP ks) (l9 ks)):=by simp[mn]
theorem Et:(mn m0 ks ps)[m0.length+1]?=aV (.lst (ps.map dP)):=by simp[mn]
theorem SY:(mn m0 ks ps).set m0.length (.ao (DP dk) (l9 dk))=mn m0 dk ps:=by simp[mn]
theorem Gx:(mn m0 ks ps).set (m0.length+1) (.lst (qV.map dP))=mn m0 ks qV:=by simp[mn]
end
theorem uG{x:Str}:∀{ks:List Str},jC (DP ks) (l9 ks) (.inr x) (.bl cf)=l9 ks
 | []=>rfl
 | y::r=>by
  show (if (kf y:Key)=.inr x then D.bl cf else .bl cf)::jC (DP r) (l9 r) (.inr x) (.bl cf)=_;rw[uG,ite_self];rfl
theorem MZ{ks:List Str}:putD (DP ks) (l9 ks) (.inr x) (.bl cf)=(DP (RP ks [x]),l9 (RP ks [x])):=by
 by_cases h:x∈ks
 .rw[putD,ah (lK h),uG]
  simp[RP,h]
 .rw[putD,dJ h]
  simp[RP,h,DP,l9]
theorem Cw{x:Str}:∀{l ks:List Str},x∈RP ks l↔x∈ks\/x∈l
 | [],ks=>by simp[RP]
 | y::r,ks=>by
  rw[RP,Cw]
  by_cases h:y∈ks
  .rw[ah h]
   simp only[h7];constructor
   .rintro (q | q)
    .exact .inl q
    .exact .inr (.inr q)
   .rintro (q | rfl | q)
    .exact .inl q
    .exact .inl h
    .exact .inr q
  .rw[ak h]
   simp[lz,or_assoc]
theorem lN:∀{l ks:List Str},ks.Nodup->(RP ks l).Nodup
 | [],ks,h=>h
 | y::r,ks,h=>by
  rw[RP]
  by_cases q:y∈ks
  .rw[ah q];exact lN h
  .rw[ak q]
   exact lN (qu.mpr ⟨h,by simp,λa C b B e=>q (by rw[<-fw B,<-e];exact C)⟩)
theorem oR:∀ps:List Pt,D.clean.cK (ps.map dP)=cf
 | []=>rfl
 | q::r=>by
  have:(dP q).clean=cf:=by
   cases q with
   | tm t=>exact NK t
   | dd d=>exact bB d
  simp[this,oR r]
theorem P5(p:Pt):1<=p.w:=by have:=VF p;lia
theorem jH:∀ps:List Pt,ps.length<=MN ps
 | []=>a8 _
 | p::r=>by
  have:=jH r;have:=P5 p;simp only[hJ,MN];lia
section
variable{prog:D}
theorem Qi(p:Pt):∃k:String,(∀m,ke (dP p) (.int 0) m=aV (.str (fi k)))/\(((k = "name"\/k = "put")/\∃x,p.own=[x]/\∀m,ke (dP p) (.int 1) m=aV (.str x))\/(k≠"name"/\k≠"put"/\p.own=[])):=by
 cases p with
 | tm t=>
  cases t with
  | num k=>exact⟨"number",λ_=>rfl,.inr ⟨by decide,by decide,rfl⟩⟩
  | hZ x=>exact⟨"name",λ_=>rfl,.inl ⟨.inl rfl,x,rfl,λ_=>rfl⟩⟩
  | bin o a b=>cases o<;>exact⟨_,λ_=>rfl,.inr ⟨by decide,by decide,rfl⟩⟩
 | dd d=>
  cases d with
  | put x e=>exact⟨"put",λ_=>rfl,.inl ⟨.inr rfl,x,rfl,λ_=>rfl⟩⟩
  | fq l e=>exact⟨"show",λ_=>rfl,.inr ⟨by decide,by decide,rfl⟩⟩
  | ite e b c=>exact⟨"if",λ_=>rfl,.inr ⟨by decide,by decide,rfl⟩⟩
  | dA e b=>exact⟨"while",λ_=>rfl,.inr ⟨by decide,by decide,rfl⟩⟩
theorem Qn(H:ae "parts_of" = aV KH){ks:List Str}{r:List Pt}{p:Pt}{C:Option D}(hp:MN (r++[p])<=4000)(hk:ks.length<64):aT (BZ W ae (n+1)) W wC (sN m0.length prog C) (mn m0 ks (r++[p]))=aV (.nx (sN m0.length prog (aV (dP p))),mn m0 (RP ks p.own) (r++p.parts)):=by
 have hb:wC=.cons (.set 3 (.pop (.var 2))) (.cons (.ite (.val (.cmp .isin (.ix (.var 3) (.con (.int 0))) (.tup (.cons (.con (.str "name")) (.cons (.con (.str "put")) .nil))))) (.cons (.put (.var 1) (.ix (.var 3) (.con (.int 1))) (.con (.bl cf))) .nil) .nil) (.cons (.drop (.ext (.var 2) (.call "parts_of" (.cons (.var 3) .nil)))) .nil)):=rfl;rw[O1]at hp;have U:p.w<=4000:=by simp only[MN]at hp;lia
 have Z:((r++[p]).map dP)[((r++[p]).map dP).length-1]?=aV (dP p):=by simp
 have Y:((r++[p]).map dP).dropLast=r.map dP:=by simp
 have O:ev (BZ W ae (n+1)) (.pop (.var 2)) (sN m0.length prog C) (mn m0 ks (r++[p]))=aV (dP p,mn m0 ks r):=by
  rw[QU rfl Et Z,Y,Gx]
 have ug:=VF p;have G:=jH p.parts;have aap:=jH r;have rest:aT (BZ W ae (n+1)) W (.cons (.drop (.ext (.var 2) (.call "parts_of" (.cons (.var 3) .nil)))) .nil) (sN m0.length prog (aV (dP p))) (mn m0 (RP ks p.own) r)=aV (.nx (sN m0.length prog (aV (dP p))),mn m0 (RP ks p.own) (r++p.parts)):=by
  have hc:=OM (W:=W) (n:=n) (m:=mn m0 (RP ks p.own) r) H p U;have s1:(mn m0 (RP ks p.own) r).set (m0.length+1) (.lst (r.map dP++p.parts.map dP))=mn m0 (RP ks p.own) (r++p.parts):=by rw[<-gi,Gx]
  exact IW (Ou rfl (CG hc rfl) Et (oR p.parts) (by rw[a6,a6];simp only[MN]at hp;lia)) (Q6 s1)
 rw[hb];refine CN O ?_;obtain⟨k,Iu,h | ⟨h1,h2,h3⟩⟩:=Qi p
 .obtain⟨i3,x,hx,Wv⟩:=h
  have B:LC .isin (.str (fi k)) (.tup [.str "name",.str "put"])=aV cf:=AS (by rcases i3 with rfl | rfl<;>decide);rw[hx]at rest ⊢;exact K3 (FP (J0 (JR (d:=dP p) rfl rfl (Iu _)) rfl B) rfl) (iU (z:=.bl cf) rfl rfl (JR (d:=dP p) rfl rfl (Wv _)) JE rfl rfl (by rw[DP,a6];lia) (Q6 (by rw[MZ];exact SY))) rest
 .have B:LC .isin (.str (fi k)) (.tup [.str "name",.str "put"])=aV en:=AS (by rw[df h1,df h2];rfl)
  have hz:RP ks p.own=ks:=by rw[h3];rfl
  rw[hz]at rest ⊢;exact DX (FP (J0 (JR (d:=dP p) rfl rfl (Iu _)) rfl B) rfl) rest
theorem Qo(H:ae "parts_of" = aV KH)(ie:nm.length<64):∀(w:Nat) (ps:List Pt) (ks:List Str) (C:Option D),MN ps<w->MN ps<=4000->ks.Nodup->(∀x∈ks,x∈nm)->(∀p∈ps,∀x∈p.N,x∈nm)->∃O ES,O.Nodup/\(∀x,x∈O↔x∈ks\/∃p∈ps,x∈p.N)/\
  RM (et (BZ W ae (n+1)) (.val (.var 2))) (λ σ m=>aT (BZ W ae (n+1)) W wC σ m) w (sN m0.length prog C) (mn m0 ks ps)=aV (.nx (sN m0.length prog ES),mn m0 O []):=by
 intro w
 induction w with
 | zero=>intro ps ks C h;lia
 | succ w ih=>
  intro ps ks C hw hb Y hV U;have pj:et (BZ W ae (n+1)) (.val (.var 2)) (sN m0.length prog C) (mn m0 ks ps)=aV (!ps.isEmpty,mn m0 ks ps):=by
   have h2:(sN m0.length prog C)[2]?=aV (aV (.aI (m0.length+1))):=rfl;have he:(ps.map dP).isEmpty=ps.isEmpty:=by simp
   exact FP (d:=.aI (m0.length+1)) rfl ((lZ Et).trans (by rw[he]))
  rcases List.eq_nil_or_concat ps with rfl | ⟨r,p,rfl⟩
  .refine⟨ks,C,Y,λx=>by simp,?_⟩
   rw[RM,pj];rfl
  .rw[List.concat_eq_append]at *
   have hl:ks.length<64:=qc (Y.length_le_of_subset hV) ie;have Z:∀x∈p.own,x∈p.N:=λx G=>(jJ p x).mpr (.inl G)
   have ug:=VF p;rw[O1]at hw hb;simp only[MN]at hw hb;obtain⟨O,ES,q1,q2,q3⟩:=ih (r++p.parts) (RP ks p.own) (aV (dP p)) (by rw[O1];lia) (by rw[O1];lia) (lN Y)
    (λx G=>(Cw.mp G).elim (hV x) λq=>U p (by simp) x (Z x q))
    (λq B x G=>by
     rcases dg B with h | h
     .exact U q (by simp[h]) x G
     .exact U p (by simp) x ((jJ p x).mpr (.inr ⟨q,h,G⟩)))
   refine⟨O,ES,q1,λx=>?_,?_⟩
   .rw[q2,Cw]
    constructor
    .rintro ((h | h) | ⟨q,B,h⟩)
     .exact .inl h
     .exact .inr ⟨p,by simp,Z x h⟩
     .rcases dg B with B | B
      .exact .inr ⟨q,by simp[B],h⟩
      .exact .inr ⟨p,by simp,(jJ p x).mpr (.inr ⟨q,B,h⟩)⟩
    .rintro (h | ⟨q,B,h⟩)
     .exact .inl (.inl h)
     .rcases dg B with B | B
      .exact .inr ⟨q,by simp[B],h⟩
      .rw[fw B]at h
       rcases(jJ p x).mp h with h | ⟨c9,h1,h2⟩
       .exact .inl (.inr h)
       .exact .inr ⟨c9,by simp[h1],h2⟩
   .have ne:(r++[p]).isEmpty=en:=by simp
    rw[RM,pj,ne];simp only[bS,A9,if_true];rw[Qn H (by rw[O1];simp only[MN];lia) hl];exact q3
theorem VN(Hp:ae "parts_of" = aV KH)(H:ae "names_of" = aV VP)(Z:nm.length<64){ps:List Pt}(hw:MN ps<W)(hb:MN ps<=4000)(Y:∀p∈ps,∀x∈p.N,x∈nm):∃ks,ks.Nodup/\(∀x,x∈ks↔∃p∈ps,x∈p.N)/\BZ W ae (n+2) "names_of" [.tup (ps.map dP)] m0=aV (.tup ((CQ ks).map .str),m0):=by
 obtain⟨ks,x3,U,O,q3⟩:=Qo (W:=W) (n:=n) (m0:=m0) (prog:=.tup (ps.map dP)) Hp Z W ps [] a0 hw hb lu (by simp) Y;refine⟨ks,U,λx=>by rw[O];simp,?_⟩;have hl:ks.length<64:=qc (U.length_le_of_subset λx C=>by
  obtain h | ⟨p,hp,C⟩:=(O x).mp C
  .simp at h
  .exact Y p hp x C) Z
 have hs:∀m,m[m0.length]?=aV (.ao (DP ks) (l9 ks))->cw (.Bd en) (.aI m0.length) m=aV (.lst ((CQ ks).map .str),m):=λm G=>by
  have e1:(DP ks).map cw.kD=ks.map .str:=by simp[DP,cw.kD]
  have e2:(DP ks).length<64:=by simpa[DP] using hl
  have hd:HF (.aI m0.length) m=aV (DP ks,l9 ks):=by simp only[HF,G]
  show ((HF (.aI m0.length) m).bind λ(ks,_)=>if ks.length<64 then (strsOf (ks.map cw.kD)).map λB=>bj en ((CQ B).map .str) m else a0)=_;rw[hd,bS];show (if (DP ks).length<64 then (strsOf ((DP ks).map cw.kD)).map λB=>bj en ((CQ B).map .str) m else a0)=_;rw[ah e2,e1,TX];rfl
 have G:m0++[.ao [] []]++[.lst (ps.map dP)]=mn m0 [] ps:=by simp[mn,DP,l9]
 have ud:cw (.list cf) (.tup (ps.map dP)) (m0++[.ao [] []])=aV (.aI (m0.length+1),mn m0 [] ps):=by
  show aV (bj cf (ps.map dP) (m0++[.ao [] []]))=_;rw[<-G];simp[bj]
 have d6:D.clean.cK ((CQ ks).map .str)=cf:=by
  generalize CQ ks=l
  induction l with
  | nil=>rfl
  | cons a r ih=>simp[ih]
 exact NT (q:=[.ao (DP ks) (l9 ks),.lst []]) (n:=n+1) H rfl d6 (CN (d:=.aI m0.length) (m1:=m0++[MO.ao [] []]) rfl (CN (d:=.aI (m0.length+1)) (m1:=mn m0 [] ps) (G8 rfl ud) (pY (b:=wC) q3 (DQ (G8 (G8 rfl (hs _ JE)) rfl)))))
end
noncomputable def vD(g:Str->Int)(l:Int):Dd Str->Bool
 | .put x _=>eH (g x<=l)
 | .fq k _=>eH (k<=l)
 | .ite e _ _=>e.names.all λx=>eH (g x<=l)
 | .dA _ _=>cf
theorem JF{α:Type}{k:Nat}{g:Tg}{i:Ie}{t:Te}{e:Ex}{xs:List α}{dd:α->D}{h:α->Option D}(ho:mM σ.length g=cf)(hi:ei C i σ m=aV (⟨xs.map dd,a0⟩,m))(hl:xs.length<=1000)(hf:∀a∈xs,∃σ1 c,JL g (dd a) (σ++i5 k a0)=aV σ1/\et C t σ1 m=aV (c,m)/\(if c=cf then (h a).isSome=cf/\ev C e σ1 m=aV ((h a).getD .aE,m) else h a=a0)):ev C (.comp en k g i t e) σ m=aV (.lst (xs.filterMap h),m):=by
 have U:∀(G:List α) (w:List D),(∀a∈G,a∈xs)->T6 ⟨w,a0⟩ (λd m=>(JL g d (σ++i5 k a0)).bind λ σ1=>(et C t σ1 m).bind λ(c,Y)=>if c then (ev C e σ1 Y).map λ(y,m3)=>(aV y,m3) else aV (a0,Y)) (G.map dd) m=aV (G.filterMap h,m):=by
  intro G w
  induction G with
  | nil=>exact λ_=>rfl
  | cons a r O=>
   intro hs;obtain⟨σ1,c,e1,e2,B⟩:=hf a (hs a bw);have O:=O λb hb=>hs b (bx _ hb)
   rw[cj,T6,ah (show Walk.ok ⟨w,a0⟩ m=cf from rfl)];cases c with
   | true=>
    rw[ah rfl]at B;obtain⟨B,e4⟩:=B;simp only[e1,e2,bS,if_true,e4,j2,O];cases Z:h a with
    | none=>rw[Z]at B;cases B
    | some y=>simp[tE,Z]
   | false=>
    rw[ak (by decide)]at B;simp only[e1,e2,bS,ft,if_false,O];simp[tE,B]
 show (if mM σ.length g=cf then (ei C i σ m).bind _ else a0)=_;rw[ah ho,hi];simp only[bS];rw[U xs _ λa h=>h];have:=List.length_filterMap_le h xs;simp only[bS];rw[ah (by lia)];rfl
theorem FO{α:Type}(f:α->Bool):∀l:List α,d7 (l.map λx=>.bl (f x))=aV (l.map f)
 | []=>rfl
 | a::r=>by
  have:=FO f r;simp only[cj,d7,this,j2]
theorem Pa{α:Type}(f:α->Bool)(l:List α)(m:Mem):cw .all (.lst (l.map λx=>.bl (f x))) m=aV (.bl (l.all f),m):=by
 show ((d7 (l.map λx=>D.bl (f x))).map λbs=>(D.bl (bs.all id),m))=_;rw[FO];simp[List.all_map,Function.comp_def]
section
variable{l:Int}
theorem qF:∀t:Tm Str,jz t+1<=2 ^ (t.dep+1)
 | .num _=>by simp[jz,Tm.dep]
 | .hZ _=>by simp[jz,Tm.dep]
 | .bin _ a b=>by
  have O:=qF a;have G:=qF b;have C:2 ^ (a.dep+1)<=2 ^ (max a.dep b.dep+1):=pg (by lia) (by lia);have B:2 ^ (b.dep+1)<=2 ^ (max a.dep b.dep+1):=pg (by lia) (by lia);simp only[jz,Tm.dep];rw[Nat.pow_succ];lia
noncomputable def bf(hk:List Str)(g:Str->Int):D:=.ao (DP hk) (HJ hk g)
theorem Q1(B:ib nm hk g){d k z:Ex}(U:ev C d σ m=aV (bf hk g,m))(O:ev C k σ m=aV (.str x,m))(G:ev C z σ m=aV (.int 0,m)):ev C (.get d k z) σ m=aV (.int (g x),m):=by
 have:HF (bf hk g) m=aV (DP hk,HJ hk g):=rfl;simp only[Pr,U,bS,this,O,G,N5,j2,Lw B]
end
section
variable{l:Int}
end
noncomputable def qA(qs:List (Str×Int))(x:Str):Int:=(qs.lookup x).getD 0
theorem qZ:∀{qs:List (Str×Int)},(qs.map (·.1)).Nodup->∀p∈qs,qA qs p.1=p.2
 | (a,b)::r,h,p,hp=>by
  have h':=nj (show (a::r.map (·.1)).Nodup from h);rcases cq hp with rfl | hp
  .simp[qA,pK]
  .have B:(p.1==a)=en:=by
    rw[beq_eq_false_iff_ne];intro e;exact h'.1 (e▸gh hp)
   have:=qZ h'.2 p hp;simp only[qA,pK,B]at this ⊢;exact this
theorem rA:∀{qs:List (Str×Int)} {x:Str},x∉qs.map (·.1)->qA qs x=0
 | [],x,_=>rfl
 | (a,b)::r,x,h=>by
  have B:(x==a)=en:=by
   rw[beq_eq_false_iff_ne];exact λe=>h (by simp[e])
  have:=rA (qs:=r) (x:=x) λq=>h (bx _ q)
  simp only[qA,pK,B]at this ⊢;exact this
theorem Sh{P:Int->Prop}(G:P 0){qs:List (Str×Int)}(C:(qs.map (·.1)).Nodup)(h:∀p∈qs,P p.2)(x:Str):P (qA qs x):=by
 by_cases B:x∈qs.map (·.1)
 .obtain⟨p,hp,rfl⟩:=ck B
  rw[qZ C p hp];exact h p hp
 .rw[rA B];exact G
theorem LF{ps:List (Str×Int)}(O:(ps.map (·.1)).Nodup)(hs:∀p∈ps,p.1∈nm)(U:ps.length<=4)(hl:∀p∈ps,0<=p.2/\p.2<=2){xs:List D}(B:xs=ps.map J1)(m:Mem):∃(hk:List Str) (g:Str->Int),ib nm hk g/\(∀x,0<=g x/\g x<=2)/\cw (.sorted en) (.lst xs) m=aV (.lst (CV hk g),m):=by
 have hp:(G9 ps).Perm ps:=jb ps _;have C:((G9 ps).map (·.1)).Nodup:=(hp.map (·.1)).nodup_iff.mpr O;refine⟨(G9 ps).map (·.1),qA (G9 ps),⟨C,λx B=>?_,λx B=>rA B⟩,Sh (P:=λi=>0<=i/\i<=2) (by lia) C (λp q=>hl p (hp.mem_iff.mp q)),?_⟩
 .obtain⟨p,q,rfl⟩:=ck B
  exact hs p (hp.mem_iff.mp q)
 .have Z:∀qs:List (Str×Int),JH (qs.map J1)=aV qs:=λqs=>by
   induction qs with
   | nil=>rfl
   | cons a r G=>simp only[cj,J1,JH]at G ⊢;rw[show JH (r.map J1)=aV r from G];rfl
  have Y:(G9 ps).map J1=CV ((G9 ps).map (·.1)) (qA (G9 ps)):=by
   unfold CV;rw[b6];exact qe λp q=>by
    show J1 p=D.tup [.str p.1,.int (qA (G9 ps) p.1)];rw[qZ C p q];rfl
  subst B;show ((JH (ps.map J1)).bind λqs=>if (ps.map J1).length<=4/\(qs.map (·.1)).Nodup then aV (bj en ((G9 qs).map J1) m) else a0)=_;rw[Z,bS,ah ⟨by simpa using U,O⟩,Y];rfl
end T
namespace WW
section
variable{N:Type}[DecidableEq N]
variable(g:N->Int)(l:Int)
noncomputable def Rv:Dd N->Bool
 | .put x _=>eH (g x<=l)
 | .fq k _=>eH (k<=l)
 | .ite e _ _=>e.names.all λx=>eH (g x<=l)
 | .dA _ _=>cf
mutual
noncomputable def cutD:Dd N->Dd N
 | .put x e=>.put x e
 | .fq k e=>.fq k e
 | .ite e b c=>.ite e (xb b) (xb c)
 | .dA e b=>.dA e (xb b)
noncomputable def xb:Bl N->Bl N
 | .nil=>.nil
 | .cons d b=>bif Rv g l d then .cons (cutD d) (xb b) else xb b
end
variable{g l}
end
end WW
namespace T
open PySem L2 WL WW
structure lV(ae:String->Option Fn):Prop where
 parts:ae "parts_of" = aV KH
 names:ae "names_of" = aV VP
 term:ae "names_in_term" = aV RK
 xw:ae "flows" = aV wO
 gather:ae "gather_flows" = aV xf
 add:ae "add_flows" = aV xd
noncomputable def JM:Str:=fi "page"
noncomputable def DW:Str:=fi "name"
mutual
noncomputable def i0:List Str->Dd Str->List FK
 | B,.put x e=>(B++e.names).map λy=>(y,DW,.inr x)
 | B,.fq k e=>(B++e.names).map λy=>(y,JM,.inl k)
 | B,.ite e b c=>fe (B++e.names) b++fe (B++e.names) c
 | B,.dA e b=>((B++e.names).map λy=>(y,JM,.inl 0))++fe B b
noncomputable def fe:List Str->Bl Str->List FK
 | _,.nil=>[]
 | B,.cons d b=>i0 B d++fe B b
end
def kP(a b:List Str):Prop:=∀x,x∈a↔x∈b
theorem kP.app{a b c d:List Str}(h:kP a b)(h':kP c d):kP (a++c) (b++d):=λx=>by simp[h x,h' x]
theorem U5{a b:List Str}(h:kP a b){kd:Str}{z:Key}:k∈a.map (λy=>(y,kd,z))↔k∈b.map (λy=>(y,kd,z)):=by
 simp only[List.mem_map];exact⟨λ⟨y,B,e⟩=>⟨y,(h y).mp B,e⟩,λ⟨y,B,e⟩=>⟨y,(h y).mpr B,e⟩⟩
mutual
theorem QQ:∀{d:Dd Str} {a b:List Str},kP a b->∀k,k∈i0 a d↔k∈i0 b d
 | .put x e,a,b,h,k=>by simp only[i0];exact U5 (h.app λ_=>Iff.rfl)
 | .fq j e,a,b,h,k=>by simp only[i0];exact U5 (h.app λ_=>Iff.rfl)
 | .ite e x y,a,b,h,k=>by
  have h':kP (a++e.names) (b++e.names):=h.app λ_=>Iff.rfl
  simp only[i0,lz,cO h' k]
 | .dA e x,a,b,h,k=>by
  simp only[i0,lz,cO h k];rw[U5 (h.app (c:=e.names) λ_=>Iff.rfl)]
theorem cO:∀{x:Bl Str} {a b:List Str},kP a b->∀k,k∈fe a x↔k∈fe b x
 | .nil,_,_,_,k=>by simp only[fe]
 | .cons d x,a,b,h,k=>by simp only[fe,lz,QQ h k,cO h k]
end
noncomputable def univ(nm:List Str):List FK:=nm.flatMap λy=>[(y,JM,Sum.inl 0),(y,JM,Sum.inl 1),(y,JM,Sum.inl 2)]++nm.map λx=>(y,DW,kf x)
theorem QD{y:Str}{j:Int}(B:y∈nm)(C:0<=j/\j<3):(y,JM,(Sum.inl j:Key))∈univ nm:=by
 refine List.mem_flatMap.mpr ⟨y,B,iw _ ?_⟩;rcases(show j=0\/j=1\/j=2 by lia) with rfl | rfl | rfl<;>simp
theorem fB{y:Str}(B:y∈nm)(C:x∈nm):(y,DW,(kf x:Key))∈univ nm:=List.mem_flatMap.mpr ⟨y,B,iy _ (gh C)⟩
theorem TV:∀k∈univ nm,MP k=cf:=λk hk=>by
 obtain⟨y,_,h⟩:=List.mem_flatMap.mp hk;rcases dg h with h | h
 .simp only[h7,jI,or_false]at h
  rcases h with rfl | rfl | rfl<;>exact cz (show JM=fi "page" from rfl)
 .obtain⟨x,_,rfl⟩:=ck h
  show (!decide (DW=fi "page"))=cf;decide +kernel
theorem bG(h:nm.length=4):(univ nm).length=28:=by
 match nm,h with
 | [a,b,c,d],_=>rfl
mutual
theorem vJ{nm:List Str}:∀{d:Dd Str} {cs:List Str},d.Ok (·∈nm)->(∀y∈cs,y∈nm)->∀k∈i0 cs d,k∈univ nm
 | .put x e,cs,B,C,k,hk=>by
  obtain⟨y,G,rfl⟩:=ck hk;exact fB ((dg G).elim (C y) (B.2.names y)) B.1
 | .fq j e,cs,B,C,k,hk=>by
  obtain⟨y,G,rfl⟩:=ck hk;exact QD ((dg G).elim (C y) (B.2.names y)) B.1
 | .ite e b c,cs,B,C,k,hk=>by
  have O:∀y∈cs++e.names,y∈nm:=λy G=>(dg G).elim (C y) (B.1.names y)
  rcases dg hk with hk | hk
  .exact K9 B.2.1 O k hk
  .exact K9 B.2.2 O k hk
 | .dA e b,cs,B,C,k,hk=>by
  rcases dg hk with hk | hk
  .obtain⟨y,G,rfl⟩:=ck hk
   exact QD ((dg G).elim (C y) (B.1.names y)) (by lia)
  .exact K9 B.2 C k hk
theorem K9{nm:List Str}:∀{b:Bl Str} {cs:List Str},b.Ok (·∈nm)->(∀y∈cs,y∈nm)->∀k∈fe cs b,k∈univ nm
 | .nil,_,_,_,k,hk=>nomatch hk
 | .cons d b,cs,B,C,k,hk=>by
  rcases dg hk with hk | hk
  .exact vJ B.1 C k hk
  .exact K9 B.2 C k hk
end
noncomputable def l8(g:Str->Int)(k:FK):Int:=match k.2.2 with
 | .inl j=>j
 | .inr x=>g x
theorem Hg{q:FK}:k∈XR ks q↔k∈ks\/k=q:=by
 unfold XR
 by_cases h:ks.any (λx=>eH (x=q))=cf
 .rw[ah h]
  obtain⟨x,B,e⟩:=List.any_eq_true.mp h;have e:=eW e;subst e;exact⟨.inl,λz=>z.elim id λe=>e▸B⟩
 .rw[ak h];simp
theorem wI{q:FK}(B:ks.Nodup):(XR ks q).Nodup:=by
 unfold XR
 by_cases h:ks.any (λx=>eH (x=q))=cf
 .rw[ah h];exact B
 .rw[ak h]
  refine qu.mpr ⟨B,by simp,λa G b C e=>h ?_⟩;rw[fw C]at e;exact List.any_eq_true.mpr ⟨a,G,cz e⟩
noncomputable def PL(kd:Str)(z:Key):List FK->List Str->List FK
 | ks,[]=>ks
 | ks,c::r=>PL kd z (XR ks (c,kd,z)) r
theorem xm{kd:Str}{z:Key}{k:FK}:∀{cs:List Str} {ks:List FK},k∈PL kd z ks cs↔k∈ks\/k∈cs.map λy=>(y,kd,z)
 | [],ks=>by simp[PL]
 | c::r,ks=>by
  rw[PL,xm,Hg,cj,h7];constructor
  .rintro ((h | h) | h)
   .exact .inl h
   .exact .inr (.inl h)
   .exact .inr (.inr h)
  .rintro (h | h | h)
   .exact .inl (.inl h)
   .exact .inl (.inr h)
   .exact .inr h
theorem XQ{kd:Str}{z:Key}:∀{cs:List Str} {ks:List FK},ks.Nodup->(PL kd z ks cs).Nodup
 | [],_,h=>h
 | c::r,ks,h=>by rw[PL];exact XQ (wI h)
theorem rN(k:FK):ml (fD k)=aV k:=by
 obtain⟨a,b,c | c⟩:=k<;>rfl
noncomputable def Ar:bz->bz
 | .cons (.fr _ _ b) _=>b
 | s=>s
theorem pO{C:String->List D->Mem->Option (D×Mem)}{nm:List Str}(Z:(univ nm).length<10000){kd:Str}{z:Key}{ys:List D}{na:D}{i:Nat}:∀(cs:List Str) (ks:List FK) (m:Mem) (B:Option D),m[i]?=aV (.fd ks)->ks.Nodup->(∀k∈ks,k∈univ nm)->(∀y∈cs,(y,kd,z)∈univ nm)->∃O,forL ⟨ys,a0⟩ (.nm 3) (λ σ m=>aT C W (Ar PK) σ m) (cs.map .str) [aV na,aV (.tup [.str kd,eK z]),aV (.aI i),B] m=aV (.nx [aV na,aV (.tup [.str kd,eK z]),aV (.aI i),O],m.set i (.fd (PL kd z ks cs)))
 | [],ks,m,B,G,_,_,_=>by
  have:m.set i (.fd ks)=m:=yv λj=>by
   by_cases U:i=j
   .subst U
    rw[lh (fx.mp G).1,G]
   .rw[k6 U]
  exact⟨B,by simp[forL,Walk.ok,PL,this]⟩
 | c::r,ks,m,B,G,cS,hs,Y=>by
  have hi:=(fx.mp G).1;have hl:ks.length<10000:=qc (cS.length_le_of_subset hs) Z;obtain⟨O,e1⟩:=pO (C:=C) (ys:=ys) (na:=na) Z r (XR ks (c,kd,z)) (m.set i (.fd (XR ks (c,kd,z)))) (aV (.str c)) (lh hi) (wI cS) (λk hk=>(Hg.mp hk).elim (hs k) λe=>e▸Y c bw) (λy hy=>Y y (bx _ hy));refine⟨O,?_⟩;rw[List.set_set]at e1;have hk:ml (.tup [.str c,.tup [.str kd,eK z]])=aV (c,kd,z):=rN (c,kd,z);have hb:JL (.nm 3) (.str c) [aV na,aV (.tup [.str kd,eK z]),aV (.aI i),B]=aV [aV na,aV (.tup [.str kd,eK z]),aV (.aI i),aV (.str c)]:=rfl;have e0:aT C W (Ar PK) [aV na,aV (.tup [.str kd,eK z]),aV (.aI i),aV (.str c)] m=aV (.nx [aV na,aV (.tup [.str kd,eK z]),aV (.aI i),aV (.str c)],m.set i (.fd (XR ks (c,kd,z)))):=by
   exact Me rfl rfl G hk hl rfl
  rw[cj,forL,ah (show Walk.ok ⟨ys,a0⟩ m=cf from rfl),hb,bS,e0,bS];exact e1
theorem B5(H:lV ae)(U:(univ nm).length<10000){kd:Str}{z:Key}{cs:List Str}(G:m[i]?=aV (.fd ks))(Y:ks.Nodup)(hs:∀k∈ks,k∈univ nm)(O:∀y∈cs,(y,kd,z)∈univ nm):BZ W ae (n+1) "add_flows" [.tup (cs.map .str),.tup [.str kd,eK z],.aI i] m=aV (.aE,m.set i (.fd (PL kd z ks cs))):=by
 obtain⟨B,e⟩:=pO (W:=W) (C:=BZ W ae n) (ys:=cs.map .str) (na:=.tup (cs.map .str)) U cs ks m a0 G Y hs O;rw[NQ H.add rfl];have E:aT (BZ W ae n) W xd.body ([D.tup (cs.map .str),.tup [.str kd,eK z],.aI i].map aV++i5 (xd.ns-xd.ps) a0) m=aV (.nx [aV (.tup (cs.map .str)),aV (.tup [.str kd,eK z]),aV (.aI i),B],m.set i (.fd (PL kd z ks cs))):=M6 (b:=Ar PK) (w:=⟨cs.map .str,a0⟩) rfl e rfl;rw[E];show aV (D.aE,List.take m.length (m.set i _))=_;rw[r9 (by simp)]
theorem U8(H:lV ae)(G:nm.length<64){t:Tm Str}(O:t.Ok (·∈nm))(hd:t.dep<=8)(hW:1000<W):∃ts:List Str,kP ts t.names/\ts.length<64/\BZ W ae (n+3) "names_in_term" [dT t] m=aV (.tup (ts.map .str),m):=by
 have hw:=qF t;have h2:2 ^ (t.dep+1)<=2 ^ 9:=pg (by lia) (by lia);have h3:(2:Nat) ^ 9=512:=by decide
 obtain⟨ks,Y,U,C⟩:=VN (W:=W) (n:=n) (m0:=m) H.parts H.names G (ps:=[.tm t]) (by simp only[MN,Pt.w];lia) (by simp only[MN,Pt.w];lia) (λp hp x B=>by
  rw[fw hp]at B;exact O.names x B)
 have hk:∀x,x∈ks↔x∈t.names:=λx=>by rw[U];simp[Pt.N]
 refine⟨CQ ks,λx=>?_,?_,?_⟩
 .rw[<-hk];exact(jb ks G6).mem_iff
 .rw[show (CQ ks).length=ks.length from (jb ks G6).length_eq]
  exact qc (Y.length_le_of_subset λx B=>O.names x ((hk x).mp B)) G
 .have d6:D.clean.cK ((CQ ks).map .str)=cf:=by
   generalize CQ ks=l
   induction l with
   | nil=>rfl
   | cons a r Z=>simp[Z]
  refine FJ H.term rfl d6 ?_;simp only[cj,List.map_nil,dP]at C;exact DQ (CG C rfl)
def vc(W:Nat)(ae:String->Option Fn)(nm:List Str)(n:Nat)(b:Bl Str):Prop:=∀(B:List Str) (ks:List FK) (m:Mem) (i:Nat),m[i]?=aV (.fd ks)->ks.Nodup->(∀k∈ks,k∈univ nm)->(∀y∈B,y∈nm)->B.length+64*b.dep<=5000->∃C,C.Nodup/\(∀k,k∈C↔k∈ks\/k∈fe B b)/\BZ W ae n "gather_flows" [.tup (dB b),.tup (B.map .str),.aI i] m=aV (.aE,m.set i (.fd C))
def GSub(W:Nat)(ae:String->Option Fn)(nm:List Str)(n:Nat):Dd Str->Prop
 | .put _ _=>True
 | .fq _ _=>True
 | .ite _ b c=>vc W ae nm n b/\vc W ae nm n c
 | .dA _ b=>vc W ae nm n b
noncomputable def B8:bz:=Ar T7
noncomputable def sG(eR cs:D)(i:Nat)(B x4 x5:Option D):DS:=[aV eR,aV cs,aV (.aI i),B,x4,x5]
theorem QN(H:lV ae)(ie:nm.length<64)(hU:(univ nm).length<10000)(hW:1000<W){d:Dd Str}(G:d.Ok (·∈nm))(hd:d.dep<=8)(f7:GSub W ae nm (n+3) d){eR:D}{cs:List Str}(hm:m[i]?=aV (.fd ks))(cS:ks.Nodup)(hs:∀k∈ks,k∈univ nm)(hc:∀y∈cs,y∈nm)(hl:cs.length+64*d.dep<=5000)(x4 x5:Option D):∃dk y4 y5,dk.Nodup/\(∀k,k∈dk↔k∈ks\/k∈i0 cs d)/\aT (BZ W ae (n+3)) W B8 (sG eR (.tup (cs.map .str)) i (aV (dD d)) x4 x5) m=aV (.nx (sG eR (.tup (cs.map .str)) i (aV (dD d)) y4 y5),m.set i (.fd dk)):=by
 have hi:=(fx.mp hm).1;cases d with
 | put x e=>
  simp only[Dd.dep]at hd hl;obtain⟨ts,C,t2,Y⟩:=U8 (W:=W) (n:=n) (m:=m) H ie G.2 hd hW;have U:∀y∈cs++ts,y∈nm:=λy B=>(dg B).elim (hc y) λh=>G.2.names y ((C y).mp h)
  have O:=B5 (W:=W) (n:=n+2) H hU (kd:=DW) (z:=.inr x) (cs:=cs++ts) hm cS hs (λy B=>fB (U y B) G.1);refine⟨PL DW (.inr x) ks (cs++ts),aV (.str "put"),x5,XQ cS,λk=>?_,?_⟩
  .rw[xm]
   simp only[i0];rw[U5 ((show kP cs cs from λ_=>Iff.rfl).app C)]
  .have Z:(cs.map D.str).length+(ts.map D.str).length<=10000:=by simp;lia
   rw[gi]at O;simp only[DW,eK]at O;exact CN rfl (TJ (J6 (p:=("put":Str)="if") rfl (gX (by decide))) (TJ (J6 (p:=("put":Str)="while") rfl (gX (by decide))) (K3 (JZ (p:=("put":Str)="put") rfl rfl) (IW (CG O (BW (FW rfl (CG Y rfl) (NP Z)) rfl)) rfl) rfl) rfl) rfl)
 | fq j e=>
  simp only[Dd.dep]at hd hl;obtain⟨ts,C,t2,Y⟩:=U8 (W:=W) (n:=n) (m:=m) H ie G.2 hd hW;have U:∀y∈cs++ts,y∈nm:=λy B=>(dg B).elim (hc y) λh=>G.2.names y ((C y).mp h)
  have O:=B5 (W:=W) (n:=n+2) H hU (kd:=JM) (z:=.inl j) (cs:=cs++ts) hm cS hs (λy B=>QD (U y B) G.1);refine⟨PL JM (.inl j) ks (cs++ts),aV (.str "show"),x5,XQ cS,λk=>?_,?_⟩
  .rw[xm]
   simp only[i0];rw[U5 ((show kP cs cs from λ_=>Iff.rfl).app C)]
  .have Z:(cs.map D.str).length+(ts.map D.str).length<=10000:=by simp;lia
   rw[gi]at O;simp only[JM,eK]at O;exact CN rfl (TJ (J6 (p:=("show":Str)="if") rfl (gX (by decide))) (TJ (J6 (p:=("show":Str)="while") rfl (gX (by decide))) (TJ (J6 (p:=("show":Str)="put") rfl (gX (by decide))) (IW (CG O (BW (FW rfl (CG Y rfl) (NP Z)) rfl)) rfl) rfl) rfl) rfl)
 | dA e b=>
  simp only[Dd.dep]at hd hl;obtain⟨ts,C,t2,Y⟩:=U8 (W:=W) (n:=n) (m:=m) H ie G.1 (by lia) hW;have U:∀y∈cs++ts,y∈nm:=λy B=>(dg B).elim (hc y) λh=>G.1.names y ((C y).mp h)
  have O:=B5 (W:=W) (n:=n+2) H hU (kd:=JM) (z:=.inl 0) (cs:=cs++ts) hm cS hs (λy B=>QD (U y B) (by lia));obtain⟨WN,q1,q2,q3⟩:=f7 cs (PL JM (.inl 0) ks (cs++ts)) (m.set i (.fd (PL JM (.inl 0) ks (cs++ts)))) i (lh hi) (XQ cS) (λk hk=>(xm.mp hk).elim (hs k) λh=>by
    obtain⟨y,B,rfl⟩:=ck h;exact QD (U y B) (by lia)) hc (by lia)
  rw[List.set_set]at q3;refine⟨WN,aV (.str "while"),x5,q1,λk=>?_,?_⟩
  .rw[q2,xm]
   simp only[i0,lz];rw[U5 ((show kP cs cs from λ_=>Iff.rfl).app C)];exact or_assoc
  .have Z:(cs.map D.str).length+(ts.map D.str).length<=10000:=by simp;lia
   rw[gi]at O;simp only[JM,eK]at O q3;exact CN rfl (TJ (J6 (p:=("while":Str)="if") rfl (gX (by decide))) (K3 (JZ (p:=("while":Str)="while") rfl rfl) (IW (CG O (BW (FW rfl (CG Y rfl) (NP Z)) rfl)) (IW (CG q3 rfl) rfl)) rfl) rfl)
 | ite e b c=>
  simp only[Dd.dep]at hd hl;obtain⟨ts,C,t2,Y⟩:=U8 (W:=W) (n:=n) (m:=m) H ie G.1 (by lia) hW;have U:∀y∈cs++ts,y∈nm:=λy B=>(dg B).elim (hc y) λh=>G.1.names y ((C y).mp h)
  have heq:kP (cs++ts) (cs++e.names):=(show kP cs cs from λ_=>Iff.rfl).app C;obtain⟨k1,a1,a2,a3⟩:=f7.1 (cs++ts) ks m i hm cS hs U (by rw[fA];lia);obtain⟨k2,b1,b2,b3⟩:=f7.2 (cs++ts) k1 (m.set i (.fd k1)) i (lh hi) a1 (λk hk=>((a2 k).mp hk).elim (hs k) λh=>K9 G.2.1 U k h) U (by rw[fA];lia);rw[List.set_set]at b3;refine⟨k2,aV (.str "if"),aV (.tup (cs.map .str++ts.map .str)),b1,λk=>?_,?_⟩
  .rw[b2,a2,cO heq k,cO heq k]
   simp only[i0,lz];exact or_assoc
  .have Z:(cs.map D.str).length+(ts.map D.str).length<=10000:=by simp;lia
   rw[gi]at a3 b3;exact CN rfl (K3 (JZ (p:=("if":Str)="if") rfl rfl) (CN (FW rfl (CG Y rfl) (NP Z)) (IW (CG a3 rfl) (IW (CG b3 rfl) rfl))) rfl)
noncomputable def jY(cs:List Str):List (Dd Str)->List FK
 | []=>[]
 | d::r=>i0 cs d++jY cs r
theorem jX(cs:List Str):∀b:Bl Str,jY cs b.list=fe cs b
 | .nil=>by simp only[fe];rfl
 | .cons d b=>by simp only[Bl.list,jY,fe,jX cs b]
theorem Fv(H:lV ae){nm:List Str}(ie:nm.length<64)(hU:(univ nm).length<10000)(hW:1000<W){eR:D}{cs:List Str}(Y:∀y∈cs,y∈nm){i:Nat}{ys:List D}{D0:Nat}(hD:D0<=8)(hl:cs.length+64*D0<=5000):∀(ds:List (Dd Str)) (ks:List FK) (m:Mem) (B x4 x5:Option D),(∀d∈ds,d.Ok (·∈nm)/\d.dep<=D0/\GSub W ae nm (n+3) d)->m[i]?=aV (.fd ks)->ks.Nodup->(∀k∈ks,k∈univ nm)->∃Z U O G,Z.Nodup/\(∀k,k∈Z↔k∈ks\/k∈jY cs ds)/\forL ⟨ys,a0⟩ (.nm 3) (λ σ m=>aT (BZ W ae (n+3)) W B8 σ m) (ds.map dD) (sG eR (.tup (cs.map .str)) i B x4 x5) m=aV (.nx (sG eR (.tup (cs.map .str)) i U O G),m.set i (.fd Z))
 | [],ks,m,B,x4,x5,_,C,cS,_=>by
  have:m.set i (.fd ks)=m:=yv λj=>by
   by_cases hj:i=j
   .subst hj
    rw[lh (fx.mp C).1,C]
   .rw[k6 hj]
  exact⟨ks,B,x4,x5,cS,λk=>by simp[jY],by simp[forL,Walk.ok,this]⟩
 | d::r,ks,m,B,x4,x5,hd,C,cS,hs=>by
  have hi:=(fx.mp C).1;obtain⟨d1,d2,d3⟩:=hd d bw;obtain⟨k1,z4,z5,a1,a2,a3⟩:=QN (W:=W) (n:=n) H ie hU hW d1 (by lia) d3 (eR:=eR) (cs:=cs) C cS hs Y (by lia) x4 x5;obtain⟨k2,U,O,G,b1,b2,b3⟩:=Fv H ie hU hW (eR:=eR) Y (ys:=ys) hD hl r k1 (m.set i (.fd k1)) (aV (dD d)) z4 z5 (λe he=>hd e (bx _ he)) (lh hi) a1 (λk hk=>((a2 k).mp hk).elim (hs k) λh=>vJ d1 Y k h);rw[List.set_set]at b3;refine⟨k2,U,O,G,b1,λk=>by rw[b2,a2];simp only[jY,lz];exact or_assoc,?_⟩;have hb:JL (.nm 3) (dD d) (sG eR (.tup (cs.map .str)) i B x4 x5)=aV (sG eR (.tup (cs.map .str)) i (aV (dD d)) x4 x5):=rfl;rw[cj,forL,ah (show Walk.ok ⟨ys,a0⟩ m=cf from rfl),hb,bS,a3,bS];exact b3
theorem LZ(H:lV ae)(ie:nm.length<64)(hU:(univ nm).length<10000)(hW:1000<W):∀(K n:Nat) (b:Bl Str),K+3<=n->K<=8->b.Ok (·∈nm)->b.dep<=K->vc W ae nm (n+1) b:=by
 have B:∀(K n:Nat),K+3<=n->K<=8->(∀b:Bl Str,b.Ok (·∈nm)->b.dep<K->vc W ae nm n b)->∀b:Bl Str,b.Ok (·∈nm)->b.dep<=K->vc W ae nm (n+1) b:=by
  intro K n O U C b ho hd cs ks m i hm cS hs hc hl;obtain⟨n,rfl⟩:∃j,n=j+3:=⟨n-3,by lia⟩
  obtain⟨dk,y3,y4,y5,a1,a2,a3⟩:=Fv (W:=W) (n:=n) H ie hU hW (eR:=.tup (dB b)) (cs:=cs) hc (i:=i) (ys:=dB b) (D0:=b.dep) (by lia) hl b.list ks m a0 a0 a0 (λd fF=>by
   have G:=ho.mem d fF;have Z:=Bl.CB fF;refine⟨G,Z,?_⟩;cases d with
   | put x e=>exact trivial
   | fq j e=>exact trivial
   | ite e c dh=>
    simp only[Dd.dep]at Z;exact⟨C c G.2.1 (by lia),C dh G.2.2 (by lia)⟩
   | dA e c=>
    simp only[Dd.dep]at Z;exact C c G.2 (by lia)) hm cS hs
  rw[jX,<-M8]at *;refine⟨dk,a1,a2,?_⟩;rw[NQ H.gather rfl];have E:aT (BZ W ae (n+3)) W xf.body ([D.tup (dB b),.tup (cs.map .str),.aI i].map aV++i5 (xf.ns-xf.ps) a0) m=aV (.nx (sG (.tup (dB b)) (.tup (cs.map .str)) i y3 y4 y5),m.set i (.fd dk)):=M6 (b:=B8) (w:=⟨dB b,a0⟩) rfl a3 rfl;rw[E];show aV (D.aE,List.take m.length (m.set i _))=_;rw[r9 (by simp)]
 intro K
 induction K with
 | zero=>exact λn b O U=>B 0 n O U (λb _ h=>absurd h (ki _)) b
 | succ K C=>
  intro n b O U;obtain⟨Y,rfl⟩:∃Y,n=Y+1:=⟨n-1,by lia⟩
  exact B (K+1) (Y+1) O U (λc ho hd=>C Y c (by lia) (by lia) ho (by lia)) b
section
theorem LU(k:FK):(fD k).clean=cf:=by
 obtain⟨a,b,c | c⟩:=k<;>rfl
theorem YX(l:List FK):D.clean.cK (l.map fD)=cf:=by
 induction l with
 | nil=>rfl
 | cons a r B=>simp[LU,B]
theorem OO(H:lV ae)(Z:nm.length=4)(U:1000<W){p:Bl Str}(B:p.Ok (·∈nm))(hd:p.dep<=8):∃ks:List FK,ks.Nodup/\(∀k,k∈ks↔k∈fe [] p)/\ks.length<=28/\BZ W ae (n+13) "flows" [.tup (dB p)] m=aV (.tup ((HN ks).map fD),m):=by
 have Y:=bG Z;obtain⟨ks,O,a2,G⟩:=LZ (W:=W) H (nm:=nm) (by lia) (by lia) U 8 (n+11) p (by lia) (by lia) B hd [] [] (m++[.fd []]) m.length (by simp) lu (by simp) (by simp) (by simp;lia);have hk:∀k,k∈ks↔k∈fe [] p:=λk=>by rw[a2];simp
 have C:∀k∈ks,k∈univ nm:=λk h=>K9 B (by simp) k ((hk k).mp h)
 have hl:ks.length<=28:=by rw[<-Y];exact O.length_le_of_subset C
 have aS:ks.all MP=cf:=P2.mpr λk h=>TV k (C k h)
 refine⟨ks,O,hk,hl,?_⟩;have hs:cw (.EG en) (.aI m.length) (m++[.fd ks])=aV (.lst ((HN ks).map fD),m++[.fd ks]):=by
  show (match (m++[MO.fd ks])[m.length]? with
   | some (.fd qs)=>if qs.length<64/\qs.all MP=cf then aV (bj en ((HN qs).map fD) (m++[MO.fd ks])) else a0
   | _=>a0)=_
  rw[show (m++[MO.fd ks])[m.length]?=aV (.fd ks) by simp];show (if ks.length<64/\ks.all MP=cf then aV (bj en ((HN ks).map fD) (m++[MO.fd ks])) else a0)=_;rw[ah ⟨by lia,aS⟩];rfl
 have Wk:(m++[MO.fd []]).set m.length (.fd ks)=m++[.fd ks]:=by simp
 rw[Wk]at G;have Tt:BZ W ae (n+12) "gather_flows" [.tup (dB p),.tup [],.aI m.length] (m++[.fd []])=aV (.aE,m++[.fd ks]):=G;have d6:=YX (HN ks);exact NT (q:=[.fd ks]) (n:=n+12) H.xw rfl d6 (CN (d:=.aI m.length) (m1:=m++[.fd []]) rfl (IW (CG Tt rfl) (DQ (G8 (G8 rfl hs) rfl))))
variable{l:Int}
end
structure dW(ae:String->Option Fn):Prop where
 settled:ae "settled" = aV iR
 targets:ae "targets_by_name" = aV Q5
 XZ:ae "names_reached" = aV xg
 trail:ae "trail_down" = aV Y6
 below:ae "is_below" = aV eE
 way:ae "way_to" = aV pU
noncomputable def ff(t:Str×Key):D:=.tup [.str t.1,eK t.2]
noncomputable def K6(ks:List FK)(a:Str):List (Str×Key):=(ks.filter λk=>eH (k.1=a)).map (·.2)
theorem ph:t∈K6 ks a↔(a,t)∈ks:=by
 unfold K6;rw[List.mem_map];constructor
 .rintro ⟨k,hk,rfl⟩
  obtain⟨C,B⟩:=me hk;have:=eW B;rw[<-this];exact C
 .exact λh=>⟨(a,t),zj.mpr ⟨h,cz rfl⟩,rfl⟩
structure GP(ks:List FK)(g:i8):Prop where
 nd:(g.map (·.1)).Nodup
 mem:∀a,a∈g.map (·.1)↔∃k∈ks,k.1=a
 ts:∀p∈g,p.2=K6 ks p.1
theorem Ob{g:i8}(G:GP ks g)(k:FK):GP (ks++[k]) (GC g k):=by
 have Bq:∀a,K6 (ks++[k]) a=if k.1=a then K6 ks a++[k.2] else K6 ks a:=λa=>by
  unfold K6;rw[List.filter_append,gi]
  by_cases e:k.1=a
  .rw[ah e];simp[e]
  .rw[ak e];simp[e]
 have O:g.any (λp=>eH (p.1=k.1))=cf↔k.1∈g.map (·.1):=by
  rw[tT,List.mem_map];exact⟨λ⟨p,hp,e⟩=>⟨p,hp,eW e⟩,λ⟨p,hp,e⟩=>⟨p,hp,cz e⟩⟩
 unfold GC
 by_cases h:g.any (λp=>eH (p.1=k.1))=cf
 .rw[ah h]
  have C:(g.map λp=>if p.1=k.1 then (p.1,p.2++[k.2]) else p).map (·.1)=g.map (·.1):=by
   rw[b6];refine qe λp _=>?_
   show (if p.1=k.1 then (p.1,p.2++[k.2]) else p).1=p.1;split<;>rfl
  refine⟨by rw[C];exact G.nd,λa=>?_,λp hp=>?_⟩
  .rw[C,G.mem]
   constructor
   .rintro ⟨q,B,e⟩;exact⟨q,iw _ B,e⟩
   .rintro ⟨q,B,e⟩
    rcases dg B with B | B
    .exact⟨q,B,e⟩
    .rw[fw B]at e
     exact(G.mem a).mp (e▸O.mp h)
  .obtain⟨q,B,rfl⟩:=ck hp
   by_cases e:q.1=k.1
   .rw[ah e]
    show q.2++[k.2]=K6 (ks++[k]) q.1;rw[Bq,ah e.symm,G.ts q B]
   .rw[ak e,Bq,ak λz=>e z.symm,G.ts q B]
 .rw[ak h]
  have hk:k.1∉g.map (·.1):=λz=>h (O.mpr z)
  refine⟨?_,λa=>?_,λp hp=>?_⟩
  .rw[gi]
   refine qu.mpr ⟨G.nd,by simp,λa Z b Y=>?_⟩;have:b=k.1:=by simpa using Y
   rw[this];exact λz=>hk (z▸Z)
  .rw[gi,lz,G.mem]
   constructor
   .rintro (⟨q,B,e⟩ | z)
    .exact⟨q,iw _ B,e⟩
    .have:a=k.1:=by simpa using z
     exact⟨k,iy _ bw,this.symm⟩
   .rintro ⟨q,B,e⟩
    rcases dg B with B | B
    .exact .inl ⟨q,B,e⟩
    .rw[fw B]at e
     exact .inr (by simp[e])
  .rcases dg hp with hp | hp
   .rw[Bq,ak λz=>hk (by rw[z];exact gh hp),G.ts p hp]
   .rw[fw hp]
    show [k.2]=K6 (ks++[k]) k.1;have:K6 ks k.1=[]:=by
     refine List.eq_nil_iff_forall_not_mem.mpr λt U=>hk ((G.mem _).mpr ⟨_,ph.mp U,rfl⟩)
    rw[Bq,ah rfl,this];rfl
theorem Fu:∀(r ks:List FK) (g:i8),GP ks g->GP (ks++r) (r.foldl GC g)
 | [],ks,g,G=>by rw[vm];exact G
 | k::r,ks,g,G=>by
  have:=Fu r (ks++[k]) (GC g k) (Ob G k);rw[vk]at this;exact this
theorem Sq(ks:List FK):GP ks (ks.foldl GC []):=by
 have:=Fu ks [] [] ⟨lu,λa=>by simp,λp hp=>(nomatch hp)⟩;exact this
noncomputable def CW(R:List (Str×D)):List Key:=R.map λp=>.inr p.1
noncomputable def CZ(R:List (Str×D)):List D:=R.map (·.2)
theorem BN{a:Str}{d:D}:∀{R:List (Str×D)},(R.map (·.1)).Nodup->(a,d)∈R->G5 (CW R) (CZ R) (.inr a)=aV d
 | p::r,B,h=>by
  have B:=nj (show (p.1::r.map (·.1)).Nodup from B);show (if (kf p.1:Key)=.inr a then aV p.2 else G5 (CW r) (CZ r) (.inr a))=_;rcases cq h with e | h
  .rw[<-e,ah rfl]
  .rw[ak λz=>B.1 (by rw[j1 z];exact gh (f:=(·.1)) h)]
   exact BN B.2 h
theorem BM{a:Str}:∀{R:List (Str×D)},a∉R.map (·.1)->G5 (CW R) (CZ R) (.inr a)=a0
 | [],_=>rfl
 | p::r,h=>by
  show (if (kf p.1:Key)=.inr a then aV p.2 else G5 (CW r) (CZ r) (.inr a))=_;rw[ak λz=>h (by rw[<-j1 z];exact bw)];exact BM λz=>h (bx _ z)
theorem NS:(G5 (CW R) (CZ R) (.inr a)).isSome=eH (a∈R.map (·.1)):=by
 by_cases h:a∈R.map (·.1)
 .rw[cz h]
  have:∀{R:List (Str×D)},a∈R.map (·.1)->(G5 (CW R) (CZ R) (.inr a)).isSome=cf:=λ {R}=>by
   induction R with
   | nil=>exact λh=>(nomatch h)
   | cons p r B=>
    intro h;show (if (kf p.1:Key)=.inr a then aV p.2 else G5 (CW r) (CZ r) (.inr a)).isSome=cf
    by_cases e:(kf p.1:Key)=.inr a
    .rw[ah e];rfl
    .rw[ak e]
     refine B ((cq h).resolve_left λz=>e (by rw[z]))
  exact this h
 .rw[df h,BM h];rfl
theorem P7{d:D}(h:a∉R.map (·.1)):putD (CW R) (CZ R) (.inr a) d=(CW (R++[(a,d)]),CZ (R++[(a,d)])):=by
 unfold putD;rw[ak]
 .simp[CW,CZ]
 .rw[tT]
  rintro ⟨k,hk,e⟩;obtain⟨p,hp,rfl⟩:=ck hk;exact h (by rw[<-j1 (eW e)];exact gh hp)
noncomputable def aR(g:i8):List (Str×D):=g.map λp=>(p.1,.lst (p.2.map ff))
theorem Ga(g:i8):JG g=.ao (CW (aR g)) (CZ (aR g)):=by
 unfold JG CW CZ aR;rw[b6,b6];rfl
theorem vG(ks:List FK)(a:Str):(G5 (CW (aR (ks.foldl GC []))) (CZ (aR (ks.foldl GC []))) (.inr a)).getD (.lst [])=.lst ((K6 ks a).map ff):=by
 have G:=Sq ks;have B:(aR (ks.foldl GC [])).map (·.1)=(ks.foldl GC []).map (·.1):=by unfold aR;rw[b6];rfl
 by_cases h:a∈(ks.foldl GC []).map (·.1)
 .obtain⟨p,hp,rfl⟩:=ck h
  have O:(p.1,D.lst (p.2.map ff))∈aR (ks.foldl GC []):=List.mem_map.mpr ⟨p,hp,rfl⟩;rw[BN (by rw[B];exact G.nd) O,Option.getD_some,G.ts p hp]
 .rw[BM (by rw[B];exact h)]
  have:K6 ks a=[]:=List.eq_nil_iff_forall_not_mem.mpr λt C=>h ((G.mem _).mpr ⟨_,ph.mp C,rfl⟩)
  rw[this];rfl
noncomputable def T8(hk:List Str)(a:Str)(s:List (Str×D)×List Str)(t:Str×Key):List (Str×D)×List Str:=match t.2 with
 | .inr b=>if t.1=DW/\b∉hk/\b∉s.1.map (·.1) then (s.1++[(b,.str a)],s.2++[b]) else s
 | .inl _=>s
theorem rK{hk:List Str}{a:Str}:∀(ts:List (Str×Key)) (R:List (Str×D)) (wq:List Str),(R.map (·.1)).Nodup->∃E:List Str,ts.foldl (T8 hk a) (R,wq)=(R++E.map (λb=>(b,D.str a)),wq++E)/\(R.map (·.1)++E).Nodup/\(∀b∈E,(DW,(.inr b:Key))∈ts/\b∉hk)/\∀b,(DW,(.inr b:Key))∈ts->b∉hk->b∈R.map (·.1)++E
 | [],R,wq,O=>⟨[],by simp,by simpa using O,λb C=>(nomatch C),λb C=>(nomatch C)⟩
 | t::ts,R,wq,O=>by
  rw[As];have ig:T8 hk a (R,wq) t=(R,wq)->(∀b,t=(DW,(.inr b:Key))->b∉hk->b∈R.map (·.1))->∃E:List Str,ts.foldl (T8 hk a) (T8 hk a (R,wq) t)=(R++E.map (λb=>(b,D.str a)),wq++E)/\(R.map (·.1)++E).Nodup/\(∀b∈E,(DW,(.inr b:Key))∈t::ts/\b∉hk)/\∀b,(DW,(.inr b:Key))∈t::ts->b∉hk->b∈R.map (·.1)++E:=λe C=>by
   rw[e];obtain⟨E,e1,e2,G,Z⟩:=rK ts R wq O;refine⟨E,e1,e2,λb h=>⟨bx _ (G b h).1,(G b h).2⟩,λb Y U=>?_⟩;rcases cq Y with z | z
   .exact iw _ (C b z.symm U)
   .exact Z b z U
  obtain⟨kd,z⟩:=t;cases z with
  | inl j=>exact ig rfl λb e=>by cases e
  | inr b=>
   by_cases h:kd=DW/\b∉hk/\b∉R.map (·.1)
   .have e0:T8 hk a (R,wq) (kd,.inr b)=(R++[(b,.str a)],wq++[b]):=ah h
    rw[e0];have kz:((R++[(b,D.str a)]).map (·.1)).Nodup:=by
     rw[gi];refine qu.mpr ⟨O,by simp,λc B d hd=>?_⟩;have:d=b:=by simpa using hd
     rw[this];exact λz=>h.2.2 (z▸B)
    obtain⟨E,e1,e2,G,Z⟩:=rK ts (R++[(b,.str a)]) (wq++[b]) kz;have em:(R++[(b,D.str a)]).map (·.1)++E=R.map (·.1)++(b::E):=by simp
    refine⟨b::E,by rw[e1];simp,by rw[<-em];exact e2,λc B=>?_,λc Y U=>?_⟩
    .rcases cq B with rfl | B
     .exact⟨by rw[h.1];exact bw,h.2.1⟩
     .exact⟨bx _ (G c B).1,(G c B).2⟩
    .rw[<-em]
     rcases cq Y with z | z
     .have:c=b:=by cases z;rfl
      rw[this];exact iw _ (by simp)
     .exact Z c z U
   .refine ig (ak h) λc e B=>?_
    cases e;exact OX λq=>h ⟨rfl,B,q⟩
inductive og (ks:List FK) (hk s0:List Str):Str->Prop
 | st {a:Str} (h:a∈s0):og ks hk s0 a
 | go {a b:Str} (h:og ks hk s0 a) (e:(a,DW,(.inr b:Key))∈ks) (n:b∉hk):og ks hk s0 b
inductive Way (ks:List FK) (s0:List Str):Str->List Str->Prop
 | st {a:Str} (h:a∈s0):Way ks s0 a [a]
 | go {a b:Str} {ws:List Str} (h:Way ks s0 b ws) (e:(b,DW,(.inr a:Key))∈ks) (l:ws.length<1000):Way ks s0 a (ws++[a])
structure BI(ks:List FK)(hk nm s0:List Str)(R:List (Str×D))(wq:List Str):Prop where
 nd:(R.map (·.1)).Nodup
 sub:∀a∈R.map (·.1),a∈nm
 q:∀a∈wq,a∈R.map (·.1)
 st:∀a∈s0,a∈R.map (·.1)
 par:∀(i:Nat) (p:Str×D),R[i]?=aV p->(p.2=.aE/\p.1∈s0)\/∃b,p.2=.str b/\b∈(R.take i).map (·.1)/\(b,DW,(.inr p.1:Key))∈ks
 rc:∀a∈R.map (·.1),og ks hk s0 a
 cl:∀a∈R.map (·.1),a∉wq->∀b,(a,DW,(.inr b:Key))∈ks->b∉hk->b∈R.map (·.1)
theorem BI.iff(B:BI ks hk nm s0 R []):a∈R.map (·.1)↔og ks hk s0 a:=by
 refine⟨B.rc a,λh=>?_⟩
 induction h with
 | st h=>exact B.st _ h
 | go _ e n C=>exact B.cl _ C (by simp) _ e n
theorem OT{st:List Str}{E:List Str}(B:BI ks hk nm st R (a::wq))(hV:∀k∈ks,∀b,k.2.2=.inr b->b∈nm)(h2:(R.map (·.1)++E).Nodup)(U:∀b∈E,(DW,(.inr b:Key))∈K6 ks a/\b∉hk)(h4:∀b,(DW,(.inr b:Key))∈K6 ks a->b∉hk->b∈R.map (·.1)++E):
  BI ks hk nm st (R++E.map (λb=>(b,D.str a))) (wq++E):=by
 have G:(R++E.map (λb=>(b,D.str a))).map (·.1)=R.map (·.1)++E:=by
  rw[gi,b6];congr 1;exact List.map_id'' (λ_=>rfl) E
 have Z:=B.q a bw;refine⟨by rw[G];exact h2,λc C=>?_,λc C=>?_,λc C=>?_,λi p e=>?_,λc C=>?_,λc C Y b O Ib=>?_⟩
 .rw[G]at C
  rcases dg C with C | C
  .exact B.sub c C
  .exact hV _ (ph.mp (U c C).1) c rfl
 .rw[G]
  rcases dg C with C | C
  .exact iw _ (B.q c (bx _ C))
  .exact iy _ C
 .rw[G];exact iw _ (B.st c C)
 .by_cases hi:i<R.length
  .rw[km hi]at e
   rw[ym (by lia)];exact B.par i p e
  .rw[qk (by lia),fc]at e
   obtain⟨b,O,rfl⟩:=bX e;refine .inr ⟨a,rfl,?_,ph.mp (U b (gL O)).1⟩;rw[List.take_append,r9 (by lia),gi];exact iw _ Z
 .rw[G]at C
  rcases dg C with C | C
  .exact B.rc c C
  .exact .go (B.rc a Z) (ph.mp (U c C).1) (U c C).2
 .rw[G]at C ⊢
  by_cases Ic:c=a
  .subst Ic
   exact h4 b (ph.mpr O) Ib
  .have UU:c∈R.map (·.1):=by
    rcases dg C with C | C
    .exact C
    .exact absurd (iy _ C) Y
   refine iw _ (B.cl c UU (λz=>?_) b O Ib);rcases cq z with z | z
   .exact Ic z
   .exact Y (iw _ z)
noncomputable def sR(b:Nat)(st on tl:D)(x5 x6 x7:Option D):DS:=[aV st,aV on,aV tl,aV (.aI b),aV (.aI (b+1)),x5,x6,x7]
noncomputable def mR(m0:Mem)(R:List (Str×D))(wq:List Str):Mem:=m0++[.ao (CW R) (CZ R),.lst (wq.map .str)]
theorem Ep:(mR m0 R wq)[m0.length]?=aV (.ao (CW R) (CZ R)):=by simp[mR]
theorem Er:(mR m0 R wq)[m0.length+1]?=aV (.lst (wq.map .str)):=by simp[mR]
theorem S0{B:List (Str×D)}:(mR m0 R wq).set m0.length (.ao (CW B) (CZ B))=mR m0 B wq:=by simp[mR]
theorem Gy{w:List D}{KA:List Str}(h:w=KA.map .str):(mR m0 R wq).set (m0.length+1) (.lst w)=mR m0 R KA:=by subst h;simp[mR]
theorem U9{a b:Ex}{x y:D}{ks:List Key}{k:Key}(G:ev C a σ m=aV (x,m))(B:ev C b σ m=aV (y,m))(hd:HF y m=aV (ks,vs))(hk:N5 x=aV k):ev C (.oT a b) σ m=aV (.bl (!(G5 ks vs k).isSome),m):=by
 show (ev C a σ m).bind _=_;rw[G,bS];show (ev C b σ m).bind _=_;rw[B,bS];show (HF y m).bind _=_;rw[hd,bS];show (N5 x).map _=_;rw[hk];rfl
theorem aB{ks:List Key}(h:m[i]?=aV (.ao ks vs)):HF (.aI i) m=aV (ks,vs):=by
 show (match m[i]? with | some (.ao ks vs)=>aV (ks,vs) | _=>a0)=_;rw[h]
noncomputable def wB:bz:=match K1 2 RG with | .cons (.dA _ b) _=>b | s=>s
noncomputable def B7:bz:=ou (K1 1 wB)
section
variable{st on:D}
theorem PV(ok:MP (a,t)=cf)(hl:R.length<1000)(hw:wq.length<1000):aT C W B7 (sR m0.length st on (bf hk g) (aV (.str a)) (aV (.str t.1)) (aV (eK t.2))) (mR m0 R wq)=aV (.nx (sR m0.length st on (bf hk g) (aV (.str a)) (aV (.str t.1)) (aV (eK t.2))),mR m0 (T8 hk a (R,wq) t).1 (T8 hk a (R,wq) t).2):=by
 obtain⟨U,z⟩:=t
 by_cases Dz:U=DW
 .subst Dz
  cases z with
  | inl j=>
   have:DW=fi "page":=eW ok;exact absurd this (by decide +kernel)
  | inr b=>
   have B:=U9 (C:=C) (a:=.var 7) (b:=.var 2) (σ:=sR m0.length st on (bf hk g) (aV (.str a)) (aV (.str DW)) (aV (.str b))) (m:=mR m0 R wq) (x:=.str b) (y:=bf hk g) rfl rfl rfl rfl;have Y:=U9 (C:=C) (a:=.var 7) (b:=.var 3) (σ:=sR m0.length st on (bf hk g) (aV (.str a)) (aV (.str DW)) (aV (.str b))) (m:=mR m0 R wq) (x:=.str b) (y:=.aI m0.length) rfl rfl (aB Ep) rfl;have e1:(G5 (DP hk) (HJ hk g) (.inr b)).isSome=eH (b∈hk):=by
    by_cases h:b∈hk
    .rw[JK h,cz h];rfl
    .rw[U6 h,df h];rfl
   rw[e1]at B;rw[NS]at Y;have O:et C (.and (.val (.cmp .eq (.var 6) (.con (.str "name")))) (.and (.val (.oT (.var 7) (.var 2))) (.val (.oT (.var 7) (.var 3))))) (sR m0.length st on (bf hk g) (aV (.str a)) (aV (.str DW)) (aV (.str b))) (mR m0 R wq)=aV (!decide (b∈hk)&&!decide (b∈R.map (·.1)),mR m0 R wq):=by
    refine K5 (JZ (p:=DW=fi "name") rfl rfl) ?_
    by_cases h:b∈hk
    .rw[cz h]at B ⊢
     exact N6 (FP B rfl)
    .rw[df h]at B ⊢
     exact K5 (FP B rfl) (FP Y rfl)
   by_cases h:b∉hk/\b∉R.map (·.1)
   .have G:T8 hk a (R,wq) (DW,.inr b)=(R++[(b,.str a)],wq++[b]):=ah ⟨rfl,h⟩
    rw[G];rw[df h.1,df h.2]at O;have hR:(CW R).length<10000:=by unfold CW;rw[a6];lia
    exact K3 O (iU (z:=.str a) (y:=.str b) (i:=m0.length) rfl rfl rfl Ep rfl rfl hR (by
     rw[P7 h.2,S0];exact IW (Fx (d:=.str b) rfl rfl Er rfl (by rw[a6];lia)) (Q6 (Gy (by simp))))) rfl
   .have G:T8 hk a (R,wq) (DW,.inr b)=(R,wq):=ak λq=>h q.2
    rw[G];have:(!decide (b∈hk)&&!decide (b∈R.map (·.1)))=en:=by
     by_cases h1:b∈hk
     .rw[cz h1];rfl
     .by_cases Z:b∈R.map (·.1)
      .rw[cz Z,Bool.and_comm];rfl
      .exact absurd ⟨h1,Z⟩ h
    rw[this]at O;exact DX O rfl
 .have G:T8 hk a (R,wq) (U,z)=(R,wq):=by
   cases z with
   | inl j=>rfl
   | inr b=>exact ak λq=>Dz q.1
  rw[G];exact DX (N6 (J6 (p:=U=fi "name") rfl Dz)) rfl
theorem E7{a:Str}{ys:List D}:∀(ts:List (Str×Key)) (R:List (Str×D)) (wq:List Str) (x6 x7:Option D),(∀t∈ts,MP (a,t)=cf)->R.length+ts.length<1000->wq.length+ts.length<1000->∃G B,forL ⟨ys,a0⟩ (.tp [.nm 6,.nm 7]) (λ σ m=>aT C W B7 σ m) (ts.map ff) (sR m0.length st on (bf hk g) (aV (.str a)) x6 x7) (mR m0 R wq)=aV (.nx (sR m0.length st on (bf hk g) (aV (.str a)) G B),mR m0 (ts.foldl (T8 hk a) (R,wq)).1 (ts.foldl (T8 hk a) (R,wq)).2)
 | [],R,wq,x6,x7,_,_,_=>⟨x6,x7,K8 rfl⟩
 | t::ts,R,wq,x6,x7,ok,hl,O=>by
  rw[hJ]at hl O;have e:=PV (C:=C) (W:=W) (m0:=m0) (st:=st) (on:=on) (hk:=hk) (g:=g) (R:=R) (wq:=wq) (ok t bw) (by lia) (by lia);have Z:(T8 hk a (R,wq) t).1.length<=R.length+1/\(T8 hk a (R,wq) t).2.length<=wq.length+1:=by
   unfold T8;split
   .split
    .simp
    .simp
   .simp
  obtain⟨G,B,Y⟩:=E7 (a:=a) (ys:=ys) ts (T8 hk a (R,wq) t).1 (T8 hk a (R,wq) t).2 (aV (.str t.1)) (aV (eK t.2)) (λu U=>ok u (bx _ U)) (by lia) (by lia);refine⟨G,B,?_⟩;rw[As];exact HX (σ1:=sR m0.length st on (bf hk g) (aV (.str a)) (aV (.str t.1)) (aV (eK t.2))) rfl rfl e Y
end
theorem Oq{a:Ex}{d:D}{r:List D}(h:ev C a σ m=aV (.aI i,m))(B:m[i]?=aV (.lst (d::r))):ev C (.EB a) σ m=aV (d,m.set i (.lst r)):=by
 show (ev C a σ m).bind _=_;rw[h,bS];show (match m[i]? with
   | some (.lst (d::r))=>aV (d,m.set i (.lst r))
   | _=>a0)=_
 rw[B]
section
variable{st:D}
theorem E6{ks:List FK}{nm s0:List Str}(h4:nm.length=4)(hV:∀k∈ks,k∈univ nm)(O:ks.length<=100):∀(w U:Nat) (R:List (Str×D)) (wq:List Str) (x5 x6 x7:Option D),BI ks hk nm s0 R wq->2*(4-R.length)+wq.length<=U->U<w->U<=20->∃jj y5 Z Y,BI ks hk nm s0 jj []/\RM (et C (.val (.var 4))) (λ σ m=>aT C W wB σ m) w (sR m0.length st (JG (ks.foldl GC [])) (bf hk g) x5 x6 x7) (mR m0 R wq)=aV (.nx (sR m0.length st (JG (ks.foldl GC [])) (bf hk g) y5 Z Y),mR m0 jj [])
 | 0,U,R,wq,x5,x6,x7,B,G,hw,_=>absurd hw (ki _)
 | w+1,U,R,wq,x5,x6,x7,B,G,hw,Z3=>by
  have HV:R.length<=4:=by
   have:=B.nd.length_le_of_subset B.sub;rw[a6]at this;lia
  have pj:et C (.val (.var 4)) (sR m0.length st (JG (ks.foldl GC [])) (bf hk g) x5 x6 x7) (mR m0 R wq)=aV (!(wq.map D.str).isEmpty,mR m0 R wq):=FP rfl (lZ Er);cases wq with
  | nil=>
   refine⟨R,x5,x6,x7,B,?_⟩;rw[RM,pj];rfl
  | cons a wq=>
   obtain⟨E,e1,e2,e3,e4⟩:=rK (hk:=hk) (a:=a) (K6 ks a) R wq B.nd;have aaw:(K6 ks a).length<=100:=by
    unfold K6;rw[a6];exact fN (List.length_filter_le _ _) O
   rw[hJ]at G;have aas:wq.length<=20:=by lia
   obtain⟨Z,Y,f1⟩:=E7 (C:=C) (W:=W) (m0:=m0) (st:=st) (on:=JG (ks.foldl GC [])) (hk:=hk) (g:=g) (a:=a) (ys:=(K6 ks a).map ff) (K6 ks a) R wq x6 x7 (λt ht=>TV _ (hV _ (ph.mp ht))) (by lia) (by lia);rw[e1]at f1;have Cp:=OT B (λk dC b hb=>by
    have:=hV k dC;obtain⟨y,hy,G⟩:=List.mem_flatMap.mp this;rcases dg G with G | G
    .simp only[h7,jI,or_false]at G
     rcases G with rfl | rfl | rfl<;>cases hb
    .obtain⟨x,hx,rfl⟩:=ck G
     cases hb;exact hx) e2 e3 e4
   have aae:R.length+E.length<=4:=by
    have:=Cp.nd.length_le_of_subset Cp.sub;rw[a6,fA,a6]at this;lia
   obtain⟨jj,z5,z6,z7,b1,b2⟩:=E6 h4 hV O w (U-1) _ _ (aV (.str a)) Z Y Cp (by rw[fA,fA,a6];lia) (by lia) (by lia);refine⟨jj,z5,z6,z7,b1,?_⟩;have AD:ev C (.get (.var 1) (.var 5) (.lst en .nil)) (sR m0.length st (JG (ks.foldl GC [])) (bf hk g) (aV (.str a)) x6 x7) (mR m0 R wq)=aV (.lst ((K6 ks a).map ff),mR m0 R wq):=by
    rw[<-vG,Ga];exact bA (x:=.ao (CW (aR (ks.foldl GC []))) (CZ (aR (ks.foldl GC [])))) (y:=.str a) (u:=.lst []) rfl rfl rfl rfl rfl
   have mv:aT C W wB (sR m0.length st (JG (ks.foldl GC [])) (bf hk g) x5 x6 x7) (mR m0 R (a::wq))=aV (.nx (sR m0.length st (JG (ks.foldl GC [])) (bf hk g) (aV (.str a)) Z Y),mR m0 (R++E.map (λb=>(b,D.str a))) (wq++E)):=by
    refine CN (Oq (d:=.str a) (r:=wq.map .str) rfl Er) ?_;rw[Gy rfl];exact M6 (b:=B7) (w:=⟨(K6 ks a).map ff,a0⟩) (m1:=mR m0 R wq) (N7 AD) f1 rfl
   rw[RM,pj];show (aT C W wB _ _).bind _=_;rw[mv];exact b2
theorem oO{z:D}(C:s0.Nodup)(hl:s0.length<=1000)(mu:Bool)(m:Mem):cw (.Al mu) (.lst (s0.map λa=>.tup [.str a,z])) m=aV (iN mu (CW (s0.map λa=>(a,z))) (CZ (s0.map λa=>(a,z))) m):=by
 have U:∀l:List Str,pairsOf (l.map λa=>D.tup [.str a,z])=aV (CW (l.map λa=>(a,z)),CZ (l.map λa=>(a,z))):=λl=>by
  induction l with
  | nil=>rfl
  | cons a r B=>
   rw[cj,pairsOf,B];rfl
 have O:(CW (s0.map λa=>(a,z))).Nodup:=by
  unfold CW;rw[b6];exact List.Pairwise.map _ (λa b (h:a≠b) q=>h (j1 q)) C
 have G:FQ [] [] (CW (s0.map λa=>(a,z))) (CZ (s0.map λa=>(a,z)))=(CW (s0.map λa=>(a,z)),CZ (s0.map λa=>(a,z))):=by
  have:=jG (r:=CW (s0.map λa=>(a,z))) (q:=CZ (s0.map λa=>(a,z))) (ks:=[]) (vs:=[]) (by simp[CW,CZ]) O (by simp);simpa using this
 show ((G4 (.lst (s0.map λa=>D.tup [.str a,z])) m).bind λxs=>(pairsOf xs).bind λq=>if q.1.length<=1000 then aV (iN mu (FQ [] [] q.1 q.2).1 (FQ [] [] q.1 q.2).2 m) else a0)=_;show ((pairsOf (s0.map λa=>D.tup [.str a,z])).bind λq=>if q.1.length<=1000 then aV (iN mu (FQ [] [] q.1 q.2).1 (FQ [] [] q.1 q.2).2 m) else a0)=_;rw[U,bS,ah (by simpa[CW] using hl),G]
theorem yM(B:BI ks hk nm s0 R wq):D.clean.cK (CZ R)=cf:=by
 have:∀l:List (Str×D),(∀p∈l,p.2=.aE\/∃b,p.2=.str b)->D.clean.cK (CZ l)=cf:=λl=>by
  induction l with
  | nil=>exact λ_=>rfl
  | cons p r C=>
   intro h;show (D.clean p.2&&D.clean.cK (CZ r))=cf;rw[C λq G=>h q (bx _ G)];rcases h p bw with e | ⟨b,e⟩<;>rw[e]<;>rfl
 refine this R λp hp=>?_
 obtain⟨i,hi,e⟩:=kR hp;rcases B.par i p (by rw[eg hi,e]) with ⟨h,_⟩ | ⟨b,h,_⟩
 .exact .inl h
 .exact .inr ⟨b,h⟩
theorem yV(H:dW ae)(O:nm.length=4)(Y:∀k∈ks,k∈univ nm)(G:ks.length<=100)(hs:s0.Nodup)(Ja:∀a∈s0,a∈nm)(hW:100<W)(m:Mem):∃R,BI ks hk nm s0 R []/\BZ W ae (n+1) "names_reached" [.lst (s0.map .str),JG (ks.foldl GC []),bf hk g] m=aV (.ao (CW R) (CZ R),m):=by
 have kx:s0.length<=4:=by rw[<-O];exact hs.length_le_of_subset Ja
 have B:(s0.map λa=>(a,D.aE)).map (·.1)=s0:=by
  rw[b6];exact List.map_id'' (λ_=>rfl) s0
 have B0:BI ks hk nm s0 (s0.map λa=>(a,D.aE)) s0:=⟨by rw[B];exact hs,by rw[B];exact Ja,by rw[B];exact λa h=>h,by rw[B];exact λa h=>h,λi p e=>by
  rw[fc]at e;obtain⟨a,U,rfl⟩:=bX e;exact .inl ⟨rfl,gL U⟩,by rw[B];exact λa h=>.st h,by rw[B];exact λa h1 Z=>absurd h1 Z⟩
 obtain⟨R,y5,y6,y7,b1,b2⟩:=E6 (C:=BZ W ae n) (W:=W) (m0:=m) (st:=.lst (s0.map .str)) (g:=g) O Y G W 12 _ _ a0 a0 a0 B0 (by rw[a6];lia) (by lia) (by lia);refine⟨R,b1,?_⟩;have d6:=yM b1;have comp:ev (BZ W ae n) (.comp en 1 (.nm 8) (.seq (.var 0)) .tt (.tup (.cons (.var 8) (.cons (.con .aE) .nil)))) [aV (.lst (s0.map .str)),aV (JG (ks.foldl GC [])),aV (bf hk g),a0,a0,a0,a0,a0] m=aV (.lst (s0.map λa=>.tup [.str a,.aE]),m):=by
  rw[JF (xs:=s0) (dd:=.str) (h:=λa=>aV (.tup [.str a,.aE])) rfl rfl (by lia)]
  .rw[r8]
  .intro a _
   refine⟨[aV (.lst (s0.map .str)),aV (JG (ks.foldl GC [])),aV (bf hk g),a0,a0,a0,a0,a0,aV (.str a)],cf,rfl,rfl,?_⟩;rw[ah rfl];exact⟨rfl,rfl⟩
 rw[NQ H.XZ rfl];have E:aT (BZ W ae n) W xg.body ([D.lst (s0.map .str),JG (ks.foldl GC []),bf hk g].map aV++i5 (xg.ns-xg.ps) a0) m=aV (.rt (.aI m.length),mR m R []):=by
  refine CN (d:=.aI m.length) (m1:=m++[.ao (CW (s0.map λa=>(a,D.aE))) (CZ (s0.map λa=>(a,D.aE)))]) (G8 comp (oO hs (by lia) cf m)) ?_;refine CN (d:=.aI (m.length+1)) (m1:=mR m (s0.map λa=>(a,D.aE)) s0) ?_ ?_
  .refine G8 rfl ?_
   show aV (bj cf (s0.map .str) (m++[.ao (CW (s0.map λa=>(a,D.aE))) (CZ (s0.map λa=>(a,D.aE)))]))=_;simp[bj,mR]
  .exact pY b2 (DQ rfl)
 rw[E];show (outD m.length (mR m R []) (.aI m.length)).map _=_;have:outD m.length (mR m R []) (.aI m.length)=aV (.ao (CW R) (CZ R)):=by
  show (if m.length<m.length then a0 else match (mR m R [])[m.length]? with
   | some (.lst xs)=>if D.clean.cK xs then aV (D.lst xs) else a0
   | some (.ao ks vs)=>if D.clean.cK vs then aV (D.ao ks vs) else a0
   | _=>a0)=_
  rw[ak (iA _),Ep];show (if D.clean.cK (CZ R) then _ else _)=_;rw[d6];rfl
 rw[this];simp[mR]
end
noncomputable def pD:bz:=match K1 2 pI with | .cons (.dA _ b) _=>b | s=>s
noncomputable def sY(b:Nat)(nm C:D)(B:Option D):DS:=[aV nm,aV C,aV (.aI b),B]
noncomputable def mY(m0:Mem)(acc:List Str):Mem:=m0++[.lst (acc.map .str)]
theorem Jz{acc:List Str}:(mY m0 acc)[m0.length]?=aV (.lst (acc.map .str)):=by simp[mY]
theorem WV{acc:List Str}:(mY m0 acc).set m0.length (.lst (acc.map .str++[.str a]))=mY m0 (acc++[a]):=by simp[mY]
theorem T3{a b:Ex}{x y d:D}{ks:List Key}{k:Key}(G:ev C a σ m=aV (x,m))(B:ev C b σ m=aV (y,m))(hd:HF x m=aV (ks,vs))(hk:N5 y=aV k)(hl:G5 ks vs k=aV d):ev C (.qz a b) σ m=aV (d,m):=by
 show (ev C a σ m).bind _=_;rw[G,bS];show (ev C b σ m).bind _=_;rw[B,bS];show (HF x m).bind _=_;rw[hd,bS];show (N5 y).bind _=_;rw[hk,bS];show (G5 ks vs k).map _=_;rw[hl];rfl
theorem rQ:∀l:List Str,D.clean.cK (l.map .str)=cf
 | []=>rfl
 | a::r=>rQ r
theorem zM(B:BI ks hk nm s0 R []){m0:Mem}{uu:D}:∀(i w:Nat) (a:Str) (acc:List Str),a∈(R.take i).map (·.1)->i<w->acc.length+i<=1000->∃ws,Way ks s0 a ws/\ws.length<=i/\RM (et C (.val (.cmp .sD (.var 3) (.con .aE)))) (λ σ m=>aT C W pD σ m) w (sY m0.length uu (.ao (CW R) (CZ R)) (aV (.str a))) (mY m0 acc)=aV (.nx (sY m0.length uu (.ao (CW R) (CZ R)) (aV .aE)),mY m0 (acc++ws.reverse))
 | 0,w,a,acc,h,_,_=>by simp at h
 | i+1,0,a,acc,_,O,_=>absurd O (ki _)
 | i+1,w+1,a,acc,h,O,hl=>by
  obtain⟨p,hp,rfl⟩:=ck h;obtain⟨j,hj,U⟩:=kR hp;rw[zl]at hj;have Vp:j<R.length:=by lia
  have ep:R[j]?=aV p:=by
   rw[List.getElem_take]at U;rw[eg Vp,U]
  have VA:G5 (CW R) (CZ R) (.inr p.1)=aV p.2:=BN B.nd (gL ep);have step:aT C W pD (sY m0.length uu (.ao (CW R) (CZ R)) (aV (.str p.1))) (mY m0 acc)=aV (.nx (sY m0.length uu (.ao (CW R) (CZ R)) (aV p.2)),mY m0 (acc++[p.1])):=by
   refine IW (Fx (d:=.str p.1) rfl rfl Jz rfl (by rw[a6];lia)) ?_;rw[WV];exact CN (T3 (x:=.ao (CW R) (CZ R)) (y:=.str p.1) rfl rfl rfl rfl VA) rfl
  have go:∀{X},RM (et C (.val (.cmp .sD (.var 3) (.con .aE)))) (λ σ m=>aT C W pD σ m) w (sY m0.length uu (.ao (CW R) (CZ R)) (aV p.2)) (mY m0 (acc++[p.1]))=X->RM (et C (.val (.cmp .sD (.var 3) (.con .aE)))) (λ σ m=>aT C W pD σ m) (w+1) (sY m0.length uu (.ao (CW R) (CZ R)) (aV (.str p.1))) (mY m0 acc)=X:=λ {X} h=>by
   rw[RM];show (aT C W pD _ _).bind _=_;rw[step];exact h
  rcases B.par j p ep with ⟨e,hs⟩ | ⟨b,e,hb,hf⟩
  .obtain⟨G,rfl⟩:∃G,w=G+1:=⟨w-1,by lia⟩
   refine⟨[p.1],.st hs,by simp,go ?_⟩;rw[e,RM];rfl
  .have Y:b∈(R.take i).map (·.1):=by
    obtain⟨q,Z,rfl⟩:=ck hb;refine gh ?_;exact(List.take_subset_take_left R (by lia)) Z
   obtain⟨ws,h1,l1,e1⟩:=zM B i w b (acc++[p.1]) Y (by lia) (by rw[fA,nI];lia);refine⟨ws++[p.1],.go h1 hf (by lia),by rw[fA,nI];lia,go ?_⟩;rw[e,e1,List.reverse_append,vk];rfl
theorem SA(H:dW ae)(B:BI ks hk nm s0 R [])(hR:R.length<=4)(hW:100<W)(U:a∈R.map (·.1))(m:Mem):∃ws,Way ks s0 a ws/\BZ W ae (n+1) "way_to" [.str a,.ao (CW R) (CZ R)] m=aV (.tup (ws.map .str),m):=by
 obtain⟨ws,Y,Z,G⟩:=zM (C:=BZ W ae n) (W:=W) B (m0:=m) (uu:=.str a) R.length W a [] (by rw[List.take_length];exact U) (by lia) (by simp;lia);rw[List.nil_append]at G;refine⟨ws,Y,?_⟩;have O:cw .Br (.aI m.length) (mY m ws.reverse)=aV (.tup (ws.map .str),mY m ws.reverse):=by
  show ((match (mY m ws.reverse)[m.length]? with | some (.lst xs)=>aV xs | _=>a0).bind λxs=>if xs.length<=1000 then aV (D.tup xs.reverse,mY m ws.reverse) else a0)=_;rw[Jz,bS,ah (by rw[a6,List.length_reverse];lia),List.map_reverse,List.reverse_reverse]
 exact NT (q:=[.lst (ws.reverse.map .str)]) H.way rfl (rQ ws) (CN (d:=.aI m.length) (m1:=mY m []) rfl (CN rfl (pY G (DQ (G8 rfl O)))))
noncomputable def V4(hk:List Str)(g:Str->Int)(v:Int)(t:Str×Key):Bool:=match t.2 with
 | .inl j=>eH (j<v)
 | .inr b=>eH ((if b∈hk then g b else v)<v)
noncomputable def lg(ws:List Str)(t:Str×Key):D:=.tup [.str "trail",.tup (ws.map .str),ff t]
theorem oY(ws:List Str)(t:Str×Key):(lg ws t).clean=cf:=by
 show (D.clean.cK (ws.map D.str)&&((ff t).clean&&cf))=cf;rw[rQ];obtain⟨B,z | z⟩:=t<;>rfl
noncomputable def cZ:bz:=ou XF
noncomputable def gY:bz:=ou cZ
theorem OQ(H:dW ae)(ok:MP (a,t)=cf):BZ W ae (n+1) "is_below" [ff t,.int v,bf hk g] m=aV (.bl (V4 hk g v t),m):=by
 obtain⟨B,z | z⟩:=t
 .have:B=fi "page":=eW ok
  subst this;refine FJ H.below rfl rfl ?_;exact HY (JZ (p:=("page":Str)="page") rfl rfl) (DQ rfl)
 .have G:¬B=fi "page":=by simpa[MP] using ok
  refine FJ H.below rfl rfl ?_;have C:ev (BZ W ae n) (.get (.var 2) (.ix (.var 0) (.con (.int 1))) (.var 1)) [aV (.tup [.str B,.str z]),aV (.int v),aV (bf hk g)] m=aV (.int (if z∈hk then g z else v),m):=by
   rw[bA (x:=bf hk g) (y:=.str z) (u:=.int v) (ks:=DP hk) (vs:=HJ hk g) (kk:=.inr z) rfl rfl rfl rfl rfl]
   by_cases h:z∈hk
   .rw[JK h,ah h];rfl
   .rw[U6 h,ak h];rfl
  exact DX (J6 rfl G) (DQ (J0 C rfl rfl))
noncomputable def sT(v:Int)(B on tl:D)(x4 x5:Option D):DS:=[aV (.int v),aV B,aV on,aV tl,x4,x5]
theorem zR(H:dW ae)(B:BI ks hk nm s0 R [])(hR:R.length<=4)(hW:100<W){on:D}{a:Str}(ha:a∈R.map (·.1)){ys:List D}:∀(ts:List (Str×Key)) (x5:Option D),(∀t∈ts,MP (a,t)=cf)->(∃Z,forL ⟨ys,a0⟩ (.nm 5) (λ σ m=>aT (BZ W ae (n+1)) W gY σ m) (ts.map ff) (sT v (.ao (CW R) (CZ R)) on (bf hk g) (aV (.str a)) x5) m=aV (.nx (sT v (.ao (CW R) (CZ R)) on (bf hk g) (aV (.str a)) Z),m)/\∀t∈ts,V4 hk g v t=en)\/∃ws,∃t∈ts,Way ks s0 a ws/\V4 hk g v t=cf/\forL ⟨ys,a0⟩ (.nm 5) (λ σ m=>aT (BZ W ae (n+1)) W gY σ m) (ts.map ff) (sT v (.ao (CW R) (CZ R)) on (bf hk g) (aV (.str a)) x5) m=aV (.rt (lg ws t),m)
 | [],x5,_=>.inl ⟨x5,K8 rfl,λt ht=>(nomatch ht)⟩
 | t::ts,x5,ok=>by
  have hb:=OQ (W:=W) (n:=n) (m:=m) (hk:=hk) (g:=g) (v:=v) H (ok t bw);have O:et (BZ W ae (n+1)) (.val (.call "is_below" (.cons (.var 5) (.cons (.var 0) (.cons (.var 3) .nil))))) (sT v (.ao (CW R) (CZ R)) on (bf hk g) (aV (.str a)) (aV (ff t))) m=aV (V4 hk g v t,m):=FP (CG hb rfl) rfl;have t7:JL (.nm 5) (ff t) (sT v (.ao (CW R) (CZ R)) on (bf hk g) (aV (.str a)) x5)=aV (sT v (.ao (CW R) (CZ R)) on (bf hk g) (aV (.str a)) (aV (ff t))):=rfl;cases U:V4 hk g v t with
  | true=>
   rw[U]at O;obtain⟨ws,hw,G⟩:=SA (W:=W) (n:=n) H B hR hW ha m;refine .inr ⟨ws,t,bw,hw,U,?_⟩
   .have Y:aT (BZ W ae (n+1)) W gY (sT v (.ao (CW R) (CZ R)) on (bf hk g) (aV (.str a)) (aV (ff t))) m=aV (.rt (lg ws t),m):=HY O (DQ (HD (BW rfl (BW (CG G rfl) (BW rfl rfl))) (by simp)))
    rw[cj,forL,ah (show Walk.ok ⟨ys,a0⟩ m=cf from rfl),t7,bS,Y];rfl
  | false=>
   rw[U]at O;have Y:aT (BZ W ae (n+1)) W gY (sT v (.ao (CW R) (CZ R)) on (bf hk g) (aV (.str a)) (aV (ff t))) m=aV (.nx (sT v (.ao (CW R) (CZ R)) on (bf hk g) (aV (.str a)) (aV (ff t))),m):=DX O rfl;rcases zR H B hR hW ha ts (aV (ff t)) (λu C=>ok u (bx _ C)) with ⟨Z,G,e2⟩ | ⟨ws,u,C,hw,US,G⟩
   .refine .inl ⟨Z,?_,λu C=>?_⟩
    .rw[cj]
     exact HX rfl t7 Y G
    .rcases cq C with rfl | C
     .exact U
     .exact e2 u C
   .refine .inr ⟨ws,u,bx _ C,hw,US,?_⟩
    rw[cj];exact HX rfl t7 Y G
theorem EV(H:dW ae)(hV:∀k∈ks,MP k=cf)(B:BI ks hk nm s0 R [])(hR:R.length<=4)(hW:100<W){ys:List D}:∀(as:List Str) (x4 x5:Option D),(∀a∈as,a∈R.map (·.1))->(∃y4 O,forL ⟨ys,a0⟩ (.nm 4) (λ σ m=>aT (BZ W ae (n+1)) W cZ σ m) (as.map .str) (sT v (.ao (CW R) (CZ R)) (JG (ks.foldl GC [])) (bf hk g) x4 x5) m=aV (.nx (sT v (.ao (CW R) (CZ R)) (JG (ks.foldl GC [])) (bf hk g) y4 O),m)/\∀a∈as,∀t∈K6 ks a,V4 hk g v t=en)\/∃a ws t,a∈as/\t∈K6 ks a/\Way ks s0 a ws/\V4 hk g v t=cf/\forL ⟨ys,a0⟩ (.nm 4) (λ σ m=>aT (BZ W ae (n+1)) W cZ σ m) (as.map .str) (sT v (.ao (CW R) (CZ R)) (JG (ks.foldl GC [])) (bf hk g) x4 x5) m=aV (.rt (lg ws t),m)
 | [],x4,x5,_=>.inl ⟨x4,x5,K8 rfl,λt C=>(nomatch C)⟩
 | a::as,x4,x5,dr=>by
  have AD:ev (BZ W ae (n+1)) (.get (.var 2) (.var 4) (.lst en .nil)) (sT v (.ao (CW R) (CZ R)) (JG (ks.foldl GC [])) (bf hk g) (aV (.str a)) x5) m=aV (.lst ((K6 ks a).map ff),m):=by
   rw[<-vG,Ga];exact bA (x:=.ao (CW (aR (ks.foldl GC []))) (CZ (aR (ks.foldl GC [])))) (y:=.str a) (u:=.lst []) rfl rfl rfl rfl rfl
  have Y:JL (.nm 4) (.str a) (sT v (.ao (CW R) (CZ R)) (JG (ks.foldl GC [])) (bf hk g) x4 x5)=aV (sT v (.ao (CW R) (CZ R)) (JG (ks.foldl GC [])) (bf hk g) (aV (.str a)) x5):=rfl;rcases zR (W:=W) (n:=n) (m:=m) (g:=g) (v:=v) H B hR hW (on:=JG (ks.foldl GC [])) (dr a bw) (ys:=(K6 ks a).map ff) (K6 ks a) x5 (λt C=>hV _ (ph.mp C)) with ⟨O,e1,e2⟩ | ⟨ws,t,C,hw,Z,e1⟩
  .have U:aT (BZ W ae (n+1)) W cZ (sT v (.ao (CW R) (CZ R)) (JG (ks.foldl GC [])) (bf hk g) (aV (.str a)) x5) m=aV (.nx (sT v (.ao (CW R) (CZ R)) (JG (ks.foldl GC [])) (bf hk g) (aV (.str a)) O),m):=M6 (b:=gY) (w:=⟨(K6 ks a).map ff,a0⟩) (m1:=m) (N7 AD) e1 rfl
   rcases EV H hV B hR hW as (aV (.str a)) O (λb G=>dr b (bx _ G)) with ⟨z4,z5,f1,f2⟩ | ⟨b,ws,t,G,q⟩
   .refine .inl ⟨z4,z5,?_,λb G=>?_⟩
    .rw[cj]
     exact HX rfl Y U f1
    .rcases cq G with rfl | G
     .exact e2
     .exact f2 b G
   .obtain⟨C,hw,Z,f1⟩:=q
    refine .inr ⟨b,ws,t,bx _ G,C,hw,Z,?_⟩;rw[cj];exact HX rfl Y U f1
  .refine .inr ⟨a,ws,t,bw,C,hw,Z,?_⟩
   have U:aT (BZ W ae (n+1)) W cZ (sT v (.ao (CW R) (CZ R)) (JG (ks.foldl GC [])) (bf hk g) (aV (.str a)) x5) m=aV (.rt (lg ws t),m):=by
    show (ex (BZ W ae (n+1)) W (.fr (.nm 5) (.seq (.get (.var 2) (.var 4) (.lst en .nil))) gY) _ m).bind _=_;rw[BC,N7 AD,bS];show (forL _ _ _ _ _ m).bind _=_;rw[e1];rfl
   rw[cj,forL,ah (show Walk.ok ⟨ys,a0⟩ m=cf from rfl),Y,bS,U];rfl
theorem OL(H:dW ae)(hV:∀k∈ks,MP k=cf)(B:BI ks hk nm s0 R [])(hR:R.length<=4)(hW:100<W):(BZ W ae (n+2) "trail_down" [.int v,.ao (CW R) (CZ R),JG (ks.foldl GC []),bf hk g] m=aV (.aE,m)/\∀a∈R.map (·.1),∀t∈K6 ks a,V4 hk g v t=en)\/∃a ws t,a∈R.map (·.1)/\t∈K6 ks a/\Way ks s0 a ws/\V4 hk g v t=cf/\BZ W ae (n+2) "trail_down" [.int v,.ao (CW R) (CZ R),JG (ks.foldl GC []),bf hk g] m=aV (lg ws t,m):=by
 have DA:(CW R).map eK=(R.map (·.1)).map .str:=by
  unfold CW;rw[b6,b6];rfl
 have G:ei (BZ W ae (n+1)) (.keys (.var 1)) (sT v (.ao (CW R) (CZ R)) (JG (ks.foldl GC [])) (bf hk g) a0 a0) m=aV (⟨(R.map (·.1)).map .str,a0⟩,m):=by
  rw[<-DA];rfl
 rcases EV (W:=W) (n:=n) (m:=m) (g:=g) (v:=v) H hV B hR hW (ys:=(R.map (·.1)).map .str) (R.map (·.1)) a0 a0 (λa h=>h) with ⟨y4,y5,C,e2⟩ | ⟨a,ws,t,Z,Y,U,O,C⟩
 .exact .inl ⟨FJ (n:=n+1) H.trail rfl rfl (M6 (b:=cZ) (w:=⟨(R.map λp:Str×D=>p.1).map D.str,a0⟩) (m1:=m) G C (DQ rfl)),e2⟩
 .refine .inr ⟨a,ws,t,Z,Y,U,O,FJ (n:=n+1) H.trail rfl (oY ws t) ?_⟩
  show (ex (BZ W ae (n+1)) W (.fr (.nm 4) (.keys (.var 1)) cZ) (sT v (.ao (CW R) (CZ R)) (JG (ks.foldl GC [])) (bf hk g) a0 a0) m).bind _=_;rw[BC,G,bS];show (forL _ _ _ _ _ m).bind _=_;rw[C];rfl
theorem jZ:∀l:List FK,QM (l.map fD)=aV l
 | []=>rfl
 | k::r=>by
  show ((ml (fD k)).bind λk=>(QM (r.map fD)).map λks=>k::ks)=_;rw[rN,jZ r];rfl
theorem Bt{x:FK}{r:List FK}:r.any (λy=>eH (y=x))=cf↔x∈r:=by
 rw[tT];exact⟨λ⟨y,B,e⟩=>eW e▸B,λh=>⟨x,h,cz rfl⟩⟩
theorem wu{x:FK}:∀{l:List FK},x∈JB l↔x∈l
 | []=>by simp[JB]
 | y::r=>by
  rw[JB]
  by_cases h:y∈r
  .rw[ah (Bt.mpr h),wu,h7]
   exact⟨.inr,λq=>q.elim (λe=>e▸h) id⟩
  .rw[ak λq=>h (Bt.mp q),h7,h7,wu]
theorem zh:∀l:List FK,(JB l).Nodup
 | []=>lu
 | y::r=>by
  rw[JB]
  by_cases h:y∈r
  .rw[ah (Bt.mpr h)];exact zh r
  .rw[ak λq=>h (Bt.mp q)];exact List.nodup_cons.mpr ⟨λq=>h (wu.mp q),zh r⟩
theorem wX(C:nm.length=4){l:List FK}(hs:∀k∈l,k∈univ nm){d:D}(hd:QF d m=aV (l.map fD)):cw (.Be en) d m=aV (.lst ((HN (JB l)).map fD),m):=by
 have B:=bG C;have hl:(JB l).length<=28:=by rw[<-B];exact(zh l).length_le_of_subset λk hk=>hs k (wu.mp hk)
 have aS:l.all MP=cf:=P2.mpr λk h=>TV k (hs k h)
 show ((QF d m).bind λxs=>(QM xs).bind λks=>if (JB ks).length<64/\ks.all MP=cf then aV (bj en ((HN (JB ks)).map fD) m) else a0)=_;rw[hd,bS,jZ,bS,ah ⟨by lia,aS⟩];rfl
theorem BY{Y U O G B:Option D}{s tt:Ex}{kd:Str}{z:Key}(hs:ev C s [Y,U,O,G,B] m=aV (.lst (l.map .str),m))(hl:l.length<=1000)(Z:∀y:Str,ev C tt [Y,U,O,G,B,aV (.str y)] m=aV (eK z,m)):
  ev C (.comp en 1 (.nm 5) (.seq s) .tt (.tup (.cons (.var 5) (.cons (.tup (.cons (.con (.str kd)) (.cons tt .nil))) .nil)))) [Y,U,O,G,B] m=aV (.lst ((l.map λy=>(y,kd,z)).map fD),m):=by
 rw[JF (xs:=l) (dd:=.str) (h:=λy=>aV (fD (y,kd,z))) rfl (N7 hs) hl]
 .rw[r8,b6];rfl
 .intro y _
  refine⟨[Y,U,O,G,B,aV (.str y)],cf,rfl,rfl,?_⟩;rw[ah rfl];exact⟨rfl,HD (BW rfl (BW (HD (BW rfl (BW (Z y) rfl)) (by simp)) rfl)) (by simp)⟩
noncomputable def sF(b:Nat)(eR:D)(cs:List Str)(B x4:Option D):DS:=[aV eR,aV (.lst (cs.map .str)),aV (.aI b),B,x4]
noncomputable def mF(m0:Mem)(acc:List FK):Mem:=m0++[MO.lst (acc.map fD)]
noncomputable def B9:bz:=ou (K1 1 pL)
theorem v5{acc:List FK}:(mF m0 acc)[m0.length]?=aV (.lst (acc.map fD)):=by simp[mF]
theorem ur{acc B:List FK}:(mF m0 acc).set m0.length (.lst (acc.map fD++B.map fD))=mF m0 (acc++B):=by simp[mF]
def zJ(W:Nat)(ae:String->Option Fn)(nm:List Str)(n:Nat)(b:Bl Str):Prop:=∀(B:List Str) (m:Mem),(∀y∈B,y∈nm)->B.length+16*b.dep<=100->∃ks:List FK,ks.Nodup/\(∀k,k∈ks↔k∈fe B b)/\ks.length<=28/\BZ W ae n "_law_flows" [.tup (dB b),.lst (B.map .str)] m=aV (.lst ((HN ks).map fD),m)
def Ca(W:Nat)(ae:String->Option Fn)(nm:List Str)(n:Nat):Dd Str->Prop
 | .put _ e=>e.dep<n/\e.dep<=4
 | .fq _ e=>e.dep<n/\e.dep<=4
 | .ite e b c=>(e.dep<n/\e.dep<=4)/\zJ W ae nm n b/\zJ W ae nm n c
 | .dA e b=>(e.dep<n/\e.dep<=4)/\zJ W ae nm n b
theorem w9(H:ae "_law_names_in" = aV J5){t:Tm Str}(h:t.dep<=4):t.names.length<=16:=by
 have C:=(KD (W:=0) (n:=t.dep+1) (m:=[]) H (t:=t) (by lia) (by lia)).1;have B:2 ^ t.dep<=2 ^ 4:=pg (by lia) h;lia
theorem aX(ks:List FK):(HN ks).length=ks.length/\∀k,k∈HN ks↔k∈ks:=⟨(jb ks _).length_eq,λk=>(jb ks _).mem_iff⟩
theorem NU(H:ae "_law_names_in" = aV J5){acc:List FK}{eR:D}{cs:List Str}(hc:∀y∈cs,y∈nm){x4:Option D}{d:Dd Str}(ho:d.Ok (·∈nm))(hs:Ca W ae nm n d)(hd:cs.length+16*d.dep<=100)(ha:acc.length<=90000):∃(ks:List FK) (y4:Option D),(∀k,k∈ks↔k∈i0 cs d)/\ks.length<=200/\aT (BZ W ae n) W B9 (sF m0.length eR cs (aV (dD d)) x4) (mF m0 acc)=aV (.nx (sF m0.length eR cs (aV (dD d)) y4),mF m0 (acc++ks)):=by
 have AM:∀{t:Tm Str} {j:Int} {x4:Option D} {m:Mem},t.dep<n->t.dep<=4->ke (dD d) (.int j) m=aV (dT t)->ev (BZ W ae n) (.cat en (.var 1) (.call "_law_names_in" (.cons (.ix (.var 3) (.con (.int j))) .nil))) (sF m0.length eR cs (aV (dD d)) x4) m=aV (.lst ((cs++t.names).map .str),m):=λ {t j x4 m} h1 h2 h3=>by
  have e:=(KD (W:=W) (n:=n) (m:=m) H (t:=t) h1 (by lia)).2;have Av:=w9 H h2;rw[gi];exact cQ (xs:=cs.map .str) rfl (CG e (BW (JR (d:=dD d) rfl rfl h3) rfl)) (by simp;lia)
 have G:∀l:List FK,D.clean.cK (l.map fD)=cf:=YX;cases d with
 | put x e=>
  have Av:=w9 H hs.2;have B:=BY (C:=BZ W ae n) (kd:=DW) (z:=.inr x) (tt:=.ix (.var 3) (.con (.int 1))) (AM (x4:=x4) (m:=mF m0 acc) (j:=2) hs.1 hs.2 rfl) (by simp;lia) (λy=>rfl);refine⟨(cs++e.names).map λy=>(y,DW,.inr x),x4,λk=>by rw[i0],by simp;lia,?_⟩;exact K3 (JZ (p:=("put":Str)="put") rfl rfl) (IW (cP rfl B v5 (G _) (by simp;lia)) (Q6 ur)) (DX (J6 (p:=("put":Str)="show") rfl (gX (by decide))) (DX (J6 (p:=("put":Str)="while") rfl (gX (by decide))) (DX (J6 (p:=("put":Str)="if") rfl (gX (by decide))) rfl)))
 | fq j e=>
  have Av:=w9 H hs.2;have B:=BY (C:=BZ W ae n) (kd:=JM) (z:=.inl j) (tt:=.ix (.var 3) (.con (.int 1))) (AM (x4:=x4) (m:=mF m0 acc) (j:=2) hs.1 hs.2 rfl) (by simp;lia) (λy=>rfl);refine⟨(cs++e.names).map λy=>(y,JM,.inl j),x4,λk=>by rw[i0],by simp;lia,?_⟩;exact DX (J6 (p:=("show":Str)="put") rfl (gX (by decide))) (K3 (JZ (p:=("show":Str)="show") rfl rfl) (IW (cP rfl B v5 (G _) (by simp;lia)) (Q6 ur)) (DX (J6 (p:=("show":Str)="while") rfl (gX (by decide))) (DX (J6 (p:=("show":Str)="if") rfl (gX (by decide))) rfl)))
 | dA e b=>
  have Av:=w9 H hs.1.2;simp only[Dd.dep]at hd;have B:=BY (C:=BZ W ae n) (kd:=JM) (z:=.inl 0) (tt:=.con (.int 0)) (AM (x4:=x4) (m:=mF m0 acc) (j:=1) hs.1.1 hs.1.2 rfl) (by simp;lia) (λy=>rfl);generalize hA:(cs++e.names).map (λy=>((y,JM,.inl 0):FK))=A1 at B;have aab:A1.length<=116:=by rw[<-hA];simp;lia
  obtain⟨ks,q1,U,q3,O⟩:=hs.2 cs (mF m0 (acc++A1)) hc (by lia);have Y:=aX ks;refine⟨A1++HN ks,x4,λk=>by rw[i0,lz,lz,Y.2,U,hA],by simp;lia,?_⟩;rw[<-vk];exact DX (J6 (p:=("while":Str)="put") rfl (gX (by decide))) (DX (J6 (p:=("while":Str)="show") rfl (gX (by decide))) (K3 (JZ (p:=("while":Str)="while") rfl rfl) (IW (cP rfl B v5 (G _) (by simp;lia)) (IW (cP rfl (by rw[ur];exact CG O rfl) (by rw[ur];exact v5) (G _) (by simp;lia)) (Q6 (by rw[ur,ur])))) (DX (J6 (p:=("while":Str)="if") rfl (gX (by decide))) rfl)))
 | ite e b c=>
  have Av:=w9 H hs.1.2;simp only[Dd.dep]at hd;have ku:∀y∈cs++e.names,y∈nm:=λy hy=>(dg hy).elim (hc y) (ho.1.names y)
  obtain⟨ks,q1,U,q3,O⟩:=hs.2.1 (cs++e.names) (mF m0 acc) ku (by rw[fA];lia);obtain⟨Z,r1,r2,r3,r4⟩:=hs.2.2 (cs++e.names) (mF m0 acc) ku (by rw[fA];lia);have Y:=aX ks;have Wm:=aX Z;refine⟨HN ks++HN Z,aV (.lst ((cs++e.names).map .str)),λk=>by rw[i0,lz,lz,Y.2,Wm.2,U,r2],by simp;lia,?_⟩;have B:ev (BZ W ae n) (.cat en (.call "_law_flows" (.cons (.ix (.var 3) (.con (.int 2))) (.cons (.var 4) .nil))) (.call "_law_flows" (.cons (.ix (.var 3) (.con (.int 3))) (.cons (.var 4) .nil)))) (sF m0.length eR cs (aV (dD (.ite e b c))) (aV (.lst ((cs++e.names).map .str)))) (mF m0 acc)=aV (.lst ((HN ks++HN Z).map fD),mF m0 acc):=by
   rw[gi (l₁:=HN ks)];exact cQ (CG O rfl) (CG r4 rfl) (by simp;lia)
  exact DX (J6 (p:=("if":Str)="put") rfl (gX (by decide))) (DX (J6 (p:=("if":Str)="show") rfl (gX (by decide))) (DX (J6 (p:=("if":Str)="while") rfl (gX (by decide))) (K3 (JZ (p:=("if":Str)="if") rfl rfl) (CN (AM (x4:=x4) (m:=mF m0 acc) (j:=1) hs.1.1 hs.1.2 rfl) (IW (cP rfl B v5 (G _) (by simp;lia)) (Q6 ur))) rfl)))
theorem v9(H:ae "_law_names_in" = aV J5){nm:List Str}{m0:Mem}{eR:D}{cs:List Str}(U:∀y∈cs,y∈nm){ys:List D}:∀(ds:List (Dd Str)) (acc:List FK) (B x4:Option D),(∀d∈ds,d.Ok (·∈nm)/\Ca W ae nm n d/\cs.length+16*d.dep<=100)->acc.length+200*ds.length<=90000->∃ks G C,(∀k,k∈ks↔k∈jY cs ds)/\forL ⟨ys,a0⟩ (.nm 3) (λ σ m=>aT (BZ W ae n) W B9 σ m) (ds.map dD) (sF m0.length eR cs B x4) (mF m0 acc)=aV (.nx (sF m0.length eR cs G C),mF m0 (acc++ks))
 | [],acc,B,x4,_,_=>⟨[],B,x4,λk=>by simp[jY],by simp[forL,Walk.ok]⟩
 | d::r,acc,B,x4,hd,hl=>by
  obtain⟨d1,d2,d3⟩:=hd d bw;rw[hJ]at hl;obtain⟨O,Y,a1,a2,a3⟩:=NU (W:=W) (n:=n) H (m0:=m0) (acc:=acc) (eR:=eR) U (x4:=x4) d1 d2 d3 (by lia);obtain⟨Z,G,C,b1,b2⟩:=v9 H (m0:=m0) (eR:=eR) U (ys:=ys) r (acc++O) (aV (dD d)) Y (λe he=>hd e (bx _ he)) (by rw[fA];lia);refine⟨O++Z,G,C,λk=>by simp only[jY,lz,a1,b1],?_⟩;rw[<-vk];exact HX (w:=⟨ys,a0⟩) (g:=.nm 3) (σ:=sF m0.length eR cs B x4) (σ1:=sF m0.length eR cs (aV (dD d)) x4) rfl rfl a3 b2
theorem LY(Hi:ae "_law_names_in" = aV J5)(H:ae "_law_flows" = aV dZ)(B:nm.length=4):∀(K n:Nat) (b:Bl Str),K<n->K<=4->b.Ok (·∈nm)->b.dep<=K->b.size<=200->zJ W ae nm (n+1) b:=by
 have C:∀(K n:Nat),K<n->K<=4->(∀b:Bl Str,b.Ok (·∈nm)->b.dep<K->b.size<=200->zJ W ae nm n b)->∀b:Bl Str,b.Ok (·∈nm)->b.dep<=K->b.size<=200->zJ W ae nm (n+1) b:=by
  intro K n Z xC G b Y hd hz cs m hc hl;have f7:∀d∈b.list,d.Ok (·∈nm)/\Ca W ae nm n d/\cs.length+16*d.dep<=100:=λd fF=>by
   have ya:=Bl.CB fF;have U:=fN ya hd;have O:=Y.mem d fF;have sj:d.size<=b.size:=by
    have:=mJ fF;rw[V8]at this;exact this
   refine⟨O,?_,by lia⟩;cases d with
   | put x e=>simp only[Dd.dep]at U;exact⟨by omega,by omega⟩
   | fq k e=>simp only[Dd.dep]at U;exact⟨by omega,by omega⟩
   | ite e c dh=>
    simp only[Dd.dep,Dd.size]at U sj;exact⟨⟨by lia,by lia⟩,G c O.2.1 (by lia) (by lia),G dh O.2.2 (by lia) (by lia)⟩
   | dA e c=>
    simp only[Dd.dep,Dd.size]at U sj;exact⟨⟨by lia,by lia⟩,G c O.2 (by lia) (by lia)⟩
  have DF:b.list.length<=b.size:=by
   have:=g8 b.list;rw[V8]at this;exact this
  obtain⟨ks,y3,y4,a1,a2⟩:=v9 (W:=W) (n:=n) (m0:=m) (eR:=.tup (dB b)) Hi hc (ys:=dB b) b.list [] a0 a0 f7 (by simp;lia);rw[List.nil_append,<-M8]at a2;have hk:∀k,k∈ks↔k∈fe cs b:=λk=>by rw[a1,jX]
  have Jb:∀k∈ks,k∈univ nm:=λk h=>K9 Y hc k ((hk k).mp h)
  have hs:=wX B Jb (d:=.aI m.length) (m:=mF m ks) (by
   show (match (mF m ks)[m.length]? with | some (.lst xs)=>aV xs | _=>a0)=_;rw[v5])
  refine⟨JB ks,zh ks,λk=>by rw[wu];exact hk k,?_,?_⟩
  .rw[<-bG B]
   exact(zh ks).length_le_of_subset λk h=>Jb k (wu.mp h)
  .exact NT (q:=[.lst (ks.map fD)]) H rfl (YX _) (CN (d:=.aI m.length) (m1:=mF m []) rfl (M6 (b:=B9) (w:=⟨dB b,a0⟩) rfl a2 (DQ (G8 rfl hs))))
 intro K
 induction K with
 | zero=>exact λn b Z B=>C 0 n Z B (λb _ h=>absurd h (ki _)) b
 | succ K G=>
  intro n b Z B;obtain⟨cn,rfl⟩:∃cn,n=cn+1:=⟨n-1,by lia⟩
  exact C (K+1) (cn+1) Z B (λc Y hd hm=>G cn c (by lia) (by lia) Y (by lia) hm) b
theorem FC{l:List D}(h:l.all (qE 58)=cf):cR (.lst l) (.lst l)=aV cf:=by
 obtain⟨p,Y,U,O⟩:=uN (k:=59) (d:=.tup l) h;obtain⟨ps,C,rfl⟩:=bX (show (bY l).map PyData.tuple=aV p from Y);have G:o4 (.lst l)=aV (.list ps):=by
  show (bY l).map PyData.list=_;rw[C];rfl
 have B:(PyData.list ps).canLay0=cf:=by simpa[PyData.canLay0] using U
 have Z:(PyData.list ps).depth<=60:=by simp only[PyData.depth]at O ⊢;lia
 unfold cR;rw[G,bS,bS,ah (by simp[B];lia),SeqAt.eqv_refl _ B]
theorem zY:∀t:Tm Str,jz t+1<=2 ^ (t.dep+1)
 | .num _=>by simp[jz,Tm.dep]
 | .hZ _=>by simp[jz,Tm.dep]
 | .bin _ a b=>by
  have O:=zY a;have G:=zY b;have C:2 ^ (a.dep+1)<=2 ^ (max a.dep b.dep+1):=pg (by lia) (by lia);have B:2 ^ (b.dep+1)<=2 ^ (max a.dep b.dep+1):=pg (by lia) (by lia);simp only[jz,Tm.dep];rw[Nat.pow_succ 2 (max a.dep b.dep+1)];lia
theorem tW{t:Tm Str}(h:t.dep<=4):jz t<=31:=by
 have C:=zY t;have B:2 ^ (t.dep+1)<=2 ^ 5:=pg (by lia) (by lia);lia
mutual
theorem Sv:∀d:Dd Str,d.dep<=4->mh d<=32*d.size
 | .put x e,h=>by
  have B:=tW (t:=e) h;simp only[mh,Dd.size];lia
 | .fq k e,h=>by
  have B:=tW (t:=e) h;simp only[mh,Dd.size];lia
 | .ite e b c,h=>by
  simp only[Dd.dep]at h;have B:=tW (t:=e) (by lia);have C:=iB b (by lia);have G:=iB c (by lia);simp only[mh,Dd.size];lia
 | .dA e b,h=>by
  simp only[Dd.dep]at h;have B:=tW (t:=e) (by lia);have C:=iB b (by lia);simp only[mh,Dd.size];lia
theorem iB:∀b:Bl Str,b.dep<=4->om b<=32*b.size
 | .nil,_=>eC _
 | .cons d b,h=>by
  simp only[Bl.dep]at h;have C:=Sv d (by lia);have B:=iB b (by lia);simp only[om,Bl.size];lia
end
section
variable{P:Str->Prop}{nk:List Str}
theorem YC:∀{t:Tm Str},t.Ok P->(∀x∈t.names,x∈nk)->t.Ok (·∈nk)
 | .num _,h,_=>h
 | .hZ x,_,h=>h x bw
 | .bin _ a b,C,h=>⟨YC C.1 λx B=>h x (iw _ B),YC C.2 λx B=>h x (iy _ B)⟩
mutual
theorem Q4:∀{d:Dd Str},d.Ok P->(∀x∈rn d,x∈nk)->d.Ok (·∈nk)
 | .put y e,C,h=>⟨h y bw,YC C.2 λx B=>h x (bx _ B)⟩
 | .fq l e,C,h=>⟨C.1,YC C.2 h⟩
 | .ite e b c,C,h=>⟨YC C.1 λx B=>h x (iw _ (iw _ B)),YZ C.2.1 λx B=>h x (iw _ (iy _ B)),YZ C.2.2 λx B=>h x (iy _ B)⟩
 | .dA e b,C,h=>⟨YC C.1 λx B=>h x (iw _ B),YZ C.2 λx B=>h x (iy _ B)⟩
theorem YZ:∀{b:Bl Str},b.Ok P->(∀x∈j0 b,x∈nk)->b.Ok (·∈nk)
 | .nil,_,_=>trivial
 | .cons d b,C,h=>⟨Q4 C.1 λx B=>h x (iw _ B),YZ C.2 λx B=>h x (iy _ B)⟩
end
mutual
theorem B4:∀{d:Dd Str},d.Ok P->∀x∈rn d,P x
 | .put y e,h,x,B=>by
  rcases cq B with rfl | B
  .exact h.1
  .exact h.2.names x B
 | .fq l e,h,x,B=>h.2.names x B
 | .ite e b c,h,x,B=>by
  rcases dg B with B | B
  .rcases dg B with B | B
   .exact h.1.names x B
   .exact gZ h.2.1 x B
  .exact gZ h.2.2 x B
 | .dA e b,h,x,B=>by
  rcases dg B with B | B
  .exact h.1.names x B
  .exact gZ h.2 x B
theorem gZ:∀{b:Bl Str},b.Ok P->∀x∈j0 b,P x
 | .nil,_,x,B=>nomatch B
 | .cons d b,h,x,B=>by
  rcases dg B with B | B
  .exact B4 h.1 x B
  .exact gZ h.2 x B
end
end
theorem QW(h:k∈univ nm):(∃j:Int,0<=j/\k.2=(JM,.inl j))\/∃b,b∈nm/\k.2=(DW,.inr b):=by
 obtain⟨y,_,h⟩:=List.mem_flatMap.mp h;rcases dg h with h | h
 .simp only[h7,jI,or_false]at h
  rcases h with rfl | rfl | rfl
  .exact .inl ⟨0,by decide,rfl⟩
  .exact .inl ⟨1,by decide,rfl⟩
  .exact .inl ⟨2,by decide,rfl⟩
 .obtain⟨x,B,rfl⟩:=ck h
  exact .inr ⟨x,B,rfl⟩
theorem yN(g:i8):(JG g).clean=cf:=by
 have C:∀t:List (Str×Key),D.clean.cK (t.map λt=>D.tup [.str t.1,eK t.2])=cf:=λt=>by
  induction t with
  | nil=>rfl
  | cons a r B=>
   show ((D.clean (eK a.2)&&cf)&&_)=cf;rw[B];rcases a.2 with z | z<;>rfl
 show D.clean.cK (g.map λp=>D.lst (p.2.map λt=>.tup [.str t.1,eK t.2]))=cf
 induction g with
 | nil=>rfl
 | cons a r B=>
  show (D.clean.cK (a.2.map λt=>D.tup [.str t.1,eK t.2])&&_)=cf;rw[C,B];rfl
theorem yS(H:dW ae)(hl:ks.length<=1000):BZ W ae (n+1) "targets_by_name" [.tup (ks.map fD)] m=aV (JG (ks.foldl GC []),m):=by
 refine FJ H.targets rfl (yN _) (DQ (G8 (d:=.tup (ks.map fD)) rfl ?_));show ((QM (ks.map fD)).bind λks=>if ks.length<=1000 then aV (JG (ks.foldl GC []),m) else a0)=_;rw[jZ,bS,ah hl]
theorem QR{a b:Ex}{ks B:List Key}{G:List D}(Z:ev C a σ m=aV (.aI i,m))(O:m[i]?=aV (.ao B G))(Y:ev C b σ m=aV (.ao ks vs,m))(U:D.clean.cK vs=cf)(hl:B.length+ks.length<=1000):ev C (.upd a b) σ m=aV (.aE,m.set i (.ao (FQ B G ks vs).1 (FQ B G ks vs).2)):=by
 show (ev C a σ m).bind _=_;rw[Z,bS];show (HF (.aI i) m).bind _=_;rw[aB O,bS];show (ev C b σ m).bind _=_;rw[Y,bS];show (match m[i]? with
   | some (.ao B G)=>if D.clean.cK vs&&eH (B.length+ks.length<=1000) then aV (D.aE,m.set i (.ao (FQ B G ks vs).1 (FQ B G ks vs).2)) else a0
   | _=>a0)=_
 rw[O];show (if (D.clean.cK vs&&eH (B.length+ks.length<=1000))=cf then _ else _)=_;rw[U,cz hl];rfl
theorem gQ(l:List Str)(f:Str->Int):D.clean.cK (HJ l f)=cf:=by
 induction l with
 | nil=>rfl
 | cons a r B=>exact B
noncomputable def sS(b:Nat)(pd hs tl on:D)(x5 x6 x7 x8 B:Option D):DS:=[aV pd,aV hs,aV tl,aV on,aV (.aI b),x5,x6,x7,x8,B]
noncomputable def mS(m0:Mem)(l:List Str)(f:Str->Int):Mem:=m0++[.ao (DP l) (HJ l f)]
theorem oS:(mS m0 l f)[m0.length]?=aV (.ao (DP l) (HJ l f)):=by simp[mS]
theorem Es{B:List Str}{C:Str->Int}:(mS m0 l f).set m0.length (.ao (DP B) (HJ B C))=mS m0 B C:=by simp[mS]
noncomputable def aD:bz:=ou (K1 4 QT)
noncomputable def B6:bz:=ou (K1 4 aD)
noncomputable def mx(v x:Int):Int:=if x > v then x else v
theorem o8(v x:Int):v<=mx v x/\x<=mx v x/\(mx v x=x\/mx v x=v):=by
 unfold mx;split<;>lia
theorem zL{pd hs tl on:D}{v:Int}{x6 x7 x8:Option D}{l:List Str}{ys:List D}(VC:l.length<=1000):∀(as:List Str) (f:Str->Int) (B:Option D),(∀a∈as,a∈l)->∃O,forL ⟨ys,a0⟩ (.nm 9) (λ σ m=>aT C W B6 σ m) (as.map .str) (sS m0.length pd hs tl on (aV (.int v)) x6 x7 x8 B) (mS m0 l f)=aV (.nx (sS m0.length pd hs tl on (aV (.int v)) x6 x7 x8 O),mS m0 l λa=>if a∈as then mx v (f a) else f a)
 | [],f,B,_=>⟨B,K8 rfl⟩
 | a::as,f,B,Z=>by
  have Y:=Z a bw;obtain⟨O,e⟩:=zL (pd:=pd) (hs:=hs) (tl:=tl) (on:=on) (v:=v) (x6:=x6) (x7:=x7) (x8:=x8) (ys:=ys) VC as (KQ f a (mx v (f a))) (aV (.str a)) λb hb=>Z b (bx _ hb)
  have ef:(λb=>if b∈as then mx v (KQ f a (mx v (f a)) b) else KQ f a (mx v (f a)) b)=λb=>if b∈a::as then mx v (f b) else f b:=by
   funext b;unfold KQ
   by_cases U:b=a
   .subst U
    rw[ah rfl,ah (show b∈b::as from bw)];have:mx v (mx v (f b))=mx v (f b):=by unfold mx;by_cases q:f b > v<;>simp[q]
    split
    .exact this
    .rfl
   .rw[ak U]
    by_cases G:b∈as
    .rw[ah G,ah (bx _ G)]
    .rw[ak G,ak λq=>(cq q).elim U G]
  rw[ef]at e;refine⟨O,?_⟩;have hv:ev C (.max2 (.var 5) (.qz (.var 4) (.var 9))) (sS m0.length pd hs tl on (aV (.int v)) x6 x7 x8 (aV (.str a))) (mS m0 l f)=aV (.int (mx v (f a)),mS m0 l f):=
   kE (C:=C) (e:=.var 5) (σ:=sS m0.length pd hs tl on (aV (.int v)) x6 x7 x8 (aV (.str a))) (m:=mS m0 l f) (i:=v) (j:=f a) rfl (T3 (a:=.var 4) (b:=.var 9) (x:=.aI m0.length) (y:=.str a) rfl rfl (aB oS) rfl (JK Y))
  have step:aT C W B6 (sS m0.length pd hs tl on (aV (.int v)) x6 x7 x8 (aV (.str a))) (mS m0 l f)=aV (.nx (sS m0.length pd hs tl on (aV (.int v)) x6 x7 x8 (aV (.str a))),mS m0 l (KQ f a (mx v (f a)))):=by
   refine iU (z:=.int (mx v (f a))) (y:=.str a) (i:=m0.length) hv rfl rfl oS rfl rfl (by unfold DP;rw[a6];lia) (Q6 ?_);rw[qT Y,Es]
  exact HX rfl rfl step e
theorem qJ(ps:List (Str×Int)):(G9 ps).map (·.1)=CQ (ps.map (·.1)):=
 yz (le:=λa b=>G6 a b=cf) (λa b _ _ C B=>T.zf C B)
  (L5.mpr (List.pairwise_mergeSort (le:=λp q:Str×Int=>G6 p.1 q.1) (λa b c C B=>m9 C B) (λa b=>fG _ _) ps)) (RZ _)
  (((jb ps _).map (·.1)).trans (jb _ _).symm)
theorem W5(l:List Str)(f:Str->Int):(G9 (l.map λa=>(a,f a))).map J1=CV (CQ l) f:=by
 have C:(l.map λa=>(a,f a)).map (·.1)=l:=by rw[b6];exact List.map_id'' (λ_=>rfl) l
 have:=qJ (l.map λa=>(a,f a));rw[C]at this;unfold CV;rw[<-this,b6];refine qe λp B=>?_
 obtain⟨a,_,rfl⟩:=ck ((jb _ _).mem_iff.mp B);rfl
theorem iZ(Y:nm.length=4)(C:ib nm l f):cw (.EH en) (.aI m0.length) (mS m0 l f)=aV (.lst (CV (CQ l) f),mS m0 l f):=by
 have G:l.length<=4:=by rw[<-Y];exact C.nd.length_le_of_subset C.sub
 have U:∀l:List Str,l.zip (l.map f)=l.map λa=>(a,f a):=λl=>by
  induction l with
  | nil=>rfl
  | cons a r O=>rw[cj,List.zip_cons_cons,O];rfl
 have e1:(DP l).map cw.kD=l.map .str:=by simp[DP,cw.kD]
 have Z:HJ l f=(l.map f).map .int:=by unfold HJ;rw[b6];rfl
 show ((HF (.aI m0.length) (mS m0 l f)).bind λq=>(strsOf (q.1.map cw.kD)).bind λB=>(intsOf q.2).bind λns=>if B.length<=4/\B.Nodup then aV (bj en ((G9 (B.zip ns)).map J1) (mS m0 l f)) else a0)=_;rw[aB oS,bS];show ((strsOf ((DP l).map cw.kD)).bind λB=>(intsOf (HJ l f)).bind λns=>if B.length<=4/\B.Nodup then aV (bj en ((G9 (B.zip ns)).map J1) (mS m0 l f)) else a0)=_;rw[e1,TX,bS,Z,ints_of,bS,ah ⟨G,C.nd⟩,U,W5];rfl
noncomputable def Fp(hk:List Str)(f:Str->Int):D:=.tup [.str "house",.tup (CV hk f)]
theorem oZ(hk:List Str)(f:Str->Int):(Fp hk f).clean=cf:=by
 show (D.clean.cK (CV hk f)&&cf)=cf;rw[show D.clean.cK (CV hk f)=cf from lA hk f];rfl
theorem uO{nm:List Str}{g:Str->Int}:∀(hk l:List Str) (f:Str->Int),ib nm l f->hk.Nodup->(∀x∈hk,x∈nm)->∃B G,FQ (DP l) (HJ l f) (DP hk) (HJ hk g)=(DP B,HJ B G)/\ib nm B G/\(∀a,a∈B↔a∈l\/a∈hk)/\∀a,G a=if a∈hk then g a else f a
 | [],l,f,Z,_,_=>⟨l,f,rfl,Z,λa=>by simp,λa=>rfl⟩
 | x::r,l,f,Z,Y,hs=>by
  obtain⟨hx,Y⟩:=nj Y;obtain⟨O,e,nL⟩:=Nb Z (hs x bw) (g x);have hm:∀a,a∈O↔a∈l\/a=x:=λa=>by
   have hk:∀l:List Str,(.inr a:Key)∈DP l↔a∈l:=λl=>by simp[DP]
   have e1:(putD (DP l) (HJ l f) (.inr x) (.int (g x))).1=DP O:=by rw[e]
   rw[<-hk O,<-e1];unfold putD
   by_cases q:x∈l
   .rw[ah (lK q)]
    show (.inr a:Key)∈DP l↔_;rw[hk];exact⟨.inl,λz=>z.elim id λz=>z▸q⟩
   .rw[dJ q]
    show (.inr a:Key)∈DP l++[.inr x]↔_;rw[lz,hk];simp
  obtain⟨B,G,e2,UB,m2,v2⟩:=uO r O (KQ f x (g x)) nL Y λy hy=>hs y (bx _ hy)
  refine⟨B,G,?_,UB,λa=>by rw[m2,hm,h7];exact or_assoc,λa=>?_⟩
  .show FQ (putD (DP l) (HJ l f) (.inr x) (.int (g x))).1 (putD (DP l) (HJ l f) (.inr x) (.int (g x))).2 (DP r) (HJ r g)=_
   rw[e];exact e2
  .rw[v2]
   unfold KQ
   by_cases U:a∈r
   .rw[ah U,ah (bx _ U)]
   .rw[ak U]
    by_cases C:a=x
    .rw[ah C,ah (by rw[C];exact bw),C]
    .rw[ak C,ak λq=>(cq q).elim C U]
theorem Rz(HT:dW ae)(HW:lV ae)(h4:nm.length=4)(hW:2100<W){p:Bl Str}(U:p.Ok (·∈nm))(hd:p.dep<=4)(hz:p.size<=63):∃(ks:List FK) (B:List Str),(∀k,k∈ks↔k∈fe [] p)/\ks.length<=28/\ib nm B (λ_=>0)/\(∀x,x∈B↔x∈j0 p)/\∀{hk:List Str} {g:Str->Int} {X},hk.Nodup->hk.length<=4->aT (BZ W ae (n+13)) W (K1 4 QT) (sS m.length (.tup (dB p)) (.tup (CV hk g)) (bf hk g) (JG (ks.foldl GC [])) a0 a0 a0 a0 a0) (m++[.ao (FQ (DP B) (HJ B λ_=>0) (DP hk) (HJ hk g)).1 (FQ (DP B) (HJ B λ_=>0) (DP hk) (HJ hk g)).2])=X->aT (BZ W ae (n+13)) W QT [aV (.tup (dB p)),aV (.tup (CV hk g)),a0,a0,a0,a0,a0,a0,a0,a0] m=X:=by
 obtain⟨fs,a1,a2,a3,a4⟩:=OO (W:=W) (n:=n) (m:=m) HW h4 (by lia) U (by lia);have hw:=iB p hd;obtain⟨C,k1,k2,G⟩:=VN (W:=W) (n:=n+11) (m0:=m) HW.parts HW.names (nm:=nm) (by lia) (ps:=p.list.map .dd) (by rw[U4];lia) (by rw[U4];lia) (λpt ug x O=>by
  obtain⟨d,fF,rfl⟩:=ck ug;exact B4 (U.mem d fF) x O)
 rw[pF]at G;have ue:∀x,x∈C↔x∈j0 p:=λx=>by rw[k2,Z0]
 have hp:=jb C G6;have hp:(CQ C).Perm C:=hp;generalize CQ C=B at G hp;have f7:∀x∈B,x∈nm:=λx O=>gZ U x ((ue x).mp (hp.mem_iff.mp O))
 have Y:B.Nodup:=hp.nodup_iff.mpr k1;have Vv:B.length<=4:=by rw[<-h4];exact Y.length_le_of_subset f7
 have Z:(HN fs).Perm fs:=jb _ _;generalize HN fs=ks at a4 Z;have DB:ks.length<=28:=by rw[Z.length_eq];exact a3
 refine⟨ks,B,λk=>by rw[Z.mem_iff,a2],DB,⟨Y,f7,λ_ _=>rfl⟩,λx=>by rw[hp.mem_iff,ue],λ {hk g X} h1 h2 h3=>?_⟩;have Dm:=yS (W:=W) (n:=n+12) (m:=m) HT (ks:=ks) (by lia);have U1:cw (.dict en) (.tup (CV hk g)) m=aV (bf hk g,m):=X8 h1 (by lia) en m;have comp:ev (BZ W ae (n+13)) (.comp en 1 (.nm 10) (.seq (.call "names_of" (.cons (.var 0) .nil))) .tt (.tup (.cons (.var 10) (.cons (.con (.int 0)) .nil)))) [aV (.tup (dB p)),aV (.tup (CV hk g)),aV (bf hk g),aV (JG (ks.foldl GC [])),a0,a0,a0,a0,a0,a0] m=aV (.lst (B.map λa=>.tup [.str a,.int 0]),m):=by
  rw[JF (xs:=B) (dd:=.str) (h:=λa=>aV (.tup [.str a,.int 0])) rfl (Ox (CG G rfl)) (by lia)]
  .rw[r8]
  .intro a _
   refine⟨[aV (.tup (dB p)),aV (.tup (CV hk g)),aV (bf hk g),aV (JG (ks.foldl GC [])),a0,a0,a0,a0,a0,a0,aV (.str a)],cf,rfl,rfl,?_⟩;rw[ah rfl];exact⟨rfl,rfl⟩
 have e1:CW (B.map λa=>(a,D.int 0))=DP B:=by unfold CW DP;rw[b6];rfl
 have e2:CZ (B.map λa=>(a,D.int 0))=HJ B λ_=>0:=by unfold CZ HJ;rw[b6];rfl
 have nN:=oO (z:=.int 0) Y (by lia) cf m;rw[e1,e2]at nN;refine CN (G8 rfl U1) (CN (CG Dm (BW (CG a4 rfl) rfl)) (CN (d:=.aI m.length) (m1:=mS m B λ_=>0) (G8 comp nN) ?_));refine IW (QR (i:=m.length) (ks:=DP hk) (vs:=HJ hk g) rfl oS rfl (gQ hk g) (by unfold DP;rw[a6,a6];lia)) ?_;have:∀q:List Key×List D,(mS m B λ_=>0).set m.length (.ao q.1 q.2)=m++[.ao q.1 q.2]:=λq=>by simp[mS]
 rw[this];exact h3
noncomputable def nX(hk:List Str)(g:Str->Int)(v:Int):List Str:=hk.filter λx=>eH (g x=v)
abbrev LR (ks:List FK) (hk:List Str) (g:Str->Int) (v:Int) (a:Str):Prop:=og ks hk (nX hk g v) a
noncomputable abbrev sH (m:Mem) (pd:D) (hk:List Str) (g:Str->Int) (ks:List FK) (x5 x6 x7 x8 B:Option D):DS:=sS m.length pd (.tup (CV hk g)) (bf hk g) (JG (ks.foldl GC [])) x5 x6 x7 x8 B
theorem Fq(HT:dW ae){nm hk:List Str}{g:Str->Int}{ks:List FK}{l:List Str}{pd:D}(h4:nm.length=4)(jw:∀k∈ks,k∈univ nm)(DB:ks.length<=28)(hn:hk.Nodup)(hs:∀x∈hk,x∈nm)(hW:2100<W)(cS:l.Nodup)(hl:∀x∈l,x∈nm)(dr:∀v a,LR ks hk g v a->a∈l){ys:List D}:∀(vs:List Int) (f:Str->Int) (x5 x6 x7 x8 O:Option D),
  (∃U y5 y6 y7 y8 Z,forL ⟨ys,a0⟩ (.nm 5) (λ σ m=>aT (BZ W ae (n+13)) W aD σ m) (vs.map .int) (sH m pd hk g ks x5 x6 x7 x8 O) (mS m l f)=aV (.nx (sH m pd hk g ks y5 y6 y7 y8 Z),mS m l U)/\(∀a,f a<=U a)/\(∀v∈vs,∀a,LR ks hk g v a->v<=U a)/\(∀a,U a=f a\/LR ks hk g (U a) a)/\∀v∈vs,∀a t,LR ks hk g v a->(a,t)∈ks->V4 hk g v t=en)\/
  ∃U v a ws t,Way ks (nX hk g v) a ws/\LR ks hk g v a/\(a,t)∈ks/\V4 hk g v t=cf/\forL ⟨ys,a0⟩ (.nm 5) (λ σ m=>aT (BZ W ae (n+13)) W aD σ m) (vs.map .int) (sH m pd hk g ks x5 x6 x7 x8 O) (mS m l f)=aV (.rt (lg ws t),mS m l U)
 | [],f,x5,x6,x7,x8,O=>.inl ⟨f,x5,x6,x7,x8,O,K8 rfl,λ_=>oq _,λv hv=>(nomatch hv),λ_=>.inl rfl,λv hv=>(nomatch hv)⟩
 | v::vs,f,x5,x6,x7,x8,O=>by
  have lP:hk.length<=4:=by rw[<-h4];exact hn.length_le_of_subset hs
  have kx:l.length<=4:=by rw[<-h4];exact cS.length_le_of_subset hl
  have ec:ev (BZ W ae (n+13)) (.comp en 2 (.tp [(.nm 10),(.nm 11)]) (.seq (.var 1)) (.val (.cmp .eq (.var 11) (.var 5))) (.var 10)) (sH m pd hk g ks (aV (.int v)) x6 x7 x8 O) (mS m l f)=aV (.lst ((nX hk g v).map .str),mS m l f):=by
   rw[JF (xs:=hk) (dd:=λx=>.tup [.str x,.int (g x)]) (h:=λx=>if g x=v then aV (.str x) else a0) rfl rfl (by lia)]
   .unfold nX
    rw[<-r8,List.filterMap_filter];simp only[decide_eq_true_eq]
   .intro x _
    refine⟨sH m pd hk g ks (aV (.int v)) x6 x7 x8 O++[aV (.str x),aV (.int (g x))],eH (g x=v),rfl,rfl,?_⟩
    by_cases h:g x=v
    .rw[ah (cz h),ah h];exact⟨rfl,rfl⟩
    .rw[df h,ak (by decide),ak h]
  obtain⟨R,B,er⟩:=yV (W:=W) (n:=n+12) (hk:=hk) (g:=g) HT h4 jw (by lia) (s0:=nX hk g v) (hn.filter _) (λa G=>hs a (me G).1) (by lia) (mS m l f);have HV:R.length<=4:=by
   have:=B.nd.length_le_of_subset B.sub;rw[a6]at this;lia
  have DA:(CW R).map eK=(R.map (·.1)).map .str:=by
   unfold CW;rw[b6,b6];rfl
  rcases OL (W:=W) (n:=n+11) (v:=v) (g:=g) (m:=mS m l f) HT (λk hk=>TV k (jw k hk)) B HV (by lia) with ⟨CM,DV⟩ | ⟨a,ws,t,G,ht,hw,mw,CM⟩
  .obtain⟨Z,ez⟩:=zL (C:=BZ W ae (n+13)) (W:=W) (m0:=m) (pd:=pd) (hs:=.tup (CV hk g)) (tl:=bf hk g) (on:=JG (ks.foldl GC [])) (v:=v) (x6:=aV (.lst ((nX hk g v).map .str))) (x7:=aV (.ao (CW R) (CZ R))) (x8:=aV .aE) (ys:=(R.map (·.1)).map .str) (l:=l) (by lia) (R.map (·.1)) f O λa G=>dr v a (B.iff.mp G)
   have mz:ei (BZ W ae (n+13)) (.keys (.var 7)) (sH m pd hk g ks (aV (.int v)) (aV (.lst ((nX hk g v).map .str))) (aV (.ao (CW R) (CZ R))) (aV .aE) O) (mS m l f)=aV (⟨(R.map (·.1)).map .str,a0⟩,mS m l f):=by
    rw[<-DA];rfl
   have mv:aT (BZ W ae (n+13)) W aD (sH m pd hk g ks (aV (.int v)) x6 x7 x8 O) (mS m l f)=aV (.nx (sH m pd hk g ks (aV (.int v)) (aV (.lst ((nX hk g v).map .str))) (aV (.ao (CW R) (CZ R))) (aV .aE) Z),mS m l λa=>if a∈R.map (·.1) then mx v (f a) else f a):=CN ec (CN (CG er rfl) (CN (CG CM rfl) (DX (FP rfl rfl) (M6 (b:=B6) (w:=⟨(R.map λp:Str×D=>p.1).map D.str,a0⟩) (m1:=mS m l f) mz ez rfl))));have up:∀a,f a<=(if a∈R.map (·.1) then mx v (f a) else f a):=λa=>by
    split
    .exact(o8 v (f a)).2.1
    .exact oq _
   rcases Fq HT h4 jw DB hn hs hW cS hl dr (ys:=ys) vs (λa=>if a∈R.map (·.1) then mx v (f a) else f a) (aV (.int v)) (aV (.lst ((nX hk g v).map .str))) (aV (.ao (CW R) (CZ R))) (aV .aE) Z with ⟨U,y5,y6,y7,y8,z9,e,q1,q2,q3,q4⟩ | ⟨U,u,a,ws,t,q1,q2,q3,q4,e⟩
   .refine .inl ⟨U,y5,y6,y7,y8,z9,HX rfl rfl mv e,λa=>Int.le_trans (up a) (q1 a),λu Y a G=>?_,λa=>?_,λu Y a t G ht=>?_⟩
    .rcases cq Y with rfl | Y
     .have:=q1 a
      rw[ah (B.iff.mpr G)]at this;exact Int.le_trans (o8 u (f a)).1 this
     .exact q2 u Y a G
    .rcases q3 a with q | q
     .by_cases G:a∈R.map (·.1)
      .rw[ah G]at q
       rcases(o8 v (f a)).2.2 with z | z
       .exact .inl (q.trans z)
       .exact .inr (by rw[q,z];exact B.iff.mp G)
      .rw[ak G]at q;exact .inl q
     .exact .inr q
    .rcases cq Y with rfl | Y
     .exact DV a (B.iff.mpr G) t (ph.mpr ht)
     .exact q4 u Y a t G ht
   .exact .inr ⟨U,u,a,ws,t,q1,q2,q3,q4,HX rfl rfl mv e⟩
  .refine .inr ⟨f,v,a,ws,t,hw,B.iff.mp G,ph.mp ht,mw,?_⟩
   have mv:aT (BZ W ae (n+13)) W aD (sH m pd hk g ks (aV (.int v)) x6 x7 x8 O) (mS m l f)=aV (.rt (lg ws t),mS m l f):=CN ec (CN (CG er rfl) (CN (CG CM rfl) (HY (FP rfl rfl) (DQ rfl))));rw[cj,forL,ah (show Walk.ok ⟨ys,a0⟩ (mS m l f)=cf from rfl)];show (aT (BZ W ae (n+13)) W aD (sH m pd hk g ks (aV (.int v)) x6 x7 x8 O) (mS m l f)).bind _=_;rw[mv];rfl
section
variable{dk:List FK}
theorem og.mono(h:∀k∈ks,k∈dk)(r:og ks hk s0 a):og dk hk s0 a:=by
 induction r with
 | st q=>exact .st q
 | go _ e n B=>exact .go B (h _ e) n
theorem Way.mono{ws:List Str}(h:∀k∈ks,k∈dk)(r:Way ks s0 a ws):Way dk s0 a ws:=by
 induction r with
 | st q=>exact .st q
 | go _ e l B=>exact .go B (h _ e) l
theorem og.AW(r:LR ks hk g v a):∃x∈hk,g x=v:=by
 induction r with
 | st q=>exact⟨_,(me q).1,eW (me q).2⟩
 | go _ _ _ B=>exact B
end
structure Hd(ks:List FK)(hk:List Str)(g f:Str->Int):Prop where
 lo:∀a,(if a∈hk then g a else 0)<=f a
 up:∀v a,LR ks hk g v a->v<=f a
 is:∀a,f a=(if a∈hk then g a else 0)\/LR ks hk g (f a) a
theorem Gf{P:Str->Prop}{p:Bl Str}(G:p.Ok P)(hk:k∈fe [] p){b:Str}(B:k.2.2=.inr b):b∈j0 p:=by
 rcases QW (K9 (nm:=j0 p) (YZ G λx C=>C) (by simp) k hk) with ⟨j,_,e⟩ | ⟨c,O,e⟩
 .rw[e]at B;cases B
 .rw[e]at B;cases B;exact O
theorem yU(HT:dW ae)(HW:lV ae)(Y:nm.length=4)(hW:2100<W){p:Bl Str}(ho:p.Ok (·∈nm))(hd:p.dep<=4)(hz:p.size<=63)(U:hk.Nodup)(hs:∀x∈hk,x∈nm)(hg:∀x∈hk,0<=g x/\g x<=2):
  (∃l f,ib nm l f/\(∀x,x∈l↔x∈j0 p\/x∈hk)/\Hd (fe [] p) hk g f/\(∀v a t,LR (fe [] p) hk g v a->(a,t)∈fe [] p->V4 hk g v t=en)/\BZ W ae (n+14) "settled" [.tup (dB p),.tup (CV hk g)] m=aV (Fp (CQ l) f,m))\/
  ∃v a ws t,Way (fe [] p) (nX hk g v) a ws/\LR (fe [] p) hk g v a/\(a,t)∈fe [] p/\V4 hk g v t=cf/\BZ W ae (n+14) "settled" [.tup (dB p),.tup (CV hk g)] m=aV (lg ws t,m):=by
 obtain⟨ks,l0,a1,a2,hS,a3,pre⟩:=Rz (W:=W) (n:=n) (m:=m) HT HW Y hW ho hd hz;have to:∀k∈ks,k∈fe [] p:=λk=>(a1 k).mp
 have un:∀k∈fe [] p,k∈ks:=λk=>(a1 k).mpr
 have lP:hk.length<=4:=by rw[<-Y];exact U.length_le_of_subset hs
 obtain⟨l,f,e1,B,m1,v1⟩:=uO (g:=g) hk l0 _ hS U hs;have pre:=pre (hk:=hk) (g:=g) (X:=aT (BZ W ae (n+13)) W (K1 4 QT) (sH m (.tup (dB p)) hk g ks a0 a0 a0 a0 a0) (mS m l f)) U lP (by rw[e1];rfl);have dr:∀v a,LR ks hk g v a->a∈l:=λv a r=>by
  cases r with
  | st q=>exact(m1 a).mpr (.inr (me q).1)
  | go _ e _=>exact(m1 a).mpr (.inl ((a3 a).mpr (Gf ho (to _ e) rfl)))
 have ec:ev (BZ W ae (n+13)) (.comp en 2 (.tp [(.nm 10),(.nm 11)]) (.seq (.var 1)) .tt (.var 11)) (sH m (.tup (dB p)) hk g ks a0 a0 a0 a0 a0) (mS m l f)=aV (.lst ((hk.map g).map .int),mS m l f):=by
  rw[JF (xs:=hk) (dd:=λx=>.tup [.str x,.int (g x)]) (h:=λx=>aV (.int (g x))) rfl rfl (by lia)]
  .rw[r8,b6];rfl
  .exact λx _=>⟨sH m (.tup (dB p)) hk g ks a0 a0 a0 a0 a0++[aV (.str x),aV (.int (g x))],cf,rfl,rfl,by rw[ah rfl];exact⟨rfl,rfl⟩⟩
 have es:cw (.ze en) (.lst ((hk.map g).map .int)) (mS m l f)=aV (.lst ((([0,1,2]:List Int).filter λv=>eH (v∈hk.map g)).map .int),mS m l f):=by
  show ((intsOf ((hk.map g).map .int)).bind λns=>if ns.length<=4000/\ns.all (λn=>eH (0<=n/\n<=2))=cf then aV (bj en ((([0,1,2]:List Int).filter λv=>eH (v∈ns)).map .int) (mS m l f)) else a0)=_;rw[ints_of,bS,ah ⟨by rw[a6];lia,P2.mpr λy hy=>by
   obtain⟨x,O,rfl⟩:=ck hy;exact cz (hg x O)⟩]
  rfl
 have lv:∀{v a},LR ks hk g v a->v∈([0,1,2]:List Int).filter λv=>eH (v∈hk.map g):=λr=>by
  obtain⟨x,O,rfl⟩:=r.AW;have:=hg x O;exact zj.mpr ⟨by simp;lia,cz (gh O)⟩
 have mz:=N7 (G8 ec es);rcases Fq (W:=W) (n:=n) (m:=m) HT Y (λk q=>K9 ho (by simp) k (to k q)) a2 U hs hW B.nd B.sub dr (pd:=.tup (dB p)) (ys:=(([0,1,2]:List Int).filter λv=>eH (v∈hk.map g)).map .int) (([0,1,2]:List Int).filter λv=>eH (v∈hk.map g)) f a0 a0 a0 a0 a0 with ⟨C,y5,y6,y7,y8,y9,e,q1,q2,G,Z⟩ | ⟨C,v,a,ws,t,q1,q2,G,Z,e⟩
 .have ko:ib nm l C:=⟨B.nd,B.sub,λa ha=>by
   rcases G a with q | q
   .rw[q];exact B.zero a ha
   .exact absurd (dr _ a q) ha⟩
  refine .inl ⟨l,C,ko,λx=>by rw[m1,a3],⟨λa=>by rw[<-v1];exact q1 a,λv a r=>q2 v (lv (r.mono un)) a (r.mono un),λa=>by rw[<-v1];exact(G a).imp_right λr=>r.mono to⟩,λv a t r ht=>Z v (lv (r.mono un)) a t (r.mono un) (un _ ht),NT (q:=[.ao (DP l) (HJ l C)]) (n:=n+13) HT.settled rfl (oZ _ _) (pre.trans ?_)⟩;exact M6 (b:=aD) mz e (DQ (HD (BW rfl (BW (G8 (G8 rfl (iZ Y ko)) rfl) rfl)) (fR rfl)))
 .refine .inr ⟨v,a,ws,t,q1.mono to,q2.mono to,to _ G,Z,NT (q:=[.ao (DP l) (HJ l C)]) (n:=n+13) HT.settled rfl (oY ws t) (pre.trans ?_)⟩
  show (ex (BZ W ae (n+13)) W (.fr (.nm 5) (.seq (.b1 (.ze en) (.comp en 2 (.tp [(.nm 10),(.nm 11)]) (.seq (.var 1)) .tt (.var 11)))) aD) _ _).bind _=_;rw[BC,mz,bS];show (forL _ _ _ _ _ _).bind _=_;rw[e];rfl
noncomputable def R7(hk:List Str)(f:Str->Int)(k:FK):Str->Int:=match k.2.2 with
 | .inl _=>f
 | .inr b=>if b∈hk then f else KQ f b (mx (f b) (f k.1))
noncomputable def O9(hk:List Str):List FK->(Str->Int)->Str->Int
 | [],f=>f
 | k::r,f=>O9 hk r (R7 hk f k)
noncomputable def QL(hk:List Str)(ks:List FK):Nat->(Str->Int)->Str->Int
 | 0,f=>f
 | n+1,f=>QL hk ks n (O9 hk ks f)
noncomputable def NZ:List Str->(Str->Int)->Int
 | [],_=>0
 | a::r,f=>f a+NZ r f
structure jS(F:List FK)(hk:List Str)(g f:Str->Int):Prop where
 told:∀a∈hk,f a=g a
 lr:∀a,f a=0\/LR F hk g (f a) a
theorem set_same{b:Str}:KQ f b (f b)=f:=by
 funext c;unfold KQ
 by_cases h:c=b
 .rw[ah h,h]
 .rw[ak h]
section
variable{F:List FK}{dj:Str->Int}
theorem jS.jx(I:jS F hk g f)(C:∀x∈hk,0<=g x/\g x<=2)(a:Str):0<=f a/\f a<=2:=by
 rcases I.lr a with h | h
 .lia
 .obtain⟨x,B,e⟩:=h.AW
  have:=C x B;lia
theorem jS.step(I:jS F hk g f)(G:∀x∈hk,0<=g x/\g x<=2)(U:k∈F)(C:k∈univ nm):jS F hk g (R7 hk f k):=by
 obtain⟨a,t⟩:=k;rcases QW C with ⟨j,_,e⟩ | ⟨b,_,e⟩
 .obtain rfl:t=_:=e
  exact I
 .obtain rfl:t=_:=e
  show jS F hk g (if b∈hk then f else KQ f b (mx (f b) (f a)))
  by_cases h:b∈hk
  .rw[ah h];exact I
  .rw[ak h]
   by_cases q:f a > f b
   .rw[show mx (f b) (f a)=f a from ah q]
    have O:LR F hk g (f a) a:=(I.lr a).resolve_left λz=>by have:=(I.jx G b).1;lia
    refine⟨λc B=>?_,λc=>?_⟩
    .show (if c=b then f a else f c)=g c
     rw[ak λz:c=b=>h (z▸B)];exact I.told c B
    .show (if c=b then f a else f c)=0\/LR F hk g (if c=b then f a else f c) c
     by_cases z:c=b
     .rw[ah z,z];exact .inr (.go O U h)
     .rw[ak z];exact I.lr c
   .rw[show mx (f b) (f a)=f b from ak q,set_same];exact I
theorem jS.turn(B:∀x∈hk,0<=g x/\g x<=2):∀(ks:List FK) (f:Str->Int),jS F hk g f->(∀k∈ks,k∈F/\k∈univ nm)->jS F hk g (O9 hk ks f)
 | [],_,I,_=>I
 | k::r,f,I,h=>jS.turn B r _ (I.step B (h k bw).1 (h k bw).2) λq C=>h q (bx _ C)
theorem jS.iter(B:∀x∈hk,0<=g x/\g x<=2)(h:∀k∈ks,k∈F/\k∈univ nm):∀(n:Nat) (f:Str->Int),jS F hk g f->jS F hk g (QL hk ks n f)
 | 0,_,I=>I
 | n+1,f,I=>jS.iter B h n _ (I.turn B ks f h)
theorem qH(h:∀x,f x<=dj x):∀l:List Str,NZ l f<=NZ l dj
 | []=>oq _
 | a::r=>by
  have C:=h a;have B:=qH h r;show f a+NZ r f<=dj a+NZ r dj;lia
theorem E1(h:∀x,f x<=dj x):∀{l:List Str},(∃x∈l,f x<dj x)->NZ l f<NZ l dj
 | [],⟨_,B,_⟩=>(nomatch B)
 | a::r,C=>by
  obtain⟨x,B,q⟩:=C;have O:=h a;have G:=qH h r;show f a+NZ r f<dj a+NZ r dj;rcases cq B with rfl | B
  .lia
  .have:=E1 h ⟨x,B,q⟩
   lia
theorem BB(h:∀x,0<=f x/\f x<=2):∀l:List Str,0<=NZ l f/\NZ l f<=2*l.length
 | []=>⟨oq _,oq _⟩
 | a::r=>by
  have C:=h a;have B:=BB h r;show 0<=f a+NZ r f/\f a+NZ r f<=2*((r.length+1:Nat):Int);lia
theorem tY(k:FK)(a:Str):f a<=R7 hk f k a:=by
 obtain⟨c,B,j | b⟩:=k
 .exact oq _
 .show f a<=(if b∈hk then f else KQ f b (mx (f b) (f c))) a
  by_cases h:b∈hk
  .rw[ah h];exact oq _
  .rw[ak h]
   show f a<=if a=b then mx (f b) (f c) else f a
   by_cases z:a=b
   .rw[ah z,z];exact(o8 _ _).1
   .rw[ak z];exact oq _
theorem Ml(hl:∀b,k.2.2=.inr b->b∈l):R7 hk f k=f\/∃b∈l,f b<R7 hk f k b:=by
 obtain⟨c,C,j | b⟩:=k
 .exact .inl rfl
 .show (if b∈hk then f else KQ f b (mx (f b) (f c)))=f\/∃B∈l,f B<(if b∈hk then f else KQ f b (mx (f b) (f c))) B
  by_cases h:b∈hk
  .rw[ah h];exact .inl rfl
  .rw[ak h]
   by_cases q:f c > f b
   .refine .inr ⟨b,hl b rfl,?_⟩
    show f b<if b=b then mx (f b) (f c) else f b
    rw[ah rfl,show mx (f b) (f c)=f c from ah q];exact q
   .rw[show mx (f b) (f c)=f b from ak q,set_same];exact .inl rfl
theorem tV:∀(ks:List FK) (f:Str->Int) (a:Str),f a<=O9 hk ks f a
 | [],_,_=>oq _
 | k::r,f,a=>Int.le_trans (tY k a) (tV r _ a)
theorem lY:∀(ks:List FK) (f:Str->Int),(∀k∈ks,∀b,k.2.2=.inr b->b∈l)->((∀k∈ks,R7 hk f k=f)/\O9 hk ks f=f)\/NZ l f<NZ l (O9 hk ks f)
 | [],_,_=>.inl ⟨λk h=>(nomatch h),rfl⟩
 | k::r,f,h=>by
  show ((∀cb∈k::r,R7 hk f cb=f)/\O9 hk r (R7 hk f k)=f)\/NZ l f<NZ l (O9 hk r (R7 hk f k));rcases Ml (hk:=hk) (f:=f) (h k bw) with e | e
  .rw[e]
   refine(lY r f λq B=>h q (bx _ B)).imp_left λz=>⟨λcb C=>?_,z.2⟩
   rcases cq C with rfl | q
   .exact e
   .exact z.1 cb q
  .exact .inr (Int.lt_of_lt_of_le (E1 (tY k) e) (qH (tV r _) l))
theorem gD(e:O9 hk ks f=f):∀n:Nat,QL hk ks n f=f
 | 0=>rfl
 | n+1=>by
  show QL hk ks n (O9 hk ks f)=f;rw[e];exact gD e n
theorem oH(h:∀k∈ks,∀b,k.2.2=.inr b->b∈l):∀(n:Nat) (f:Str->Int),(∀k∈ks,R7 hk (QL hk ks n f) k=QL hk ks n f)\/NZ l f+n<=NZ l (QL hk ks n f)
 | 0,f=>.inr (by show NZ l f+((0:Nat):Int)<=NZ l f;lia)
 | n+1,f=>by
  rcases lY (hk:=hk) ks f h with ⟨q,e⟩ | q
  .rw[gD e];exact .inl q
  .refine(oH h n (O9 hk ks f)).imp id λz=>?_
   show NZ l f+((n+1:Nat):Int)<=NZ l (QL hk ks n (O9 hk ks f));lia
structure pS(F:List FK)(hk:List Str)(g f:Str->Int):Prop extends jS F hk g f where
 rg:∀a,0<=f a/\f a<=2
 le:∀a b,(a,DW,(.inr b:Key))∈F->b∉hk->f a<=f b
theorem LB(B:∀x∈hk,0<=g x/\g x<=2)(C:∀k,k∈ks↔k∈F)(O:∀k∈ks,k∈univ nm)(hl:∀k∈ks,∀b,k.2.2=.inr b->b∈l)(hz:∀x,x∉hk->g x=0):pS F hk g (QL hk ks (2*l.length+1) g):=by
 have G:jS F hk g g:=⟨λ_ _=>rfl,λa=>by
  by_cases h:a∈hk
  .exact .inr (.st (zj.mpr ⟨h,cz rfl⟩))
  .exact .inl (hz a h)⟩
 have I:=G.iter B (ks:=ks) (nm:=nm) (λk h=>⟨(C k).mp h,O k h⟩) (2*l.length+1);have r:=I.jx B;refine⟨I,r,λa b e n=>?_⟩;rcases oH (hk:=hk) hl (2*l.length+1) g with z | z
 .have z:=congrFun (z _ ((C _).mpr e)) b
  generalize QL hk ks (2*l.length+1) g=f at z;have z:(if b∈hk then f else KQ f b (mx (f b) (f a))) b=f b:=z;rw[ak n]at z;have z:(if b=b then mx (f b) (f a) else f b)=f b:=z;rw[ah rfl]at z;have:=(o8 (f b) (f a)).2.1;lia
 .have Y:=(BB r l).2
  have U:=(BB (G.jx B) l).1;lia
theorem pS.up(L:pS F hk g f)(r:LR F hk g v a):v<=f a:=by
 induction r with
 | st q=>
  obtain⟨C,B⟩:=me q;have B:=eW B;rw[L.told _ C];lia
 | go _ e n G=>exact Int.le_trans G (L.le _ _ e n)
theorem Mg(h:a∈hk)(r:LR F hk g v a):v=g a:=by
 cases r with
 | st q=>exact(eW (me q).2).symm
 | go _ _ n=>exact absurd h n
theorem pS.eq(L:pS F hk g f)(B:Hd F hk g dj):dj=f:=by
 funext a
 by_cases h:a∈hk
 .rw[L.told a h]
  rcases B.is a with e | e
  .rw[e,ah h]
  .exact Mg h e
 .have lo:=B.lo a
  have i:=B.is a;rw[ak h]at lo i;refine Int.le_antisymm ?_ ?_
  .rcases i with e | e
   .rw[e];exact(L.rg a).1
   .exact L.up e
  .rcases L.lr a with e | e
   .rw[e];exact lo
   .exact B.up _ _ e
theorem pS.no(L:pS F hk g f)(h:∀k∈F,f k.1<=l8 f k)(r:LR F hk g v a)(C:(a,t)∈F):V4 hk g v t=en:=by
 have O:=L.up r;have B:f a<=l8 f (a,t):=h _ C;obtain⟨G,j | b⟩:=t
 .refine df ?_
  have B:f a<=j:=B;lia
 .refine df ?_
  have B:f a<=f b:=B
  by_cases q:b∈hk
  .rw[ah q,<-L.told b q];lia
  .rw[ak q];lia
theorem pS.yes(L:pS F hk g f)(G:k∈F)(B:k∈univ nm)(h:¬f k.1<=l8 f k):∃v,LR F hk g v k.1/\V4 hk g v k.2=cf:=by
 obtain⟨a,t⟩:=k;have r:0<=l8 f (a,t)->LR F hk g (f a) a:=λq=>(L.lr a).resolve_left λz=>h (by show f a<=l8 f (a,t);lia)
 rcases QW B with ⟨j,C,e⟩ | ⟨b,_,e⟩
 .obtain rfl:t=_:=e
  have h:¬f a<=j:=h;exact⟨f a,r C,cz (by lia)⟩
 .obtain rfl:t=_:=e
  have h:¬f a<=f b:=h
  by_cases q:b∈hk
  .refine⟨f a,r (L.rg b).1,cz ?_⟩
   rw[ah q,<-L.told b q];lia
  .exact absurd (L.le a b G q) h
end
structure zD(ae:String->Option Fn):Prop where
 goal:ae "_law_goal" = aV wN
 least:ae "_law_least" = aV pW
 WG:ae "_law_is_trail" = aV aL
noncomputable def sO:bz:=ou (K1 1 d9)
noncomputable def sI:bz:=ou (K1 2 d9)
noncomputable def sJ:bz:=ou sI
noncomputable def sL(b:Nat)(hs mi fl:D)(x4 x5 x6:Option D):DS:=[aV hs,aV mi,aV fl,aV (.aI b),x4,x5,x6]
theorem aY{b:Str}:(G5 (DP hk) (HJ hk g) (.inr b)).isSome=eH (b∈hk):=by
 by_cases h:b∈hk
 .rw[JK h,cz h];rfl
 .rw[U6 h,df h];rfl
theorem FL(H:zD ae)(O:ib nm l f)(aS:MP k=cf):BZ W ae (n+1) "_law_goal" [ff k.2,bf l f] m=aV (.int (l8 f k),m):=by
 obtain⟨a,B,x | x⟩:=k
 .have:B=fi "page":=eW aS
  subst this;exact FJ H.goal rfl rfl (HY (JZ (p:=("page":Str)="page") rfl rfl) (DQ rfl))
 .have U:¬B=fi "page":=by simpa[MP] using aS
  have G:=Q1 (C:=BZ W ae n) (m:=m) O (d:=.var 1) (k:=.ix (.var 0) (.con (.int 1))) (z:=.con (.int 0)) (σ:=[aV (.tup [.str B,.str x]),aV (bf l f)]) (x:=x) rfl rfl rfl;exact FJ H.goal rfl rfl (DX (J6 rfl U) (DQ G))
theorem Oo{d k z:Ex}{y u:D}{kk:Key}{ks:List Key}(h1:ev C d σ m=aV (.aI i,m))(Z:ev C k σ m=aV (y,m))(Y:ev C z σ m=aV (u,m))(G:m[i]?=aV (.ao ks vs))(O:N5 y=aV kk):(∀v,G5 ks vs kk=aV v->ev C (.zc d k z) σ m=aV (v,m))/\(G5 ks vs kk=a0->u.clean=cf->ks.length<10000->ev C (.zc d k z) σ m=aV (u,m.set i (.ao (putD ks vs kk u).1 (putD ks vs kk u).2))):=by
 have B:∀X,(match G5 ks vs kk with
  | some v=>aV (v,m)
  | none=>if u.clean&&eH (ks.length<10000) then aV (u,m.set i (.ao (putD ks vs kk u).1 (putD ks vs kk u).2)) else a0)=X->ev C (.zc d k z) σ m=X:=λX q=>by
  show (ev C d σ m).bind _=_;rw[h1];show (HF (.aI i) m).bind _=_;rw[aB G];show (ev C k σ m).bind _=_;rw[Z];show (ev C z σ m).bind _=_;rw[Y,<-q];simp only[bS,G,O]<;>
  cases G5 ks vs kk<;>rfl
 refine⟨λv e=>B _ (by rw[e]),λe U hl=>B _ ?_⟩;rw[e];show (if u.clean&&eH (ks.length<10000) then _ else _)=_;rw[U,cz hl];rfl
theorem Na(C:ib nm l g)(O:x∈nm)(h:x∉l):putD (DP l) (HJ l g) (.inr x) (.int 0)=(DP (l++[x]),HJ (l++[x]) g)/\ib nm (l++[x]) g:=by
 constructor
 .unfold putD
  rw[dJ h,<-C.zero x h];simp[DP,HJ]
 .refine⟨qu.mpr ⟨C.nd,by simp,λa B b G e=>?_⟩,λa B=>?_,λa B=>C.zero a λq=>B (iw _ q)⟩
  .rw[List.mem_singleton]at G
   exact h (G▸e▸B)
  .rcases dg B with q | q
   .exact C.sub a q
   .rw[fw q];exact O
theorem FH(Z:nm.length=4){hs mi fl:D}{ys:List D}{x5 x6:Option D}:∀(xs l:List Str) (x4:Option D),ib nm l g->(∀x∈xs,x∈nm)->∃O U,ib nm O g/\(∀a,a∈O↔a∈l\/a∈xs)/\forL ⟨ys,a0⟩ (.nm 4) (λ σ m=>aT C W sO σ m) (xs.map .str) (sL m.length hs mi fl x4 x5 x6) (mS m l g)=aV (.nx (sL m.length hs mi fl U x5 x6),mS m O g)
 | [],l,x4,B,_=>⟨l,x4,B,λa=>by simp,K8 rfl⟩
 | x::xs,l,x4,B,dr=>by
  have kx:l.length<=4:=by rw[<-Z];exact B.nd.length_le_of_subset B.sub
  have IS:=Oo (C:=C) (d:=.var 3) (k:=.var 4) (z:=.con (.int 0)) (σ:=sL m.length hs mi fl (aV (.str x)) x5 x6) (m:=mS m l g) (kk:=.inr x) rfl rfl rfl oS rfl;have step:∃G,ib nm G g/\(∀a,a∈G↔a∈l\/a=x)/\aT C W sO (sL m.length hs mi fl (aV (.str x)) x5 x6) (mS m l g)=aV (.nx (sL m.length hs mi fl (aV (.str x)) x5 x6),mS m G g):=by
   by_cases h:x∈l
   .exact⟨l,B,λa=>⟨.inl,λq=>q.elim id λq=>q▸h⟩,IW (IS.1 _ (JK h)) rfl⟩
   .obtain⟨e,Y⟩:=Na B (dr x bw) h
    refine⟨l++[x],Y,λa=>by simp,IW (IS.2 (U6 h) rfl (by unfold DP;rw[a6];lia)) (Q6 ?_)⟩;rw[e,Es]
  obtain⟨G,Y,m1,e1⟩:=step;obtain⟨O,U,ko,af,au⟩:=FH Z (hs:=hs) (mi:=mi) (fl:=fl) (ys:=ys) (x5:=x5) (x6:=x6) xs G (aV (.str x)) Y λy hy=>dr y (bx _ hy)
  refine⟨O,U,ko,λa=>by rw[af,m1,h7];exact or_assoc,?_⟩;rw[cj];exact HX rfl rfl e1 au
theorem E4(Z:hk.Nodup)(lP:hk.length<=4)(kx:l.length<=4){mi fl:D}{ys:List D}{x5:Option D}:∀(ks:List FK) (f:Str->Int) (x4 x6:Option D),(∀k∈ks,k∈univ nm)->(∀k∈ks,k.1∈l/\∀b,k.2.2=.inr b->b∈l)->∃O G,forL ⟨ys,a0⟩ (.tp [.nm 4,.nm 6]) (λ σ m=>aT C W sJ σ m) (ks.map fD) (sL m.length (.tup (CV hk g)) mi fl x4 x5 x6) (mS m l f)=aV (.nx (sL m.length (.tup (CV hk g)) mi fl O x5 G),mS m l (O9 hk ks f))
 | [],f,x4,x6,_,_=>⟨x4,x6,K8 rfl⟩
 | (a,t)::ks,f,x4,x6,Y,dr=>by
  obtain⟨U,B⟩:=dr _ bw;have U:a∈l:=U;have step:aT C W sJ (sL m.length (.tup (CV hk g)) mi fl (aV (.str a)) x5 (aV (ff t))) (mS m l f)=aV (.nx (sL m.length (.tup (CV hk g)) mi fl (aV (.str a)) x5 (aV (ff t))),mS m l (R7 hk f (a,t))):=by
   rcases QW (Y _ bw) with ⟨j,_,e⟩ | ⟨b,_,e⟩
   .obtain rfl:t=_:=e
    exact DX (N6 (J6 (p:=("page":Str)="name") rfl (gX (by decide)))) rfl
   .obtain rfl:t=_:=e
    have B:b∈l:=B b rfl;have hd:cw (.dict en) (.tup (CV hk g)) (mS m l f)=aV (bf hk g,mS m l f):=X8 Z (by lia) en _;have AI:ev C (.oT (.ix (.var 6) (.con (.int 1))) (.b1 (.dict en) (.var 0))) (sL m.length (.tup (CV hk g)) mi fl (aV (.str a)) x5 (aV (ff (DW,.inr b)))) (mS m l f)=aV (.bl (!decide (b∈hk)),mS m l f):=by
     rw[U9 (x:=.str b) (y:=bf hk g) (k:=.inr b) rfl (G8 rfl hd) rfl rfl,aY]
    have e1:=JZ (C:=C) (t:=.val (.cmp .eq (.ix (.var 6) (.con (.int 0))) (.con (.str "name")))) (σ:=sL m.length (.tup (CV hk g)) mi fl (aV (.str a)) x5 (aV (ff (DW,.inr b)))) (m:=mS m l f) (m1:=mS m l f) (p:=("name":Str)="name") rfl rfl;show _=aV (_,mS m l (if b∈hk then f else KQ f b (mx (f b) (f a))))
    by_cases h:b∈hk
    .rw[cz h]at AI
     rw[ah h];exact DX (K5 e1 (FP AI rfl)) rfl
    .rw[df h]at AI
     rw[ak h];have hv:ev C (.max2 (.qz (.var 3) (.ix (.var 6) (.con (.int 1)))) (.qz (.var 3) (.var 4))) (sL m.length (.tup (CV hk g)) mi fl (aV (.str a)) x5 (aV (ff (DW,.inr b)))) (mS m l f)=aV (.int (mx (f b) (f a)),mS m l f):=
      kE (i:=f b) (j:=f a) (T3 (x:=.aI m.length) (y:=.str b) rfl rfl (aB oS) rfl (JK B)) (T3 (x:=.aI m.length) (y:=.str a) rfl rfl (aB oS) rfl (JK U))
     refine K3 (K5 e1 (FP AI rfl)) (iU (z:=.int (mx (f b) (f a))) (y:=.str b) (i:=m.length) hv rfl rfl oS rfl rfl (by unfold DP;rw[a6];lia) (Q6 ?_)) rfl;rw[qT B,Es]
  obtain⟨O,G,au⟩:=E4 Z lP kx (mi:=mi) (fl:=fl) (ys:=ys) (x5:=x5) ks (R7 hk f (a,t)) (aV (.str a)) (aV (ff t)) (λk q=>Y k (bx _ q)) λk q=>dr k (bx _ q)
  refine⟨O,G,?_⟩;rw[cj];exact HX rfl rfl step au
theorem zN{ks:List FK}(hn:hk.Nodup)(U:hk.length<=4)(Y:l.length<=4)(Z:∀k∈ks,k∈univ nm)(dr:∀k∈ks,k.1∈l/\∀b,k.2.2=.inr b->b∈l){mi:D}{ys:List D}:∀(L:List Nat) (f:Str->Int) (x4 x5 x6:Option D),∃O G B,forL ⟨ys,a0⟩ (.nm 5) (λ σ m=>aT C W sI σ m) (L.map λ(i:Nat)=>.int i) (sL m.length (.tup (CV hk g)) mi (.lst (ks.map fD)) x4 x5 x6) (mS m l f)=aV (.nx (sL m.length (.tup (CV hk g)) mi (.lst (ks.map fD)) O G B),mS m l (QL hk ks L.length f))
 | [],f,x4,x5,x6=>⟨x4,x5,x6,K8 rfl⟩
 | i::L,f,x4,x5,x6=>by
  obtain⟨z4,z6,e⟩:=E4 (C:=C) (W:=W) (m:=m) (g:=g) hn U Y (mi:=mi) (fl:=.lst (ks.map fD)) (ys:=ks.map fD) (x5:=aV (.int i)) ks f x4 x6 Z dr;obtain⟨O,G,B,au⟩:=zN hn U Y Z dr (mi:=mi) (ys:=ys) L (O9 hk ks f) z4 (aV (.int i)) z6;refine⟨O,G,B,?_⟩;rw[cj];exact HX rfl rfl (M6 (b:=sJ) (w:=⟨ks.map fD,a0⟩) rfl e rfl) au
theorem yO{fn:String}{F:Fn}{xs:List D}{ks:List Key}(h:ae fn=aV F)(hl:xs.length=F.ps)(B:D.clean.cK vs=cf)(e:aT (BZ W ae n) W F.body (xs.map aV++i5 (F.ns-F.ps) a0) m=aV (.rt (.aI m.length),m++[.ao ks vs])):BZ W ae (n+1) fn xs m=aV (.ao ks vs,m):=by
 rw[NQ h hl,e];show (outD m.length (m++[.ao ks vs]) (.aI m.length)).map _=_;have:outD m.length (m++[.ao ks vs]) (.aI m.length)=aV (.ao ks vs):=by
  show (if m.length<m.length then a0 else match (m++[MO.ao ks vs])[m.length]? with
   | some (.lst xs)=>if D.clean.cK xs then aV (D.lst xs) else a0
   | some (.ao ks vs)=>if D.clean.cK vs then aV (D.ao ks vs) else a0
   | _=>a0)=_
  rw[ak (iA _),show (m++[MO.ao ks vs])[m.length]?=aV (.ao ks vs) by simp];show (if D.clean.cK vs then _ else _)=_;rw[B];rfl
 rw[this];show aV (_,(m++_).take m.length)=_;rw[List.take_left]
theorem ON(H:zD ae)(G:nm.length=4)(B:ib nm hk g){mine:List Str}(hm:∀x∈mine,x∈nm)(hu:∀k∈ks,k∈univ nm)(Y:∀k∈ks,k.1∈mine/\∀b,k.2.2=.inr b->b∈mine):∃l,l.Nodup/\(∀x∈l,x∈nm)/\(∀a,a∈l↔a∈hk\/a∈mine)/\BZ W ae (n+1) "_law_least" [.tup (CV hk g),.lst (mine.map .str),.lst (ks.map fD)] m=aV (bf l (QL hk ks (2*l.length+1) g),m):=by
 have lP:hk.length<=4:=by rw[<-G];exact B.nd.length_le_of_subset B.sub
 obtain⟨l,O,hl,DL,e1⟩:=FH (C:=BZ W ae n) (W:=W) (m:=m) G (hs:=.tup (CV hk g)) (mi:=.lst (mine.map .str)) (fl:=.lst (ks.map fD)) (ys:=mine.map .str) (x5:=a0) (x6:=a0) mine hk a0 B hm;have kx:l.length<=4:=by rw[<-G];exact hl.nd.length_le_of_subset hl.sub
 obtain⟨z4,z5,z6,U⟩:=zN (C:=BZ W ae n) (W:=W) (m:=m) (g:=g) B.nd lP kx hu (λk q=>⟨(DL _).mpr (.inr (Y k q).1),λb e=>(DL b).mpr (.inr ((Y k q).2 b e))⟩) (mi:=.lst (mine.map .str)) (ys:=(iS (2*l.length+1)).map λ(i:Nat)=>.int i) (iS (2*l.length+1)) g O a0 a0;rw[qw]at U;refine⟨l,hl.nd,hl.sub,DL,yO (ks:=DP l) (vs:=HJ l _) H.least rfl (gQ l _) ?_⟩;have len:cw .len (.aI m.length) (mS m l g)=aV (.int l.length,mS m l g):=by
  have Z:QF (.aI m.length) (mS m l g)=a0:=by simp only[QF,oS]
  show (match QF (.aI m.length) (mS m l g),HF (.aI m.length) (mS m l g) with
   | some xs,_=>aV (D.int xs.length,mS m l g)
   | none,aV (ks,_)=>aV (D.int ks.length,mS m l g)
   | none,a0=>a0)=_
  rw[Z,aB oS];show aV (D.int (DP l).length,_)=_;unfold DP;rw[a6]
 have rg:=kW (C:=BZ W ae n) (e:=.bin .add (.bin .mul (.con (.int 2)) (.b1 .len (.var 3))) (.con (.int 1))) (σ:=sL m.length (.tup (CV hk g)) (.lst (mine.map .str)) (.lst (ks.map fD)) O a0 a0) (m:=mS m l g) (j:=2*(l.length:Int)+1) (FW (FW rfl (G8 rfl len) (QS (by lia))) rfl rfl) (by lia);rw[show (2*(l.length:Int)+1).toNat=2*l.length+1 by lia]at rg;exact CN (d:=.aI m.length) (m1:=mS m hk g) (G8 rfl (X8 B.nd (by lia) cf m)) (M6 (b:=sO) (w:=⟨mine.map .str,a0⟩) rfl e1 (M6 (b:=sI) rg U (DQ rfl)))
noncomputable def Gk:bz:=ou (K1 2 aF)
noncomputable def sV(fo hs fl ns:D)(x4:Option D):DS:=[aV fo,aV hs,aV fl,aV ns,x4]
theorem O0{α:Type}{xs:List α}:cy xs (-1)=xs.getLast?:=by
 unfold cy um;rw[List.getLast?_eq_getElem?,ak (by lia)];cases xs with
 | nil=>rfl
 | cons a r=>
  rw[ah (by rw[hJ];lia),show (-1+((a::r).length:Int)).toNat=(a::r).length-1 by rw[hJ];lia];rfl
section
variable{ws:List Str}
theorem vK{G B:Ex}(U:ev C G σ m=aV (fD k,m))(O:ev C B σ m=aV (.lst (ks.map fD),m))(hk:k∈ks):ev C (.A7 G B) σ m=aV (.bl en,m):=by
 show (ev C G σ m).bind _=_;rw[U];show (ev C B σ m).bind _=_;rw[O];show (ml (fD k)).bind _=_;rw[rN];show (QM (ks.map fD)).map _=_;rw[jZ];show aV (D.bl (!ks.any λz=>eH (z=k)),m)=_;rw[List.any_eq_true.mpr ⟨k,hk,cz rfl⟩];rfl
theorem Oy{G B:Ex}{i j:Int}(Y:ev C G σ m=aV (.int i,m))(U:ev C B σ m=aV (.int j,m))(O:-(2 ^ 62)<=i/\i<2 ^ 62/\-(2 ^ 62)<=j/\j<2 ^ 62):ei C (.Bc G B) σ m=aV (⟨(iS (j-i).toNat).map λ(n:Nat)=>.int (i+n),a0⟩,m):=by
 show (ev C G σ m).bind _=_;rw[Y];show (ev C B σ m).bind _=_;rw[U];exact ah O
theorem Pd(w:Way ks s0 a ws):ws.length<=1000/\(∃x r,ws=x::r/\x∈s0)/\ws.getLast?=aV a/\∀(i:Nat) (x y:Str),ws[i]?=aV x->ws[i+1]?=aV y->(x,DW,(.inr y:Key))∈ks:=by
 induction w with
 | st h=>exact⟨by simp,⟨_,[],rfl,h⟩,rfl,λi x y _ q=>by simp at q⟩
 | @go a b ws _ e l U=>
  obtain⟨_,⟨x,r,O,h1⟩,G,Z⟩:=U;refine⟨by rw[fA,nI];lia,⟨x,r++[a],by rw[O];rfl,h1⟩,by simp,λi x y C B=>?_⟩;rw[List.getElem?_append]at C B
  by_cases q:i+1<ws.length
  .rw[ah q]at B
   rw[ah (by lia)]at C;exact Z i x y C B
  .rw[ak q]at B
   have Y:i+1-ws.length=0:=by
    have:=(fx.mp B).1;rw[nI]at this;lia
   rw[Y]at B;obtain rfl:a=y:=b5 B;have h0:0<ws.length:=by rw[O];simp
   rw[ah (by lia)]at C;rw[List.getLast?_eq_getElem?,show ws.length-1=i by lia,C]at G;rw[b5 G];exact e
theorem zP{fo hs:D}{ys:List D}(h:∀(i:Nat) (x y:Str),ws[i]?=aV x->ws[i+1]?=aV y->(x,DW,(.inr y:Key))∈ks):∀(L:List Nat) (x4:Option D),(∀i∈L,i+1<ws.length)->∃B,forL ⟨ys,a0⟩ (.nm 4) (λ σ m=>aT C W Gk σ m) (L.map λ(i:Nat)=>.int (1+i)) (sV fo hs (.lst (ks.map fD)) (.lst (ws.map .str)) x4) m=aV (.nx (sV fo hs (.lst (ks.map fD)) (.lst (ws.map .str)) B),m)
 | [],x4,_=>⟨x4,K8 rfl⟩
 | i::L,x4,G=>by
  obtain⟨B,e⟩:=zP (fo:=fo) (hs:=hs) (ys:=ys) h L (aV (.int (1+i))) λj Y=>G j (bx _ Y)
  have hi:=G i bw;have U:ws[i]?=aV ws[i]:=eg (by lia);have O:ws[i+1]?=aV ws[i+1]:=eg hi;have i1:ke (.lst (ws.map .str)) (.int (1+(i:Int)-1)) m=aV (.str ws[i]):=by
   show cy (ws.map D.str) (1+(i:Int)-1)=_;rw[show 1+(i:Int)-1=(i:Nat) by lia];exact KN (by rw[O6,U])
  have i2:ke (.lst (ws.map .str)) (.int (1+(i:Int))) m=aV (.str ws[i+1]):=by
   show cy (ws.map D.str) (1+(i:Int))=_;rw[show 1+(i:Int)=((i+1:Nat):Int) by lia];exact KN (by rw[O6,O])
  have hk:=h i _ _ U O;refine⟨B,?_⟩;rw[cj];refine HX rfl rfl (DX (FP (vK (k:=(ws[i],DW,.inr ws[i+1])) (HD (BW (JR rfl (FW rfl rfl rfl) i1) (BW (HD (BW rfl (BW (JR rfl rfl i2) rfl)) (fR rfl)) rfl)) (fR rfl)) rfl hk) rfl) rfl) e
theorem LX(H:zD ae)(h4:nm.length=4)(U:ib nm hk g)(hu:(a,t)∈univ nm)(w:Way ks (nX hk g v) a ws)(ht:(a,t)∈ks)(B:V4 hk g v t=cf):BZ W ae (n+2) "_law_is_trail" [lg ws t,.tup (CV hk g),.lst (ks.map fD)] m=aV (.bl cf,m):=by
 have lP:hk.length<=4:=by rw[<-h4];exact U.nd.length_le_of_subset U.sub
 obtain⟨w1,⟨x,r,rfl,O⟩,w3,w4⟩:=Pd w;obtain⟨O,Y⟩:=me O;have Y:g x=v:=eW Y;have hd:cw (.dict en) (.tup (CV hk g)) m=aV (bf hk g,m):=X8 U.nd (by lia) en _;have go:=FL (W:=W) (n:=n) (m:=m) H U (TV _ hu);have lt:l8 g (a,t)<g x:=by
  rw[Y];obtain⟨kd,j | b⟩:=t
  .exact eW B
  .have B:(if b∈hk then g b else v)<v:=eW B
   by_cases q:b∈hk
   .rw[ah q]at B;exact B
   .rw[ak q]at B;lia
 obtain⟨y4,e⟩:=zP (C:=BZ W ae (n+1)) (W:=W) (m:=m) (fo:=lg (x::r) t) (hs:=.tup (CV hk g)) (ys:=(iS r.length).map λ(i:Nat)=>.int (1+i)) w4 (iS r.length) a0 λi hi=>by rw[hJ];have:=my.mp hi;lia
 have rg:ei (BZ W ae (n+1)) (.Bc (.con (.int 1)) (.b1 .len (.var 3))) (sV (lg (x::r) t) (.tup (CV hk g)) (.lst (ks.map fD)) (.lst ((x::r).map .str)) a0) m=aV (⟨(iS r.length).map λ(i:Nat)=>.int (1+i),a0⟩,m):=by
  rw[hJ]at w1;have hl:cw .len (.lst ((x::r).map .str)) m=aV (.int (r.length+1),m):=by
   show aV (D.int (((x::r).map D.str).length:Nat),m)=_;rw[a6,hJ];rfl
  rw[Oy (i:=1) (j:=r.length+1) rfl (G8 rfl hl) (by lia),show ((r.length:Int)+1-1).toNat=r.length by lia]
 have i1:ke (.lst ((x::r).map .str)) (.int (-1)) m=aV (.str a):=by
  show cy ((x::r).map D.str) (-1)=_;exact KN (by rw[O0,w3])
 have Z:ev (BZ W ae (n+1)) (.oT (.ix (.ix (.var 0) (.con (.int 1))) (.con (.int 0))) (.b1 (.dict en) (.var 1))) [aV (lg (x::r) t),aV (.tup (CV hk g)),aV (.lst (ks.map fD)),a0,a0] m=aV (.bl (!decide (x∈hk)),m):=by
  refine(U9 (x:=.str x) (y:=bf hk g) (k:=.inr x) (JR (d:=.tup ((x::r).map .str)) (d2:=.int 0) rfl rfl GI) (G8 rfl hd) rfl rfl).trans ?_;rw[aY]
 rw[cz O]at Z;have G:et (BZ W ae (n+1)) (.and (.val (.cmp .eq (.ix (.ix (.var 0) (.con (.int 2))) (.con (.int 0))) (.con (.str "name")))) (.val (.oT (.ix (.ix (.var 0) (.con (.int 2))) (.con (.int 1))) (.b1 (.dict en) (.var 1))))) (sV (lg (x::r) t) (.tup (CV hk g)) (.lst (ks.map fD)) (.lst ((x::r).map .str)) y4) m=aV (en,m):=by
  rcases QW hu with ⟨j,_,e⟩ | ⟨b,_,e⟩
  .obtain rfl:t=_:=e
   exact N6 (J6 (p:=("page":Str)="name") rfl (gX (by decide)))
  .obtain rfl:t=_:=e
   have B:(if b∈hk then g b else v)<v:=eW B;have q:b∈hk:=OX λq=>by rw[ak q]at B;lia
   refine K5 (JZ (p:=("name":Str)="name") rfl rfl) (FP (d:=.bl (!decide (b∈hk))) ?_ (by rw[cz q];rfl));rw[U9 (x:=.str b) (y:=bf hk g) (k:=.inr b) rfl (G8 rfl hd) rfl rfl,aY]
 have cm:LC .lt (.int (l8 g (a,t))) (.int (g x))=aV cf:=by
  show aV (decide _)=_;rw[cz lt]
 refine FJ (n:=n+1) H.WG rfl rfl ?_;exact DX (T4 (Gg (p:=(3:Int)=3) rfl rfl) (T4 rfl (T4 rfl (FP Z rfl)))) (CN rfl (M6 (b:=Gk) rg e (DX (FP (vK (k:=(a,t)) (HD (BW (JR rfl rfl i1) (BW rfl rfl)) (fR rfl)) rfl ht) rfl) (DX G (DQ (J0 (CG go (BW rfl (BW (G8 rfl hd) rfl))) (T3 (x:=bf hk g) (y:=.str x) (G8 rfl hd) (JR (d:=.lst ((x::r).map .str)) (d2:=.int 0) rfl rfl GI) rfl rfl (JK O)) cm))))))
end
theorem vM:∀(ps:List (Str×Int)) (k:Nat),T5 (ps.map J1) k=(ps.zipIdx k).map λa=>.tup [.int a.2,J1 a.1]
 | [],_=>rfl
 | p::r,k=>by
  rw[List.zipIdx_cons,cj,cj];exact congrArg _ (vM r (k+1))
theorem vI{α β:Type}(P:α->Bool)(f:α->β):∀l:List α,(l.filterMap λa=>if P a=cf then aV (f a) else a0)=(l.filter P).map f
 | []=>rfl
 | a::r=>by
  have B:=vI P f r;cases h:P a<;>simp[tE,List.filter_cons,h,B]
theorem NX(HP:Co ae){P:D}:∃(hk:List Str) (g:Str->Int),ib (GJ (EY ns 0)) hk g/\(∀x,0<=g x/\g x<=2)/\∀{X},(∀C,aT (BZ W ae (n+19)) W (K1 5 iK) [aV (.b9 ns),aV P,aV (.lst ((GJ (EY ns 0)).map .str)),C,aV (.tup (CV hk g)),a0,a0,a0,a0,a0] []=X)->aT (BZ W ae (n+19)) W (K1 2 iK) [aV (.b9 ns),aV P,aV (.lst ((GJ (EY ns 0)).map .str)),a0,a0,a0,a0,a0,a0,a0] []=X:=by
 generalize hq:EY ns 0=q;have cell:∀k:Nat,BZ W ae (n+19) "_law_cell" [.b9 ns,.int k] []=aV (.int (EY ns k),[]):=λk=>lH HP.cell
 have mix:∀{c p k:Int},0<p->0<k->BZ W ae (n+19) "_law_mix" [.int c,.int p,.int k] []=aV (.int (G3 c p k),[]):=λU B=>O4 HP.mix U B
 have AW:=pC (W:=W) (n:=n+17) (m:=[]) HP.mix HP.cell HP.levels (ns:=ns);have rest:∀ps:List (Str×Int),ps.map (·.1)=GJ q->(∀p∈ps,0<=p.2/\p.2<=2)->∃(hk:List Str) (g:Str->Int),ib (GJ q) hk g/\(∀x,0<=g x/\g x<=2)/\∀{X},aT (BZ W ae (n+19)) W (K1 5 iK) [aV (.b9 ns),aV P,aV (.lst ((GJ q).map .str)),aV (.lst (ps.map J1)),aV (.tup (CV hk g)),a0,a0,a0,a0,a0] []=X->aT (BZ W ae (n+19)) W (K1 4 iK) [aV (.b9 ns),aV P,aV (.lst ((GJ q).map .str)),aV (.lst (ps.map J1)),a0,a0,a0,a0,a0,a0] []=X:=λps U B=>by
  have hl:ps.length=4:=by rw[<-a6 (f:=(·.1)),U];rfl
  have comp:ev (BZ W ae (n+19)) (.comp en 2 (.tp [(.nm 10),(.nm 11)]) (.enum (.var 3)) (.val (.cmp .gt (.call "_law_mix" (.cons (.bin .add (.call "_law_cell" (.cons (.var 0) (.cons (.con (.int 7)) .nil))) (.var 10)) (.cons (.con (.int 9787)) (.cons (.con (.int 3)) .nil)))) (.con (.int 0)))) (.var 11)) [aV (.b9 ns),aV P,aV (.lst ((GJ q).map .str)),aV (.lst (ps.map J1)),a0,a0,a0,a0,a0,a0] []=aV (.lst (((ps.zipIdx.filter λa=>eH (0<G3 (EY ns 7+a.2) 9787 3)).map (·.1)).map J1),[]):=by
   rw[JF (xs:=ps.zipIdx) (dd:=λa=>.tup [.int a.2,J1 a.1]) (h:=λa=>if eH (0<G3 (EY ns 7+a.2) 9787 3)=cf then aV (J1 a.1) else a0) rfl (by rw[<-vM];exact Oz rfl) (by rw[List.length_zipIdx];lia)]
   .rw[vI (λa:(Str×Int)×Nat=>eH (0<G3 (EY ns 7+a.2) 9787 3)) (λa=>J1 a.1),b6];rfl
   .refine λa _=>⟨[aV (.b9 ns),aV P,aV (.lst ((GJ q).map .str)),aV (.lst (ps.map J1)),a0,a0,a0,a0,a0,a0,aV (.int a.2),aV (J1 a.1)],eH (0<G3 (EY ns 7+a.2) 9787 3),rfl,FP (J0 (CG (mix (by lia) (by lia)) (BW (FW (CG (cell 7) rfl) rfl rfl) rfl)) rfl rfl) rfl,?_⟩
    cases eH (0<G3 (EY ns 7+a.2) 9787 3) with
    | true=>exact⟨rfl,rfl⟩
    | false=>rfl
  have sub:((ps.zipIdx.filter λa=>eH (0<G3 (EY ns 7+a.2) 9787 3)).map (·.1)).Sublist ps:=by
   have:=(List.filter_sublist (p:=λa:(Str×Int)×Nat=>eH (0<G3 (EY ns 7+a.2) 9787 3)) (l:=ps.zipIdx)).map (·.1)
   rwa [List.zipIdx_map_fst]at this
  generalize (ps.zipIdx.filter λa=>eH (0<G3 (EY ns 7+a.2) 9787 3)).map (·.1)=qs at comp sub;have Z:(ps.map (·.1)).Nodup:=by rw[U];exact names_nodup q
  obtain⟨hk,g,O,G,e⟩:=LF (nm:=GJ q) (ps:=qs) ((sub.map (·.1)).nodup Z) (λp hp=>by rw[<-U];exact gh (sub.subset hp)) (by have:=sub.length_le;lia) (λp hp=>B p (sub.subset hp)) rfl [];exact⟨hk,g,O,G,λ {X} h=>CN (G8 (G8 comp e) rfl) h⟩
 have comp:∀{C},ev (BZ W ae (n+19)) (.comp en 1 (.nm 10) (.jx (.con (.int 4))) .tt (.tup (.cons (.ix (.var 2) (.var 10)) (.cons (.call "_law_mix" (.cons (.bin .add (.call "_law_cell" (.cons (.var 0) (.cons (.con (.int 6)) .nil))) (.bin .mul (.con (.int 7)) (.var 10))) (.cons (.con (.int 9803)) (.cons (.con (.int 3)) .nil)))) .nil)))) [aV (.b9 ns),aV P,aV (.lst ((GJ q).map .str)),C,a0,a0,a0,a0,a0,a0] []=aV (.lst ((([0,1,2,3]:List Nat).map λi=>(KR q i,G3 (EY ns 6+7*i) 9803 3)).map J1),[]):=λ {C}=>by
  rw[JF (xs:=([0,1,2,3]:List Nat)) (dd:=λ(i:Nat)=>.int i) (h:=λi=>aV (J1 (KR q i,G3 (EY ns 6+7*i) 9803 3))) rfl (kW (j:=4) rfl (by lia)) (fR rfl)]
  .rfl
  .refine λi hi=>⟨[aV (.b9 ns),aV P,aV (.lst ((GJ q).map .str)),C,a0,a0,a0,a0,a0,a0,aV (.int i)],cf,rfl,rfl,?_⟩
   rw[ah rfl];refine⟨rfl,HD (BW (JR (d:=.lst ((GJ q).map .str)) (d2:=.int i) rfl rfl ?_) (BW (CG (mix (by lia) (by lia)) (BW (FW (CG (cell 6) rfl) (FW rfl rfl (QS (by lia))) rfl) rfl)) rfl)) (fR rfl)⟩;rw[QH,O6];simp only[h7,jI,or_false]at hi;rcases hi with rfl | rfl | rfl | rfl<;>rfl
 have Y:=λi:Nat=>JD (EY ns 6+7*i) 9803 (k:=3) (by decide)
 by_cases B:EY ns 6 % 2=0
 .obtain⟨hk,g,O,G,e⟩:=rest ((GJ q).zip (P0 (EY ns 1))) rfl λp hp=>by
   have:=oF (EY ns 1) p.2 (List.of_mem_zip hp).2;lia
  refine⟨hk,g,O,G,λ {X} h=>CN comp (K3 (JZ (p:=EY ns 6 % 2=0) (FP (J0 (FW (CG (cell 6) rfl) rfl (UJ (by lia))) rfl rfl) rfl) B) (CN (d:=.lst (((GJ q).zip (P0 (EY ns 1))).map J1)) ?_ rfl) (e (h _)))⟩;show (ev (BZ W ae (n+19)) (.call "_law_levels" (.cons (.var 0) .nil)) _ _).bind _=_;rw[CG AW rfl];rfl
 .obtain⟨hk,g,O,G,e⟩:=rest (([0,1,2,3]:List Nat).map λi=>(KR q i,G3 (EY ns 6+7*i) 9803 3)) rfl λp hp=>by
   obtain⟨i,_,rfl⟩:=ck hp;have:=Y i;lia
  exact⟨hk,g,O,G,λ {X} h=>CN comp (DX (J6 (p:=EY ns 6 % 2=0) (FP (J0 (FW (CG (cell 6) rfl) rfl (UJ (by lia))) rfl rfl) rfl) B) (e (h _)))⟩
theorem Q3(Z:∀x∈nm,(PyData.str x).canLay0=cf)(hu:k∈univ nm)(hx:x∈nm):LC .eq (.tup [.str "name",.str x]) (ff k.2)=aV (eH (k.2=(DW,.inr x))):=by
 have Hk:∀a c:Str,(a==c)=eH (a=c):=λa c=>by cases a;cases c;rfl
 have B:∀{a b:PyData},a.canLay0=cf->b.canLay0=cf->a.depth<=60->(if (a.canLay0&&b.canLay0&&eH (min a.depth b.depth<=60))=cf then aV (PyData.eqv a b) else a0)=aV (PyData.eqv a b):=λO G h3=>ah (by rw[O,G,cz (by lia)];rfl)
 have hn:(PyData.str DW).canLay0=cf:=by decide +kernel
 have hp:(PyData.str JM).canLay0=cf:=by decide +kernel
 have two:∀{a b:D},qE 1 a=cf->qE 1 b=cf->qE 2 (.tup [a,b])=cf:=λ {a b} O G=>by
  show (qE 1 a&&(qE 1 b&&cf))=cf;rw[O,G];rfl
 obtain⟨p1,e1,c1,d1⟩:=uN (two (a:=.str DW) (b:=.str x) hn (Z x hx));obtain rfl:PyData.tuple [.str DW,.str x]=p1:=b5 e1;obtain⟨a,t⟩:=k;rcases QW hu with ⟨j,_,e⟩ | ⟨b,hb,e⟩
 .obtain rfl:t=_:=e
  obtain⟨C,U,Y,d2⟩:=uN (two (a:=.str JM) (b:=.int j) hp rfl);obtain rfl:PyData.tuple [.str JM,.int j]=C:=b5 U;refine(B c1 Y (by lia)).trans ?_;rw[df (λz:(JM,(.inl j:Key))=(DW,.inr x)=>nomatch (Prod.mk.inj z).2)];simp[PyData.eqv,PyData.eqvAll]
 .obtain rfl:t=_:=e
  obtain⟨C,U,Y,d2⟩:=uN (two (a:=.str DW) (b:=.str b) hn (Z b hb));obtain rfl:PyData.tuple [.str DW,.str b]=C:=b5 U;refine(B c1 Y (by lia)).trans ?_;have:PyData.eqv (.tuple [.str DW,.str x]) (.tuple [.str DW,.str b])=((DW==DW)&&(x==b)):=by simp[PyData.eqv,PyData.eqvAll]
  rw[this,Hk,Hk,cz rfl,Bool.true_and];congr 1;refine decide_eq_decide.mpr ⟨λz=>by rw[z],λz=>(j1 (Prod.mk.inj z).2).symm⟩
noncomputable def WR(nm:List Str)(ks:List FK):List Str:=nm.filter λx=>ks.any λk=>eH (x=k.1)||decide (k.2=(DW,.inr x))
theorem AZ:x∈WR nm ks↔x∈nm/\∃k∈ks,x=k.1\/k.2=(DW,.inr x):=by
 unfold WR;rw[zj,tT];exact and_congr_right λ_=>exists_congr λk=>and_congr_right λ_=>by rw[Bool.or_eq_true,decide_eq_true_iff,decide_eq_true_iff]
theorem Qs(h4:nm.length=4)(Y:∀x∈nm,(PyData.str x).canLay0=cf)(hl:ks.length<=28)(hu:∀k∈ks,k∈univ nm){U O G x4 x6 x7 x8 B:Option D}:ev C (.comp en 1 (.nm 10) (.seq (.var 2)) (.val (.comp en 1 (.nm 11) (.seq (.var 5)) (.or (.val (.cmp .eq (.var 10) (.ix (.var 11) (.con (.int 0))))) (.val (.cmp .eq (.tup (.cons (.con (.str "name")) (.cons (.var 10) .nil))) (.ix (.var 11) (.con (.int 1)))))) (.var 11))) (.var 10)) [U,O,aV (.lst (nm.map .str)),G,x4,aV (.lst (ks.map fD)),x6,x7,x8,B] []=aV (.lst ((WR nm ks).map .str),[]):=by
 rw[JF (xs:=nm) (dd:=.str) (h:=λx=>if (ks.any λk=>eH (x=k.1)||decide (k.2=(DW,.inr x)))=cf then aV (.str x) else a0) rfl (N7 rfl) (by lia)]
 .rw[vI (λx=>ks.any λk=>eH (x=k.1)||decide (k.2=(DW,.inr x))) D.str];rfl
 .intro x Z
  refine⟨[U,O,aV (.lst (nm.map .str)),G,x4,aV (.lst (ks.map fD)),x6,x7,x8,B,aV (.str x)],ks.any λk=>eH (x=k.1)||decide (k.2=(DW,.inr x)),rfl,?_,?_⟩
  .refine FP (d:=.lst ((ks.filter λk=>eH (x=k.1)||decide (k.2=(DW,.inr x))).map fD)) ?_ ?_
   .rw[JF (xs:=ks) (dd:=fD) (h:=λk=>if (eH (x=k.1)||decide (k.2=(DW,.inr x)))=cf then aV (fD k) else a0) rfl (N7 rfl) (by lia)]
    .rw[vI (λk:FK=>eH (x=k.1)||decide (k.2=(DW,.inr x))) fD]
    .intro k hk
     refine⟨[U,O,aV (.lst (nm.map .str)),G,x4,aV (.lst (ks.map fD)),x6,x7,x8,B,aV (.str x),aV (fD k)],eH (x=k.1)||decide (k.2=(DW,.inr x)),rfl,kI rfl (FP (J0 (HD rfl (fR rfl)) rfl (Q3 Y (hu k hk) Z)) rfl),?_⟩;cases eH (x=k.1)||decide (k.2=(DW,.inr x)) with
     | true=>exact⟨rfl,rfl⟩
     | false=>rfl
   .show aV (!((ks.filter _).map fD).isEmpty)=_
    congr 1;rw[List.isEmpty_map,List.any_eq_not_all_not];congr 1;rw[Bool.eq_iff_iff,List.isEmpty_iff,List.filter_eq_nil_iff,P2];exact forall_congr' λk=>forall_congr' λ_=>by simp
  .cases ks.any λk=>eH (x=k.1)||decide (k.2=(DW,.inr x)) with
   | true=>exact⟨rfl,rfl⟩
   | false=>rfl
theorem ne_self{a:D}(h:kj a a=aV cf):LC .ne a a=aV en:=by
 rw[Rc,h];rfl
theorem Q2{t:Te}{m1:Mem}{c:Bool}(h:et C t σ m=aV (c,m1)):et C (.not t) σ m=aV (!c,m1):=by
 show (et C t σ m).map _=_;rw[h];rfl
theorem Ov{a b:Ex}{m1:Mem}{z:D×Mem}(h:ev C a σ m=aV (.bl cf,m1))(k:ev C b σ m1=aV z):ev C (.Cy a b) σ m=aV z:=by
 show (ev C a σ m).bind _=_;rw[h];exact k
theorem lX(h:k∈univ nm):k.1∈nm:=by
 obtain⟨y,B,h⟩:=List.mem_flatMap.mp h;rcases dg h with h | h
 .simp only[h7,jI,or_false]at h
  rcases h with rfl | rfl | rfl<;>exact B
 .obtain⟨x,_,rfl⟩:=ck h
  exact B
theorem xT(qs:List (Str×Int)):JH (qs.map J1)=aV qs:=by
 induction qs with
 | nil=>rfl
 | cons a r B=>
  show (JH (r.map J1)).map _=_;rw[B];rfl
theorem mG{a b:List Str}(h:a.Perm b):CQ a=CQ b:=
 yz (le:=λa b=>G6 a b=cf) (λa b _ _ C B=>T.zf C B) (RZ _) (RZ _) ((jb a _).trans (h.trans (jb b _).symm))
section
variable{s:List Str}{x0 x1 x3 x4 x5 x6 x8 x9:Option D}
theorem F9(l:List Str):(DP l).map cw.kD=l.map .str:=by
 unfold DP;rw[b6];rfl
theorem zA(h:s.length<=4):cw (.Bd en) (bf s f) []=aV (.lst ((CQ s).map .str),[]):=by
 show (if (DP s).length<64 then (strsOf ((DP s).map cw.kD)).map (λB=>bj en ((CQ B).map .str) []) else a0)=_;rw[F9,TX,ah (by unfold DP;rw[a6];lia)];rfl
theorem OY(h:s.length<=4):cw (.El en) (bf s f) []=aV (.lst (s.map .str),[]):=by
 show (if (DP s).length<=1000 then (strsOf ((DP s).map cw.kD)).map (λB=>bj en (B.map .str) []) else a0)=_;rw[F9,TX,ah (by unfold DP;rw[a6];lia)];rfl
theorem pJ{ys:List Str}(hs:s.Nodup)(G:s.length<=4)(C:∀x,x∈s↔x∈ys)(hl:ys.length<=4000):cw (.Bg en) (.lst (ys.map .str)) []=aV (.lst ((CQ s).map .str),[]):=by
 have pm:=YB hs C;show ((strsOf (ys.map .str)).bind λB=>if B.length<=4000/\(uniq B).length<64 then aV (bj en ((CQ (uniq B)).map .str) []) else a0)=_;rw[TX,bS,ah ⟨hl,by rw[<-pm.length_eq];lia⟩,<-mG pm];rfl
theorem sW(hs:s.Nodup)(C:s.length<=4)(hi:CQ s=s):cw (.Bf en) (.tup (CV s f)) []=aV (.lst (CV s f),[]):=by
 have hp:CV s f=(s.map λa=>(a,f a)).map J1:=by unfold CV;rw[b6];rfl
 have B:(s.map λa=>(a,f a)).map (·.1)=s:=by rw[b6];exact List.map_id'' (λ_=>rfl) s
 show ((JH (CV s f)).bind λps=>if ps.length<64/\(ps.map (·.1)).Nodup then aV (bj en ((G9 ps).map J1) []) else a0)=_;rw[hp,xT,bS,ah ⟨by rw[a6];lia,by rw[B];exact hs⟩,W5,hi,<-hp];rfl
theorem vN{e:Ex}(h:ev C e σ []=aV (bf l f,[])):ei C (.keys e) σ []=aV (⟨l.map .str,a0⟩,[]):=by
 show (ev C e σ []).bind _=_;rw[h];show aV ((⟨(DP l).map eK,a0⟩:Walk),([]:Mem))=_;unfold DP;rw[b6];rfl
theorem Ge{α β:Type}(l:List α):(l.filterMap λ_=>(a0:Option β))=[]:=by
 induction l with
 | nil=>rfl
 | cons a r B=>exact B
theorem eq_int(i:Int):kj (.int i) (.int i)=aV cf:=congrArg aV (cz rfl)
theorem Qq(hl:l.length<=4)(h:∀x∈l,x∈s):ev C (.comp en 1 (.nm 10) (.keys (.var 7)) (.val (.cmp .ne (.get (.var 9) (.var 10) (.con (.int 3))) (.qz (.var 7) (.var 10)))) (.var 10)) [x0,x1,aV (.lst (nm.map .str)),x3,x4,x5,x6,aV (bf l f),x8,aV (bf s f)] []=aV (.lst [],[]):=by
 rw[JF (xs:=l) (dd:=.str) (h:=λ_=>a0) rfl (vN rfl) (by lia),Ge];intro x B;refine⟨[x0,x1,aV (.lst (nm.map .str)),x3,x4,x5,x6,aV (bf l f),x8,aV (bf s f),aV (.str x)],en,rfl,FP (d:=.bl en) (J0 (d:=.int (f x)) (d2:=.int (f x)) ?_ (T3 (x:=bf l f) (y:=.str x) rfl rfl rfl rfl (JK B)) (ne_self (eq_int _))) rfl,rfl⟩;rw[bA (x:=bf s f) (y:=.str x) (u:=.int 3) (kk:=.inr x) rfl rfl rfl rfl rfl,JK (h x B)];rfl
theorem Qr(hs:s.length<=4)(U:∀x∈s,x∈nm)(hz:∀x,x∉l->f x=0):ev C (.comp en 1 (.nm 10) (.keys (.var 9)) (.or (.val (.cmp .yT (.var 10) (.var 2))) (.and (.val (.oT (.var 10) (.var 7))) (.val (.cmp .ne (.qz (.var 9) (.var 10)) (.con (.int 0)))))) (.var 10)) [x0,x1,aV (.lst (nm.map .str)),x3,x4,x5,x6,aV (bf l f),x8,aV (bf s f)] []=aV (.lst [],[]):=by
 rw[JF (xs:=s) (dd:=.str) (h:=λ_=>a0) rfl (vN rfl) (by lia),Ge];intro x G;have O:LC .yT (.str x) (.lst (nm.map .str))=aV en:=by
  show (if (nm.map D.str).all D.flat then aV (!inD (.str x) (nm.map .str)) else a0)=_;rw[YT,ah rfl,show inD (.str x) (nm.map .str)=cf from List.any_eq_true.mpr ⟨.str x,gh (U x G),cz rfl⟩];rfl
 have B:ev C (.oT (.var 10) (.var 7)) [x0,x1,aV (.lst (nm.map .str)),x3,x4,x5,x6,aV (bf l f),x8,aV (bf s f),aV (.str x)] []=aV (.bl (!decide (x∈l)),[]):=by
  rw[U9 (x:=.str x) (y:=bf l f) (k:=.inr x) rfl rfl rfl rfl,aY]
 refine⟨[x0,x1,aV (.lst (nm.map .str)),x3,x4,x5,x6,aV (bf l f),x8,aV (bf s f),aV (.str x)],en,rfl,T4 (FP (d:=.bl en) (J0 rfl rfl O) rfl) ?_,rfl⟩
 by_cases h:x∈l
 .rw[cz h]at B
  exact N6 (FP B rfl)
 .rw[df h]at B
  exact K5 (FP B rfl) (FP (d:=.bl en) (J0 (d:=.int (f x)) (d2:=.int 0) (T3 (x:=bf s f) (y:=.str x) rfl rfl rfl rfl (JK G)) rfl (by rw[hz x h];exact ne_self (eq_int 0))) rfl)
end
theorem NW(HP:Co ae)(HW:lV ae)(HT:dW ae)(HK:zD ae)(Hl:ae "_law_flows" = aV dZ)(HL:ae "law" = aV u7)(hW:2500<=W):BZ W ae (n+20) "law" [.b9 ns] []=aV (.bl cf,[]):=by
 refine FJ (n:=n+19) HL rfl rfl ?_;obtain⟨p,ho,hd,hz,e1⟩:=yW (W:=W) HP (ns:=ns) (k:=2);have e1:=e1 (n+9) [];have e2:=vZ (W:=W) (n:=n+16) (m:=[]) HP.mix HP.cell HP.name HP.names (ns:=ns);obtain⟨hk,g,hS,hg,eh⟩:=NX (W:=W) (n:=n) HP (ns:=ns) (P:=.tup (dB p));have qo:∀x∈GJ (EY ns 0),(PyData.str x).canLay0=cf:=λx this=>by
  simp only[GJ,h7,jI,or_false]at this;rcases this with rfl | rfl | rfl | rfl<;>exact Ly _ _
 have U:(GJ (EY ns 0)).length=4:=rfl;generalize GJ (EY ns 0)=nm at *;have lP:hk.length<=4:=by rw[<-U];exact hS.nd.length_le_of_subset hS.sub
 obtain⟨kl,l1,l2,l3,l4⟩:=LY (W:=W) HP.JJ Hl U 4 (n+18) p (by lia) (by lia) ho hd (by lia) [] [] (by simp) (by simp;lia);obtain⟨Yo,Yp⟩:=aX kl;rw[<-Yo]at l3;have G:∀k,k∈HN kl↔k∈fe [] p:=λk=>by rw[Yp,l2]
 generalize HN kl=ks at l3 l4 G;have Z:∀k∈ks,k∈univ nm:=λk h=>K9 ho (by simp) k ((G k).mp h)
 have dr:∀k∈ks,k.1∈WR nm ks/\∀b,k.2.2=.inr b->b∈WR nm ks:=λk h=>⟨AZ.mpr ⟨lX (Z k h),k,h,.inl rfl⟩,λb e=>by
  rcases QW (Z k h) with ⟨j,_,q⟩ | ⟨c,hc,q⟩
  .rw[q]at e;cases e
  .rw[q]at e;cases e
   exact AZ.mpr ⟨hc,k,h,.inr q⟩⟩
 obtain⟨l,ln,Jx,lm,e7⟩:=ON (W:=W) (n:=n+18) (m:=[]) HK U hS (mine:=WR nm ks) (λx h=>(AZ.mp h).1) Z dr;have L:=LB (F:=fe [] p) (ks:=ks) (l:=l) (nm:=nm) (λx _=>hg x) G Z (λk h b e=>(lm b).mpr (.inr ((dr k h).2 b e))) hS.zero;generalize QL hk ks (2*l.length+1) g=f at e7 L;have Ay:ib nm l f:=⟨ln,Jx,λx B=>(L.lr x).resolve_right λr=>B ((lm x).mpr (by
  cases r with
  | st q=>exact .inl (me q).1
  | go _ e _=>exact .inr ((dr _ ((G _).mpr e)).2 x rfl)))⟩
 have kx:l.length<=4:=by rw[<-U];exact ln.length_le_of_subset Jx
 have top:∀{d:D} {X},BZ W ae (n+19) "settled" [.tup (dB p),.tup (CV hk g)] []=aV (d,[])->(∀O,aT (BZ W ae (n+19)) W (K1 9 iK) [aV (.b9 ns),aV (.tup (dB p)),aV (.lst (nm.map .str)),O,aV (.tup (CV hk g)),aV (.lst (ks.map fD)),aV (.lst ((WR nm ks).map .str)),aV (bf l f),aV d,a0] []=X)->aT (BZ W ae (n+19)) W u7.body ([D.b9 ns].map aV++i5 (u7.ns-u7.ps) a0) []=X:=λ {d X} k h=>
  CN (CG e1 rfl) (CN (CG e2 rfl) (eh λO=>CN (CG l4 rfl) (CN (Qs U qo l3 Z) (CN (CG e7 rfl) (CN (CG k rfl) (h O))))))
 have ea:∀{O x8:Option D},et (BZ W ae (n+19)) (.not (.val (.b1 .all (.comp en 1 (.nm 10) (.seq (.var 5)) .tt (.cmp .le (.qz (.var 7) (.ix (.var 10) (.con (.int 0)))) (.call "_law_goal" (.cons (.ix (.var 10) (.con (.int 1))) (.cons (.var 7) .nil)))))))) [aV (.b9 ns),aV (.tup (dB p)),aV (.lst (nm.map .str)),O,aV (.tup (CV hk g)),aV (.lst (ks.map fD)),aV (.lst ((WR nm ks).map .str)),aV (bf l f),x8,a0] []=aV (!(ks.all λk=>eH (f k.1<=l8 f k)),[]):=λ {O x8}=>by
  refine Q2 (FP (G8 (d:=.lst (ks.map λk=>.bl (eH (f k.1<=l8 f k)))) ?_ (Pa _ ks [])) rfl);rw[JF (xs:=ks) (dd:=fD) (h:=λk=>aV (.bl (eH (f k.1<=l8 f k)))) rfl (N7 rfl) (by lia)]
  .rw[r8]
  .intro k C
   refine⟨[aV (.b9 ns),aV (.tup (dB p)),aV (.lst (nm.map .str)),O,aV (.tup (CV hk g)),aV (.lst (ks.map fD)),aV (.lst ((WR nm ks).map .str)),aV (bf l f),x8,a0,aV (fD k)],cf,rfl,rfl,?_⟩;rw[ah rfl];exact⟨rfl,J0 (d:=.int (f k.1)) (d2:=.int (l8 f k)) (T3 (x:=bf l f) (y:=.str k.1) rfl rfl rfl rfl (JK ((lm _).mpr (.inr (dr k C).1)))) (CG (FL (n:=n+18) HK Ay (TV k (Z k C))) rfl) rfl⟩
 have st:=yU (W:=W) (n:=n+5) (m:=[]) HT HW U (by lia) ho hd hz (g:=g) hS.nd hS.sub λx _=>hg x
 by_cases hB:∀k∈fe [] p,f k.1<=l8 f k
 .rw[P2.mpr λk h=>cz (hB k ((G k).mp h))]at ea
  rcases st with ⟨Y,dj,k1,k2,k3,k4,k5⟩ | ⟨v,a,ws,t,k1,k2,k3,k4,k5⟩
  .rw[L.eq k3]at k5
   have pm:(CQ Y).Perm Y:=jb _ _;have hi:CQ (CQ Y)=CQ Y:=mG pm;have sn:(CQ Y).Nodup:=pm.nodup_iff.mpr k1.nd;have ss:∀x∈CQ Y,x∈nm:=λx h=>k1.sub x (pm.mem_iff.mp h)
   have sm:∀x,x∈CQ Y↔x∈j0 p\/x∈hk:=λx=>by rw[pm.mem_iff,k2]
   generalize CQ Y=s at k5 hi sn ss sm;have s4:s.length<=4:=by rw[<-U];exact sn.length_le_of_subset ss
   have hw:=iB p hd;obtain⟨nk,n1,n2,n3⟩:=VN (W:=W) (n:=n+17) (m0:=[]) HW.parts HW.names (nm:=nm) (by lia) (ps:=p.list.map .dd) (by rw[U4];lia) (by rw[U4];lia) (λpt ug x B=>by
    obtain⟨d,fF,rfl⟩:=ck ug;exact B4 (ho.mem d fF) x B)
   rw[pF]at n3;have pn:(CQ nk).Perm nk:=jb _ _;have nl:(CQ nk).length<=4:=by
    rw[<-U];exact(pn.nodup_iff.mpr n1).length_le_of_subset λx B=>gZ ho x ((Z0 p).mpr ((n2 x).mp (pn.mem_iff.mp B)))
   have DI:∀x∈l,x∈s:=λx B=>(sm x).mpr (by
    rcases(lm x).mp B with q | q
    .exact .inr q
    .obtain⟨_,k,C,e⟩:=AZ.mp q
     have C:=(G k).mp C;refine .inl ?_;rcases e with rfl | e
     .exact lX (K9 (nm:=j0 p) (YZ ho λx B=>B) (by simp) k C)
     .exact Gf ho C (by rw[e]))
   have Xw:kj (.lst (CV s f)) (.lst (CV s f))=aV cf:=FC (P2.mpr λd hd=>by
    obtain⟨x,B,rfl⟩:=ck hd;show ((PyData.str x).canLay0&&cf)=cf;rw[qo x (ss x B)];rfl)
   have Xx:kj (.lst (s.map .str)) (.lst (s.map .str))=aV cf:=FC (P2.mpr λd hd=>by
    obtain⟨x,B,rfl⟩:=ck hd;exact qo x (ss x B))
   have ao:∀{ks:List Str} {f:Str->Int},ks.Nodup->ks.length<=4->cw (.dict en) (.tup (CV ks f)) []=aV (bf ks f,[]):=λh1 h2=>X8 h1 (by lia) en []
   have so:=pJ (ys:=CQ nk++hk) sn s4 (λx=>by rw[lz,sm,pn.mem_iff,n2,Z0]) (by rw[fA];lia);have sd:=zA (f:=f) s4;rw[hi]at so sd;refine top k5 λO=>DX (T4 rfl (J6 (p:=((2:Nat):Int)<2) rfl (by lia))) (DX ea (DX (T4 (Gg (p:=("house":Str)="house") rfl rfl) (T4 rfl (FP (d:=.bl en) (J0 (d:=.lst (CV s f)) (d2:=.lst (CV s f)) (G8 rfl rfl) (G8 rfl (sW sn s4 hi)) (ne_self Xw)) rfl))) (CN (G8 rfl (ao sn s4)) (DX (FP (d:=.bl en) (J0 (d:=.lst (s.map .str)) (d2:=.lst (s.map .str)) (G8 rfl sd) (G8 (d:=.lst ((CQ nk++hk).map .str)) ?_ so) (ne_self Xx)) rfl) (DX (FP (Qq kx DI) rfl) (DQ (G8 (Qr s4 ss Ay.zero) rfl)))))))
   rw[gi];exact cQ (G8 (CG n3 rfl) rfl) (G8 (G8 rfl (ao hS.nd lP)) (OY lP)) (by rw[a6,a6];lia)
  .rw[L.no hB k2 k3]at k4;cases k4
 .obtain⟨k,hn⟩:=Classical.not_forall.mp hB
  obtain⟨C,hn⟩:=Classical.not_imp.mp hn;have ui:=Z k ((G k).mpr C);rw[List.all_eq_false.mpr ⟨k,(G k).mpr C,by rw[df hn];exact eJ⟩]at ea;obtain⟨v0,r0,b0⟩:=L.yes C ui hn;rcases st with ⟨Y,dj,k1,k2,k3,k4,k5⟩ | ⟨v,a,ws,t,k1,k2,k3,k4,k5⟩
  .rw[k4 v0 k.1 k.2 r0 C]at b0;cases b0
  .have ht:=(G _).mpr k3
   exact top k5 λO=>DX (T4 rfl (J6 (p:=((3:Nat):Int)<2) rfl (by lia))) (HY ea (DQ (Ov (J0 rfl rfl (congrArg aV (cz (p:=("trail":Str)="trail") rfl))) (CG (LX (n:=n+17) HK U hS (Z _ ht) (k1.mono λk h=>(G k).mpr h) ht k4) rfl))))
end T
end
section
namespace T
open PySem L2 WL PySem.Spec PyProof.Rows
theorem law_true:∀ns:List Int,ns.length<=63->BZ 100000 ae 60 "law" [.b9 ns] []=aV (.bl cf,[]):=λns _=>NW (n:=40) ⟨rfl,rfl,rfl,rfl,rfl,rfl,rfl,rfl,rfl,rfl⟩ ⟨rfl,rfl,rfl,rfl,rfl,rfl⟩ ⟨rfl,rfl,rfl,rfl,rfl,rfl⟩ ⟨rfl,rfl,rfl⟩ rfl rfl (by lia)
theorem zb:TF (Ah ae) tP:=by
 refine⟨?_,?_,?_,?_,?_,?_,?_,?_,?_,?_,?_,?_,?_,?_,?_,?_,?_,?_,?_,?_,?_,?_,?_,?_,?_,?_,?_,trivial⟩
 all_goals refine⟨⟨rfl,rfl,rfl,by decide +kernel,rfl,by decide +kernel,by decide +kernel⟩,rfl,rfl,rfl,λ_ _ _ _ _ _ us hl=>?_⟩
 all_goals first | (obtain⟨_,rfl⟩:=Js hl;rfl) | (obtain⟨_,_,rfl⟩:=Jt hl;rfl) | (obtain⟨_,_,_,rfl⟩:=Gz hl;rfl) | (obtain⟨_,_,_,_,rfl⟩:=S4 hl;rfl)
theorem ds{P:Program}{w:wy}{K:p5}{mg:Str->Option Value}{base:Heap}{W:Nat}(T:Tp K mg)(H:TF (xk K mg) tP):∀n,Ds P w K mg base W n
 | 0=>Gi H
 | _+1=>Gh H zb (Ez T (ds T H _) zb qs)
noncomputable def kC(f:Str)(a t l n u:Nat)(b:Bool):PySem.Obj:={ cls:=.type "code",data:=.fields #[.str f t,.str f (t+1),.str "/claim/cut.py" (t+2),.int l 0,.int n 0,.int 0 0,.int 0 0,.int 3 0,.ref (a-cond b 5 3),.bool cf,.int 181 0,.ref (a-cond b 4 2),.none,cond b (.ref (a-3)) .none,cond b (.ref (a-2)) .none,.ref (a-1),.int u 0,.int l 0,.str "/claim/cut.py" (u+1)] }
noncomputable def kF(f:Str)(st:Stmt)(m:Value)(c:Nat):PySem.Obj:={ cls:=.type "function",data:=.func (PySem.W.fnOf f f (N8 st) (JX st) (GX st) .none .none .none m a0 (.ref c) .none) }
noncomputable def kG(P:Params)(k:Str)(t:Nat)(v:Value):DictEntry:=⟨PyData.keyHash P k,.str k t,v⟩
noncomputable def Eh:Value:=.str "whisperwall.things" 187
noncomputable def Ei:Value:=.str "whisperwall.flowing" 218
noncomputable def v3:Value:=.str "whisperwall.settling" 250
noncomputable def kK:Value:=.str "law_whisperwall_k07_whole_levels_or_a_trail" 305
noncomputable def KK(P:Params):PySem.W.Frag:=[(3,{ cls:=.type "dict",data:=.dict #[kG P "__name__" 165 (.str "law_whisperwall_k07_whole_levels_or_a_trail" 305),kG P "__doc__" 166 (.none),kG P "__package__" 167 (.none),kG P "__loader__" 168 (.builtin "__main__.__loader__#opaque"),kG P "__spec__" 169 (.none),kG P "__annotations__" 170 (.ref 6),kG P "__builtins__" 171 (.ref 4),kG P "__file__" 173 (.str "/claim/cut.py" 172),kG P "__cached__" 174 (.none),kG P "PAIRING" 192 (.ref 15),kG P "names_of" 202 (.ref 22),kG P "names_in_term" 209 (.ref 29),kG P "parts_of" 217 (.ref 36),kG P "flows" 227 (.ref 43),kG P "gather_flows" 239 (.ref 50),kG P "add_flows" 249 (.ref 57),kG P "settled" 257 (.ref 62),kG P "targets_by_name" 267 (.ref 69),kG P "names_reached" 273 (.ref 74),kG P "trail_down" 285 (.ref 81),kG P "is_below" 294 (.ref 88),kG P "way_to" 304 (.ref 95),kG P "_law_cell" 314 (.ref 102),kG P "_law_mix" 323 (.ref 109),kG P "_law_name" 329 (.ref 114),kG P "_law_names" 335 (.ref 119),kG P "_law_levels" 342 (.ref 126),kG P "_law_house" 348 (.ref 131),kG P "_law_term" 359 (.ref 138),kG P "_law_names_in" 366 (.ref 145),kG P "_law_deed" 372 (.ref 150),kG P "_law_block" 378 (.ref 155),kG P "_law_program" 384 (.ref 160),kG P "_law_flows" 390 (.ref 165),kG P "_law_goal" 398 (.ref 172),kG P "_law_least" 411 (.ref 179),kG P "_law_is_trail" 422 (.ref 186),kG P "law" 428 (.ref 191)] 38 }),(15,{ cls:=.type "tuple",data:=.seq #[.str "sum" 189,.str "times" 190,.str "less" 191] }),(21,kC "names_of" 21 193 3 1 200 cf),(22,kF "names_of" (top 2) Eh 21),(28,kC "names_in_term" 28 203 12 1 207 cf),(29,kF "names_in_term" (top 3) Eh 28),(35,kC "parts_of" 35 210 14 1 215 cf),(36,kF "parts_of" (top 4) Eh 35),(42,kC "flows" 42 220 26 1 225 cf),(43,kF "flows" (top 6) Ei 42),(49,kC "gather_flows" 49 228 30 3 237 cf),(50,kF "gather_flows" (top 7) Ei 49),(56,kC "add_flows" 56 240 44 3 247 cf),(57,kF "add_flows" (top 8) Ei 56),(61,kC "settled" 61 252 48 2 255 en),(62,kF "settled" (top 10) v3 61),(68,kC "targets_by_name" 68 258 62 1 265 cf),(69,kF "targets_by_name" (top 11) v3 68),(73,kC "names_reached" 73 268 69 3 271 en),(74,kF "names_reached" (top 12) v3 73),(80,kC "trail_down" 80 274 79 4 283 cf),(81,kF "trail_down" (top 13) v3 80),(87,kC "is_below" 87 286 85 3 292 cf),(88,kF "is_below" (top 14) v3 87),(94,kC "way_to" 94 295 89 2 302 cf),(95,kF "way_to" (top 15) v3 94),(101,kC "_law_cell" 101 307 97 2 312 cf),(102,kF "_law_cell" (top 17) kK 101),(108,kC "_law_mix" 108 315 101 3 321 cf),(109,kF "_law_mix" (top 18) kK 108),(113,kC "_law_name" 113 324 103 2 327 en),(114,kF "_law_name" (top 19) kK 113),(118,kC "_law_names" 118 330 110 1 333 en),(119,kF "_law_names" (top 20) kK 118),(125,kC "_law_levels" 125 336 112 1 340 cf),(126,kF "_law_levels" (top 21) kK 125),(137,kC "_law_term" 137 349 119 3 357 cf),(138,kF "_law_term" (top 23) kK 137),(144,kC "_law_names_in" 144 360 127 1 364 cf),(145,kF "_law_names_in" (top 24) kK 144),(149,kC "_law_deed" 149 367 133 4 370 en),(150,kF "_law_deed" (top 25) kK 149),(154,kC "_law_block" 154 373 151 4 376 en),(155,kF "_law_block" (top 26) kK 154),(159,kC "_law_program" 159 379 154 2 382 en),(160,kF "_law_program" (top 27) kK 159),(164,kC "_law_flows" 164 385 159 2 388 en),(165,kF "_law_flows" (top 28) kK 164),(171,kC "_law_goal" 171 391 173 2 396 cf),(172,kF "_law_goal" (top 29) kK 171),(178,kC "_law_least" 178 399 177 3 409 cf),(179,kF "_law_least" (top 30) kK 178),(185,kC "_law_is_trail" 185 412 186 3 420 cf),(186,kF "_law_is_trail" (top 31) kK 185),(190,kC "law" 190 423 198 1 426 en),(191,kF "law" (top 32) kK 190)]
noncomputable def kA:List Addr:=[3,15,21,22,28,29,35,36,42,43,49,50,56,57,61,62,68,69,73,74,80,81,87,88,94,95,101,102,108,109,113,114,118,119,125,126,137,138,144,145,149,150,154,155,159,160,164,165,171,172,178,179,185,186,190,191]
theorem fk{K:p5}{f:Str}{st:Stmt}{x c:Nat}{m:Value}{a t l n u:Nat}{b:Bool}(h:rd K ly f=aV (aV (.ref x)))(e:K.lookup x=aV (kF f st m c))(d:K.lookup c=aV (kC f a t l n u b)):FA K f st:=
 Uh h e (by unfold PySem.W.codeIn;dsimp only;rw[d];exact beq_self_eq_true f) (by unfold PySem.W.keepIn;dsimp only;rw[e];rfl)
theorem fas(P:Params):TF (λe=>FA (KK P) (fi e.f) e.st) tP:=⟨fk (x:=22) (c:=21) (by kernel_rfl) rfl rfl,fk (x:=29) (c:=28) (by kernel_rfl) rfl rfl,fk (x:=36) (c:=35) (by kernel_rfl) rfl rfl,fk (x:=43) (c:=42) (by kernel_rfl) rfl rfl,fk (x:=50) (c:=49) (by kernel_rfl) rfl rfl,fk (x:=57) (c:=56) (by kernel_rfl) rfl rfl,fk (x:=62) (c:=61) (by kernel_rfl) rfl rfl,fk (x:=69) (c:=68) (by kernel_rfl) rfl rfl,fk (x:=74) (c:=73) (by kernel_rfl) rfl rfl,fk (x:=81) (c:=80) (by kernel_rfl) rfl rfl,fk (x:=88) (c:=87) (by kernel_rfl) rfl rfl,fk (x:=95) (c:=94) (by kernel_rfl) rfl rfl,fk (x:=102) (c:=101) (by kernel_rfl) rfl rfl,fk (x:=109) (c:=108) (by kernel_rfl) rfl rfl,fk (x:=114) (c:=113) (by kernel_rfl) rfl rfl,fk (x:=119) (c:=118) (by kernel_rfl) rfl rfl,fk (x:=126) (c:=125) (by kernel_rfl) rfl rfl,fk (x:=138) (c:=137) (by kernel_rfl) rfl rfl,fk (x:=145) (c:=144) (by kernel_rfl) rfl rfl,fk (x:=150) (c:=149) (by kernel_rfl) rfl rfl,fk (x:=155) (c:=154) (by kernel_rfl) rfl rfl,fk (x:=160) (c:=159) (by kernel_rfl) rfl rfl,fk (x:=165) (c:=164) (by kernel_rfl) rfl rfl,fk (x:=172) (c:=171) (by kernel_rfl) rfl rfl,fk (x:=179) (c:=178) (by kernel_rfl) rfl rfl,fk (x:=186) (c:=185) (by kernel_rfl) rfl rfl,fk (x:=191) (c:=190) (by kernel_rfl) rfl rfl,trivial⟩
set_option maxHeartbeats 0 in
theorem all_mk{l:PySem.W.OpenLaw}{w:wy}{K:p5}{h:Heap}{mg:Str->Option Value}{B:Addr}(Vw:∀ns:List Int,ns.length<=63->BZ 100000 ae 60 "law" [.b9 ns] []=aV (.bl cf,[]))(X:K.In h)(G:h.Ns ly mg)(Ve:mg "law" = aV (.ref B)){ga0:Addr}{Uv:Nat}{Uw:Tok}{Ux:Tok}{Uy:Tok}(fs:TF (λe=>FA K (fi e.f) e.st) tP)(z0:rd K ly "all" = aV a0)(z1:rd K ly "dict" = aV a0)(z2:rd K ly "enumerate" = aV a0)(z3:rd K ly "int" = aV a0)(z4:rd K ly "isinstance" = aV a0)(Z:rd K ly "len" = aV a0)(Y:rd K ly "list" = aV a0)(U:rd K ly "max" = aV a0)(O:rd K ly "range" = aV a0)(C:rd K ly "reversed" = aV a0)(YI:rd K ly "set" = aV a0)(YN:rd K ly "sorted" = aV a0)(YO:rd K ly "tuple" = aV a0)(YR:rd K ly "zip" = aV a0)(Us:rd K ly "PAIRING" = aV (aV (.ref ga0)))(Uu:K.lookup ga0=aV { cls:=.type "tuple",data:=.seq #[.str "sum" Uw,.str "times" Ux,.str "less" Uy] Uv })
  : ∃fd:FuncData,(∀(s:fu) (v:Value),BindsTo s fd ⟨[v],[]⟩ [("_law_script",v)])/\∀base:Heap,K.In base->base.Ns ly mg->ji l.prog w K mg base kM 60 B fd ["_law_script"] (u0 K):=by
 have T:Tp K mg:=⟨mr X G z0,mr X G z1,mr X G z2,mr X G z3,mr X G z4,mr X G Z,mr X G Y,mr X G U,mr X G O,mr X G C,mr X G YI,mr X G YN,mr X G YO,mr X G YR,vd.strs (PySem.W.mg_of X G Us) Uu rfl⟩
 have H:TF (xk K mg) tP:=Ks X G fs zb;obtain⟨x,oc,od,an,sl,kV,dc,pm,cd,ct,a,l,c,k⟩:=fs.2.2.2.2.2.2.2.2.2.2.2.2.2.2.2.2.2.2.2.2.2.2.2.2.2.2.1;have e:=Ve.symm.trans (PySem.W.mg_of X G a);cases e;refine⟨PySem.W.fnOf "law" "law" (N8 (top 32)) (JX (top 32)) (GX (top 32)) .none kV dc pm an cd ct,λs v=>.of_eq rfl,λbase _ _=>?_⟩;exact NV (oM (rJ l c k) zb.2.2.2.2.2.2.2.2.2.2.2.2.2.2.2.2.2.2.2.2.2.2.2.2.2.2.1.1 (F:=u7) rfl rfl rfl (λdu A outer s Hh E hr=>(Ez T (ds (W:=100000) T H 59) zb qs).2.2.2.2.2.2.2.2.2.2.2.2.2.2.2.2.2.2.2.2.2.2.2.2.2.2.1 hr)) Vw
noncomputable def qv:Program:={ lp with main:={ lp.main with body:=[top 1,top 2,top 3,top 4,top 6,top 7,top 8,top 10,top 11,top 12,top 13,top 14,top 15,top 17,top 18,top 19,top 20,top 21,top 22,top 23,top 24,top 25,top 26,top 27,top 28,top 29,top 30,top 31,top 32] } }
noncomputable def hk:PySem.W.Hook:=PySem.W.kHook KK kA (λ_=>by kernel_rfl)
noncomputable def xt(s:fu):Bool:=PySem.W.xlAt qv [] s&&PySem.W.recOk (PySem.W.RowW.records (PySem.W.OpenRow.toRowW (PySem.W.OpenLaw.row PySem.Challenge.rw_whisperwall_k07_whole_levels_or_a_trail))) s
noncomputable def bl(w:wy):=(PySem.W.openEnds treeTable lp w 1876).map λs=>(PySem.W.openSeen qv [] (importedModules lp.main.body) xt cf s,kA.map s.heap.get?)
noncomputable def br(w:wy):=aV (PySem.W.openGood qv [],(KK w.params).map λp=>aV p.2)
theorem bl_r:bl=bl:=rfl
theorem br_r:br=br:=rfl
name_quick ql for bl by bl_r
name_quick qr for br by br_r
theorem left(w:wy):bl w=br w:=(congrFun PySem.W.Fast.ql_eq w).trans (Eq.trans (by kernel_rfl) (congrFun PySem.W.Fast.qr_eq w).symm)
end T
open PySem PySem.W PyProof.Rows
set_option maxRecDepth 100000 in
set_option maxHeartbeats 0 in
theorem PySem.Challenge.cw_whisperwall_k07_whole_levels_or_a_trail_holds : PySem.Challenge.rw_whisperwall_k07_whole_levels_or_a_trail.Holds := by
 w_on;o_law
 refine PySem.W.holds_open (q:=T.qv) (loose:=[]) (Xt:=T.xt) (XP:=PySem.W.XL T.qv []) (Yf:=T.hk.obs) (Ya:=T.hk.val) (YP:=T.hk.says) (N:=1876) T.left T.hk.of T.hk.keeps (λs e=>xl_of s (Bool.and_eq_true_iff.mp e).1) XL.keeps (by rfl) (by rfl) (by rfl)
  (λs e=>recFacts_of (Bool.and_eq_true_iff.mp e).2) (by rfl) (by assumption) (by decide +kernel) ⟨rfl,rfl,rfl,rfl,rfl,by decide +kernel⟩ ?hw ?hc
 (case hw=>w_witness2)
 refine WL.walk_law (l:=PySem.Challenge.rw_whisperwall_k07_whole_levels_or_a_trail) rfl rfl (λw h Y=>PySem.W.kIn_of Y) ?F
 case F=>
  intro w mg fa h KX G hmg;exact T.all_mk (ga0:=15) T.law_true KX G hmg (T.fas _) (by kernel_rfl) (by kernel_rfl) (by kernel_rfl) (by kernel_rfl) (by kernel_rfl) (by kernel_rfl) (by kernel_rfl) (by kernel_rfl) (by kernel_rfl) (by kernel_rfl) (by kernel_rfl) (by kernel_rfl) (by kernel_rfl) (by kernel_rfl) (by kernel_rfl) rfl
end
