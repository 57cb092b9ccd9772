import PyProof.Rows.All
import Wide.All
import OpenK.AllK
import Wide.FinOn
import Lean
import PyProof.EqAt
import PyProof.EqKinds
import PyProof.TupleCall
import PyProof.CompFree
import PyProof.CompUse
import PyProof.P3Eq
import PyProof.NeData
import PyProof.ZipIter
import PyProof.WalksMore
import KE.LcSums
import KE.KMinKey
import PyProof.Rows.CallKwBuiltin
import PyProof.SetRoads
import PyProof.Rows.SetFrom
import KE.KDictSum
import PyProof.StrWalks
import PyProof.Draws
import PyProof.EnumMake
import KE.KRevIter
import KE.KItemsList
import PySem.Challenge.RW_whisperwall_k08_whole_settled_levels_kee
set_option Elab.async false
set_option linter.all false
set_option maxRecDepth 100000
set_option maxHeartbeats 4000000
set_option genSizeOfSpec false
abbrev p4:=PySem.W.Frag
abbrev p5:List PySem.Str:=["program","house","told","onward","levels","level","starts","came_from","trail","9","name","own"]
abbrev p6:List PySem.Str:=["program","house","told","onward","levels","level","starts","came_from","trail","name"]
abbrev p9:List PySem.Str:=["program","house","told","onward","levels","level","starts","came_from","trail","9"]
abbrev pf:List PySem.Str:=["starts","onward","told","came_from","waiting","name","kind","other"]
abbrev ph:List PySem.Str:=["starts","onward","told","came_from","waiting","5","kind","other"]
abbrev pj:List PySem.Str:=["_law_script","_law_k"]
theorem aS{α β:Type _}{x:Option α}{f:α→Option β}{b:β}(h:x.bind f=some b):∃a,x=some a∧f a=some b:=Option.bind_eq_some_iff.mp h
theorem b5{α β:Type _}{x:Option α}{f:α→β}{b:β}(h:x.map f=some b):∃a,x=some a∧f a=b:=Option.map_eq_some_iff.mp h
theorem cg{α:Type _}{a b:α}{l:List α}(h:a∈b::l):a=b∨a∈l:=List.mem_cons.mp h
theorem de{α:Type _}{a:α}{l r:List α}(h:a∈l++r):a∈l∨a∈r:=List.mem_append.mp h
theorem dg{α β:Type _}{b:β}{l:List α}{f:α→β}(h:b∈l.map f):∃a,a∈l∧f a=b:=List.mem_map.mp h
theorem fg{α:Type _}{a b:α}(h:a∈[b]):a=b:=List.mem_singleton.mp h
theorem oS{α:Type _}{p:α→Bool}{l:List α}{a:α}(h:a∈l.filter p):a∈l∧p a=true:=List.mem_filter.mp h
theorem nu{α:Type _}{a:α}{l:List α}(h:(a::l).Nodup):a∉l∧l.Nodup:=List.nodup_cons.mp h
theorem lL{α:Type _}{l:List α}{p:α→Bool}(h:l.all p=true):∀x∈l,p x=true:=List.all_eq_true.mp h
open PySem in
abbrev ab:=@wpAny_bind
open PySem in
abbrev ah:=@wpAny_pure
open PySem in
abbrev fb:=@wpAny_mono
open PySem in
abbrev gX:=@wpAny_holding
open PySem in
abbrev gn:=@wpAny_call_entry
abbrev b8:=@List.mem_cons_of_mem
abbrev bX:=@List.mem_cons_self
abbrev eP:=@List.mem_append_left
abbrev eQ:=@List.mem_append_right
abbrev i6:=@List.mem_map_of_mem
abbrev aT:=@Nat.le_refl
abbrev eR:=@Nat.le_trans
abbrev uf:=@Nat.lt_of_le_of_lt
abbrev g6:=@Nat.lt_of_lt_of_le
abbrev sf:=@Nat.lt_succ_self
abbrev k0:=@Nat.lt_succ_of_lt
abbrev qq:=@Nat.le_succ
abbrev eM:=@Nat.zero_le
abbrev b0:=@Nat.ne_of_lt
abbrev i7:=@Nat.ne_of_gt
abbrev d6:=@Nat.le_of_ble_eq_true
abbrev nz:=@Nat.le_of_lt
abbrev gp:=@Nat.lt_irrefl
abbrev dk:=@decide_eq_true
abbrev dm:=@decide_eq_false
abbrev gq:=@of_decide_eq_true
open PySem in
abbrev cz:=@Heap.get?_push_of_some
open PySem in
abbrev c8:=@Heap.get?_push_size
open PySem in
abbrev bg:=@Heap.lt_size
open PySem in
abbrev o4:=@Heap.get?_update_self
abbrev jv:=@List.map_congr_left
abbrev ir:=@List.mergeSort_perm
abbrev nB:=@List.nodup_nil
abbrev o5:=@Nat.not_lt_zero
abbrev nE:=@List.getElem_of_mem
abbrev jw:=@List.mem_of_getElem?
abbrev fo:=@List.getElem?_eq_getElem
abbrev lP:=@Array.ext'
abbrev wy:=@Int.le_refl
open PySem in
abbrev uh:=@Heap.SameBut.update
open PySem in
abbrev qy:=@Calls.spliced_cons
open PySem in
abbrev sj:=@Calls.spliced_nil
open PySem in
abbrev kl:=@codeAny_builtin
open PySem in
abbrev wz:=@codeAny_mono
open PySem in
abbrev jf:=@PassesOwn.never
abbrev dE:=@Bool.false_ne_true
abbrev iF:=@Sum.inr.inj
abbrev w4:=@Int.eq_ofNat_of_zero_le
abbrev cE:=@Option.some.inj
abbrev ag:=@if_pos
abbrev ai:=@if_neg
abbrev bq:=@Option.bind_some
abbrev a9:=@List.length_map
abbrev i8:=@Option.map_some
abbrev df:=@List.map_map
abbrev ck:=@List.map_cons
abbrev fN:=@List.length_append
abbrev kn:=@List.length_cons
abbrev dr:=@List.size_toArray
abbrev eS:=@List.getElem?_map
abbrev gh:=@Bool.and_eq_true
abbrev ko:=@List.getElem?_append_left
abbrev so:=@List.getElem?_append_right
abbrev l9:=@List.length_singleton
abbrev fR:=@Array.length_toList
open PySem in
abbrev eI:=@sizeLine_eq
open PySem in
abbrev jx:=@typeLookup_type
open PySem in
abbrev jy:=@builtinLookup_eq_fast
abbrev C1:=@List.any_eq_true
abbrev ft:=@List.map_append
abbrev C2:=@List.append_assoc
abbrev qB:=@List.filterMap_eq_map'
abbrev sr:=@List.take_of_length_le
abbrev pw:=@List.append_nil
open PySem in
abbrev zI:=@entryFor_of_tree
open PySem in
abbrev kq:=@Heap.size_push
abbrev um:=@List.all_eq_true
open PySem in
abbrev xc:=@Calls.call_function_entry
open PySem in
abbrev k8:=@Around.under_plainId
open PySem in
abbrev uo:=@wpAny_newList
abbrev i9:=@PyProof.Rows.IsTup
open PySem in
abbrev iL:=@wpAny_newObj_type
open PySem in
abbrev jn:=@wpAny_rule
section
variable{A:PySem.Around}{E Q:PySem.Value→PySem.Shared→Prop}{I a f it:PySem.Addr}{K:p4}{M N loose own:List PySem.Str}{P prog:PySem.Program}{R:PySem.Result→PySem.Shared→Prop}{RR:PySem.Value→PySem.Addr→PySem.Result→PySem.Shared→Prop}{T:String}{W i j n t':Nat}{XP:(PySem.Str→Option PySem.Value)→PySem.Heap→Prop}{YP:PySem.World→PySem.Heap→Prop}{apos bS p p1 p2 pos pos' q1:PySem.Pos}{b c e iter o tg:PySem.Expr}{base h h':PySem.Heap}{body:List PySem.Stmt}{ch fp ρ ρ':List PySem.Addr}{elts ifs:List PySem.Expr}{fd:PySem.FuncData}{g:List PySem.Value→List PySem.Value→List PySem.Value}{items xs:Array PySem.Value}{its l us:List PySem.Value}{mg:PySem.Str→Option PySem.Value}{mu:Bool}{name qual x:PySem.Str}{ns:List Int}{op:PySem.CmpOp}{qc:Array (Option PySem.Value)}{pi:List (PySem.Addr×PySem.Obj)}{ps:List (PySem.Str×Int)}{s:PySem.Shared}{scope:PySem.Scope}{st:PySem.Stmt}{t:PySem.SetTable}{u:PySem.Value}{w:PySem.World}
namespace L2
open PySem PySem.Spec PyProof.Rows
noncomputable abbrev Key:=Sum Int Str
noncomputable def KH:Key→Value→Bool
 | .inl k,v=>Value.isInt k v
 | .inr x,v=>Value.isStrOf x v
noncomputable def QR(w:World):Key→Int
 | .inl k=>hashInt k
 | .inr x=>hashStr w x
theorem G4:∀{k:Key} {v:Value},KH k v=true→(∃i t,k=Sum.inl i∧v=Value.int i t)∨(∃x t,k=Sum.inr x∧v=Value.str x t)
 | .inl i,v,h=>by
  obtain⟨t,e⟩:=Value.isInt_shape (k:=i) (v:=v) h;exact .inl ⟨i,t,rfl,e⟩
 | .inr x,v,h=>by
  obtain⟨t,e⟩:=Value.isStrOf_shape (x:=x) (v:=v) h;exact .inr ⟨x,t,rfl,e⟩
theorem vC(i:Int)(t:Tok):KH (.inl i) (.int i t)=true:=by simp[KH,Value.isInt]
theorem vB(x:Str)(t:Tok):KH (.inr x) (.str x t)=true:=by simp[KH,Value.isStrOf]
theorem OY(a b:Int):decide ((Sum.inl a:Key)=Sum.inl b)=(a==b):=by
 by_cases e:a=b
 ·subst e;simp
 ·have h:¬(Sum.inl a:Key)=Sum.inl b:=fun q=>e (Sum.inl.inj q)
  rw[dm h];exact(beq_eq_false_iff_ne.mpr e).symm
theorem OV(a b:Str):decide ((Sum.inr a:Key)=Sum.inr b)=decide (a=b):=by
 by_cases e:a=b
 ·subst e;simp
 ·have h:¬(Sum.inr a:Key)=Sum.inr b:=fun q=>e (iF q)
  rw[dm h,dm e]
theorem OX(a:Int)(b:Str):decide ((Sum.inl a:Key)=Sum.inr b)=false:=dm (fun q=>nomatch q)
theorem OW(a:Str)(b:Int):decide ((Sum.inr a:Key)=Sum.inl b)=false:=dm (fun q=>nomatch q)
noncomputable def CQ(prog:Program)(w:World):PySem.KeyKind prog w Key where
 is:=KH
 hash:=QR w
 inj:=fun v a b ha hb=>by
  rcases G4 ha with ⟨i,t,rfl,rfl⟩ | ⟨x,t,rfl,rfl⟩
  ·rcases G4 hb with ⟨j,u,rfl,e⟩ | ⟨y,u,rfl,e⟩
   ·injection e with e1 _;rw[e1]
   ·exact nomatch e
  ·rcases G4 hb with ⟨j,u,rfl,e⟩ | ⟨y,u,rfl,e⟩
   ·exact nomatch e
   ·injection e with e1 _;rw[e1]
 byValue:=fun k v h=>by
  rcases G4 h with ⟨i,t,rfl,rfl⟩ | ⟨x,t,rfl,rfl⟩<;>rfl
 pyHash:=fun hv h=>by
  rcases G4 hv with ⟨i,t,rfl,rfl⟩ | ⟨x,t,rfl,rfl⟩
  ·exact wpAny_pyHash_int h
  ·exact wpAny_pyHash_str h
 eqBool:=fun hu hv h=>by
  rcases G4 hu with ⟨i,t,rfl,rfl⟩ | ⟨x,t,rfl,rfl⟩
  ·rcases G4 hv with ⟨j,u,rfl,rfl⟩ | ⟨y,u,rfl,rfl⟩
   ·rw[OY]at h;exact wpAny_eqBool_int h
   ·rw[OX]at h;exact SeqAt.EqAt.int_str i t y u _ _ _ _ h
  ·rcases G4 hv with ⟨j,u,rfl,rfl⟩ | ⟨y,u,rfl,rfl⟩
   ·rw[OW]at h;exact SeqAt.EqAt.str_int x t j u _ _ _ _ h
   ·rw[OV]at h;exact wpAny_eqBool_str h
 «strs»:=fun k x t v h=>by
  rcases G4 h with ⟨i,u,rfl,e⟩ | ⟨y,u,rfl,e⟩
  ·exact nomatch e
  ·injection e with e1 _
   subst e1;cases v<;>rfl
theorem lK(prog:Program)(w:World)(i:Int)(t:Tok):(CQ prog w).is (.inl i) (.int i t)=true:=vC i t
theorem lJ(prog:Program)(w:World)(x:Str)(t:Tok):(CQ prog w).is (.inr x) (.str x t)=true:=vB x t
end L2
variable{ks:List L2.Key}
namespace L2
open PySem PySem.Spec PyProof.Rows
inductive V where
 | ao | bl (b:Bool) | int (i:Int) | str (x:Str) | jd (b:Array UInt8) | CU (b:UInt64) | ref (a:Addr) | ty (n:String)
 deriving DecidableEq
def RelV:V→Value→Prop
 | .ao,u=>u=Value.none
 | .bl b,u=>u=Value.bool b
 | .int i,u=>∃t,u=Value.int i t
 | .str x,u=>∃t,u=Value.str x t
 | .jd b,u=>∃t,u=Value.bytes b t
 | .CU b,u=>∃t,u=Value.float b t
 | .ref a,u=>u=Value.ref a
 | .ty n,u=>u=Value.type n
noncomputable abbrev Vals:List V→List Value→Prop:=Paired RelV
theorem Vals.length{xs:List V}{us:List Value}(r:Vals xs us):xs.length=us.length:=Paired.length r
theorem Vals.get:∀{xs:List V} {us:List Value} {i:Nat} {x:V},Vals xs us→xs[i]?=some x→∃u,us[i]?=some u∧RelV x u
 | _,_,_,_,.nil,e=>by simp at e
 | _,_,0,_,.cons r _,e=>by simp at e;subst e;exact⟨_,rfl,r⟩
 | _,_,i+1,x,.cons _ t,e=>by
  obtain⟨u,h1,h2⟩:=Vals.get (i:=i) (x:=x) t (by simpa using e);exact⟨u,by simpa using h1,h2⟩
theorem Vals.set{x:V}{u:Value}(r:RelV x u):∀{xs:List V} {us:List Value} (i:Nat),Vals xs us→Vals (xs.set i x) (us.set i u)
 | _,_,_,.nil=>.nil
 | _,_,0,.cons _ t=>.cons r t
 | _,_,i+1,.cons q t=>.cons q (Vals.set r i t)
theorem Vals.append{xs ys:List V}{ws:List Value}(h:Vals xs us)(g:Vals ys ws):Vals (xs++ys) (us++ws):=by
 induction h with
 | nil=>exact g
 | cons r t ih=>exact .cons r ih
theorem Vals.take:∀{xs:List V} {us:List Value} (n:Nat),Vals xs us→Vals (xs.take n) (us.take n)
 | _,_,0,_=>.nil
 | _,_,_+1,.nil=>.nil
 | _,_,n+1,.cons r t=>.cons r (Vals.take n t)
theorem Vals.drop:∀{xs:List V} {us:List Value} (n:Nat),Vals xs us→Vals (xs.drop n) (us.drop n)
 | _,_,0,r=>r
 | _,_,_+1,.nil=>.nil
 | _,_,n+1,.cons _ t=>Vals.drop n t
def kS:Option V→Option Value→Prop
 | some v,some u=>RelV v u
 | none,none=>True
 | _,_=>False
def KV{cq:Type}:List (cq×V)→List (cq×Value)→Prop:=Paired fun(p:cq×V) (q:cq×Value)=>p.1=q.1∧RelV p.2 q.2
noncomputable def kV:Key→V
 | .inl i=>.int i
 | .inr x=>.str x
end L2
variable{kvs:List (L2.Key×L2.V)}{vs ys:List L2.V}{y:L2.V}
namespace PySem
open Sem (wp)
open L2
noncomputable abbrev FK:=Str×Str×(Int ⊕ Str)
noncomputable def fq(k:FK):List (Int ⊕ Str):=[.inr k.2.1,k.2.2]
def gc(prog:Program)(w:World)(h:Heap)(k:FK)(a:Addr):Prop:=∃o items n t b,h.get? a=some o∧o.cls=.type "tuple"∧o.data=.seq items n∧items.toList=[.str k.1 t,.ref b]∧IsTupleKey (CQ prog w) h (fq k) b
theorem gc.typeIs{k:FK}(x:gc prog w s.heap k a):s.TypeIs (.ref a) "tuple":=by
 obtain⟨o,_,_,_,_,ho,hc,_⟩:=x;exact⟨o,ho,hc⟩
theorem E3{x y:FK}(h1:x.1=y.1)(h2:fq x=fq y):x=y:=by
 obtain⟨a,b,c⟩:=x;obtain⟨i5,fm,cw⟩:=y;simp only[fq,List.cons.injEq,Sum.inr.injEq,and_true]at h1 h2;rw[h1,h2.1,h2.2]
theorem gc.inj{h:Heap}{a:Addr}{x y:FK}(hx:gc prog w h x a)(hy:gc prog w h y a):x=y:=by
 obtain⟨o,items,n,t,b,ho,_,hd,hi,hb⟩:=hx;obtain⟨bP,IY,mP,t',fm,jm,_,fS,kr,g7⟩:=hy;obtain rfl:o=bP:=cE (ho.symm.trans jm);rw[hd]at fS;injection fS with h1 _;subst h1;rw[hi]at kr;simp only[List.cons.injEq,Value.str.injEq,Value.ref.injEq,and_true]at kr;obtain⟨⟨e1,_⟩,rfl⟩:=kr;exact E3 e1 (hb.inj g7)
theorem gc.keeps{h h':Heap}{k:FK}{a d:Addr}{o:Obj}{es ep}(x:gc prog w h k a)(ho:h.get? d=some o)(hd:o.data=.dict es ep)(hs:Heap.SameBut d h h'):gc prog w h' k a:=by
 obtain⟨bP,items,n,t,b,jm,hc,fS,hi,hb⟩:=x;have c9:a≠d:=by
  rintro rfl;obtain rfl:bP=o:=cE (jm.symm.trans ho);rw[hd]at fS;exact nomatch fS
 exact⟨bP,items,n,t,b,(hs.2 a c9).trans jm,hc,fS,hi,hb.keeps ho hd hs⟩
noncomputable def aZ(prog:Program)(w:World)(k:FK):Int:=reduceHash (Builtin.Tuple.tupleHashOf [(CQ prog w).hash (.inr k.1),tupleKeyHash (CQ prog w) (fq k)])
theorem RW{t:Tok}:(CQ prog w).is (.inr x) (.str x t)=true:=by
 show KH (.inr x) (.str x t)=true;simp[KH,Value.isStrOf]
theorem V1{k:FK}{Q:Int→Shared→Prop}(hu:A.units+10<cLine)(hk:gc prog w s.heap k a)(h:Q (aZ prog w k) { s with toks:=s.toks+5 }):
  wpAny (model prog w) A (pyHash (.ref a)) Q E s:=by
 have hT:=hk.typeIs;obtain⟨o,items,n,t,b,ho,_,hd,hi,hb⟩:=hk;unfold pyHash
 first | unfold pyHashByItsType | skip
 first | refine ab (wpAny_cRoomFor_or (.inr (by lia)) ?_) | skip
 refine ab (wpAny_specialOf hT F.slot_tuple_hash.lookup ?_);show wpAny _ _ (if (some (Value.builtin "tuple.__hash__")==some Value.none)=true then _ else _) Q E s;rw[ai (by rw[beq_builtin_none];exact dE)];refine ab (wpAny_specialOf hT F.slot_tuple_hash.lookup ?_);show wpAny _ _ (callSpecialIfBoundUnlessNone? (.ref a) "__hash__" _ >>= _) Q E s;refine ab (wpAny_callSpecialIfBoundUnlessNone?_slot hT F.slot_tuple_hash (gn F.slot_tuple_hash hT F.entry_tuple_hash ?_ (F.args_tuple_hash_1 _)));show wpAny _ _ (Builtin.Tuple.tupleItemsOf (.ref a) >>= _) _ _ s;refine ab (wpAny_tupleItemsOf ho hd ?_);refine ab ?_;rw[←Array.forIn_toList,hi];rw[List.forIn_cons];refine ab ?_;refine ab ((CQ prog w).pyHash (k:=.inr k.1) RW ?_);refine ah ?_;show wpAny _ _ (forIn [Value.ref b] _ _) _ _ _;rw[List.forIn_cons];refine ab ?_;refine ab (wpAny_pyHash_tuple (ks:=fq k) (show A.units+1<cLine by lia) hb ?_);refine ah ?_;show wpAny _ _ (forIn ([]:List Value) _ _) _ _ _;rw[List.forIn_nil];refine ah ?_;show wpAny _ _ (retInt (Builtin.Tuple.tupleHashOf [(CQ prog w).hash (.inr k.1),tupleKeyHash (CQ prog w) (fq k)])) _ _ _;refine wpAny_ret_mkInt ?_;show wpAny _ _ (if (decide (-(2:Int) ^ 63≤Builtin.Tuple.tupleHashOf [(CQ prog w).hash (.inr k.1),tupleKeyHash (CQ prog w) (fq k)])&&decide (Builtin.Tuple.tupleHashOf [(CQ prog w).hash (.inr k.1),tupleKeyHash (CQ prog w) (fq k)]<2 ^ 63))=true then _ else _) Q E _;unfold aZ reduceHash at h
 by_cases hr:(decide (-(2:Int) ^ 63≤Builtin.Tuple.tupleHashOf [(CQ prog w).hash (.inr k.1),tupleKeyHash (CQ prog w) (fq k)])&&decide (Builtin.Tuple.tupleHashOf [(CQ prog w).hash (.inr k.1),tupleKeyHash (CQ prog w) (fq k)]<2 ^ 63))=true
 ·rw[ag hr]
  rw[ag hr]at h;exact ah (by simpa[Nat.add_assoc,fq] using h)
 ·rw[ai hr]
  rw[ai hr]at h;exact ab (jn (ah (by simpa[Nat.add_assoc,fq] using h)))
theorem iT{x y:FK}{b:Addr}{P:Fin→Shared→Prop}(hu:A.units+5<cLine)(hx:gc prog w s.heap x a)(hy:gc prog w s.heap y b)(h:P (.done (.ret (.bool (decide (x=y))))) s):
  wpAny (model prog w) A (Builtin.«tuple.__eq__» ⟨[.ref a,.ref b],[]⟩) P E s:=by
 have Dg:=hy.typeIs;obtain⟨oa,xs,na,ta,ba,DT,_,Dp,Im,Ap⟩:=hx;obtain⟨ob,ys,nb,tb,bb,nX,_,iN,Io,Aq⟩:=hy;show wpAny _ _ (isInstance (.ref b) (.type "tuple") >>= _) _ _ s;refine ab (wpAny_isInstance Dg isSubtype_tuple_tuple ?_);simp only[Bool.not_true,Bool.false_eq_true,if_false];refine ab (wpAny_tupleItemsOf DT Dp ?_);refine ab (wpAny_tupleItemsOf nX iN ?_);refine ab ?_;have hsz:xs.size==ys.size:=by
  have h1:xs.size=2:=by rw[←fR,Im];rfl
  have h2:ys.size=2:=by rw[←fR,Io];rfl
  simp[h1,h2]
 rw[Im,Io];show wpAny _ _ (forIn [(Value.str x.1 ta,Value.str y.1 tb),(Value.ref ba,Value.ref bb)] _ _) _ _ _;rw[List.forIn_cons];refine ab ?_;refine ab ((CQ prog w).eqBool (a:=.inr x.1) (b:=.inr y.1) RW RW ?_)
 by_cases h1:x.1=y.1
 ·rw[dk (show (Sum.inr x.1:Key)=.inr y.1 by rw[h1])]
  simp only[Bool.not_true,Bool.false_eq_true,if_false];refine ah ?_;show wpAny _ _ (forIn [(Value.ref ba,Value.ref bb)] _ _) _ _ _;rw[List.forIn_cons];refine ab ?_;refine ab (wpAny_eqBool_tuple (x:=fq x) (y:=fq y) (by lia) Ap Aq ?_)
  by_cases h2:fq x=fq y
  ·rw[dk h2]
   simp only[Bool.not_true,Bool.false_eq_true,if_false];refine ah ?_;show wpAny _ _ (forIn ([]:List (Value×Value)) _ _) _ _ _;rw[List.forIn_nil];refine ah (ah ?_);rw[dk (E3 h1 h2)]at h;show P (.done (.ret (.bool (xs.size==ys.size)))) s;rw[hsz];exact h
  ·rw[dm h2]
   simp only[Bool.not_false,if_true];rw[dm fun e=>h2 (by rw[e])]at h;exact ab (ah (ah (ah (ah h))))
 ·rw[dm (show ¬(Sum.inr x.1:Key)=.inr y.1 from fun e=>h1 (iF e))]
  simp only[Bool.not_false,if_true];rw[dm fun e=>h1 (by rw[e])]at h;exact ab (ah (ah (ah (ah h))))
theorem V2{x y:FK}{b:Addr}{Q:Bool→Shared→Prop}(hu:A.units+10<cLine)(hx:gc prog w s.heap x a)(hy:gc prog w s.heap y b)(h:Q (decide (x=y)) s):
  wpAny (model prog w) A (eqBool (.ref a) (.ref b)) Q E s:=by
 unfold eqBool
 try with_reducible refine gX ?_
 show wpAny _ _ (if (Value.ref a==Value.ref b)=true then _ else _) Q E s
 by_cases fc:(Value.ref a==Value.ref b)=true
 ·rw[ag fc]
  have e:a=b:=by have:=eq_of_beq fc;injection this
  subst e;obtain rfl:=hx.inj hy;exact ab (jn (ah (by simpa using h)))
 ·rw[ai fc]
  exact ab (wpAny_richCompare_same_room (op:=.Eq) hx.typeIs hy.typeIs F.slot_tuple_eq
   (gn F.slot_tuple_eq hx.typeIs F.entry_tuple_eq (iT (by show A.units+1+5<cLine;lia) hx hy ⟨_,rfl,(fun e=>nomatch e),wpAny_truthy_bool h⟩) (F.args_tuple_eq_2 _ _)) (by lia))
theorem jZ{Q:Bool→Shared→Prop}(hk:IsTupleKey (CQ prog w) s.heap ks a)(h:Q true s):wpAny (model prog w) A (eqIsQuiet (n+1) (.ref a)) Q E s:=by
 have hT:=hk.typeIs;obtain⟨o,items,n,ho,_,hd,hi⟩:=hk;unfold eqIsQuiet;refine ab (wpAny_specialOf hT F.slot_tuple_eq.lookup ?_);show wpAny _ _ (isInstance (.ref a) (.type "tuple") >>= _) _ _ s;refine ab (wpAny_isInstance hT isSubtype_tuple_tuple ?_);simp only[Bool.not_true,Bool.false_eq_true,if_false];refine ab (wpAny_seqItems ho hd ?_);refine ab ?_;show wpAny _ _ (forIn items _ _) _ _ s;rw[←Array.forIn_toList];refine wpAny_forIn_list _ (fun rest r s'=>r.1=none∧s'=s∧∀v∈rest,carriedByValue v=true) _ ?_ ?_ _ _ ⟨rfl,rfl,hi.byValue⟩
 ·rintro v rest r s' ⟨hr,rfl,Ae⟩
  rw[eqIsQuiet_byValue _ (Ae v bX)];refine ab (ah ?_);simp only[Bool.not_true,Bool.false_eq_true,if_false];exact ah ⟨rfl,rfl,fun u ve=>Ae u (b8 _ ve)⟩
 ·rintro ⟨r1,r2⟩ s' ⟨hr,rfl,_⟩
  simp only at hr;subst hr;exact ah h
theorem RG{k:FK}{Q:Bool→Shared→Prop}(hk:gc prog w s.heap k a)(h:Q true s):wpAny (model prog w) A (eqIsQuiet 8 (.ref a)) Q E s:=by
 have hT:=hk.typeIs;obtain⟨o,items,n,t,b,ho,_,hd,hi,hb⟩:=hk;unfold eqIsQuiet;refine ab (wpAny_specialOf hT F.slot_tuple_eq.lookup ?_);show wpAny _ _ (isInstance (.ref a) (.type "tuple") >>= _) _ _ s;refine ab (wpAny_isInstance hT isSubtype_tuple_tuple ?_);simp only[Bool.not_true,Bool.false_eq_true,if_false];refine ab (wpAny_seqItems ho hd ?_);refine ab ?_;show wpAny _ _ (forIn items _ _) _ _ s;rw[←Array.forIn_toList,hi,List.forIn_cons];refine ab ?_;rw[eqIsQuiet_byValue _ rfl];refine ab (ah ?_);simp only[Bool.not_true,Bool.false_eq_true,if_false];refine ah ?_;show wpAny _ _ (forIn [Value.ref b] _ _) _ _ _;rw[List.forIn_cons];refine ab ?_;refine ab (jZ (n:=6) hb ?_);simp only[Bool.not_true,Bool.false_eq_true,if_false];refine ah ?_;show wpAny _ _ (forIn ([]:List Value) _ _) _ _ _;rw[List.forIn_nil];exact ah (ah h)
noncomputable def aY(prog:Program)(w:World):HeapKind prog w FK where
 is:=gc prog w
 hash:=aZ prog w
 draws:=fun _=>5
 room:=fun A=>A.units+10<cLine
 inj:=fun hx hy=>hx.inj hy
 keeps:=fun x ho hd hs=>x.keeps ho hd hs
 pyHash:=fun hu hk h=>V1 hu hk (by simpa using h)
 eqBool:=fun hu hx hy h=>V2 hu hx hy h
 quiet:=fun hk h=>RG hk h
end PySem
namespace L2
open PySem PySem.Spec PyProof.Rows
inductive HO where
  | dF (xs:List (FK×Addr))
  | lst (xs:List V)
  | tup (xs:List V)
  | dK (kvs:List (Key×V)) | dT (kvs:List (List Key×V))
  | set (S:Int→Bool) (n:Nat)
  | ins (C dx:Addr) (fs:List (Str×V))
  | own (x:Addr)
  | xd (fs:List (Str×V))
  | met (f x:Addr)
  | iw (lo hi:Int)
  | bt (o:Obj) (u:HO)
  | rL (ps:Array Value)
  | ext (ub:Heap→Prop)
noncomputable abbrev Hp:=Addr→Option HO
noncomputable def upd(H:Hp)(a:Addr)(o:HO):Hp:=fun b=>if b=a then some o else H b
theorem CT{H:Hp}{o:HO}:upd H a o a=some o:=by unfold upd;rw[ag rfl]
theorem CK{H:Hp}{b:Addr}{o:HO}(h:b≠a):upd H a o b=H b:=by unfold upd;rw[ai h]
theorem pZ{H:Hp}{o u:HO}:upd (upd H a o) a u=upd H a u:=by
 funext b;unfold upd;split<;>rfl
theorem Qg{H:Hp}{b:Addr}{o u:HO}(h:H a=some o)(h':H b=some u)(d:o≠u):a≠b:=by
 intro e;subst e;rw[h]at h';exact d (cE h')
theorem FZ{H:Hp}{b:Addr}{o:HO}(h:H a=some o)(h':H b=none):a≠b:=by
 intro e;subst e;rw[h]at h';cases h'
section
variable(P:Program)(w:World)
def du(H:Hp)(h:Heap)(a:Addr):HO→Prop
 | .lst xs=>xs.length≤sizeLine∧∃(its:List Value) (n:Nat),Vals xs its∧h.get? a=some { cls:=.type "list",data:=.seq its.toArray n }
 | .tup xs=>xs.length≤sizeLine∧∃its:List Value,Vals xs its∧IsTup h a its.toArray
 | .dK kvs=>kvs.length≤sizeLine∧(a==sysModules)=false∧∃vs,KV kvs vs∧h.DictOf (CQ P w) a vs
 | .dT kvs=>kvs.length≤sizeLine∧(a==sysModules)=false∧∃xs:List (List Key×Addr×Value),
   Paired (fun(p:List Key×V) (q:List Key×Addr×Value)=>p.1=q.1∧H q.2.1=some (.tup (p.1.map kV))∧RelV p.2 q.2.2) kvs xs∧
   ∃o es ep,h.get? a=some o∧o.ExactDict∧o.data=.dict es ep∧es.toList=xs.map (entryOfKey (tupleKind (CQ P w)))∧(xs.map (·.1)).Nodup
 | .dF xs=>xs.length≤sizeLine∧(a==sysModules)=false∧∃o es ep,h.get? a=some o∧o.ExactDict∧o.data=.dict es ep∧es.toList=xs.map (fun x=>entryOfKey (aY P w) (x.1,x.2,.bool true))∧(xs.map (·.1)).Nodup
 | .set S n=>h.SetOf (intKind P w) a S n
 | .ins C dx fs=>H dx=some (.own a)∧fs.length≤1000∧dx≠a∧h.get? a=some (PySem.W.instObj C dx)∧
   ∃mA,h.Ns1 dx mA∧(∀f,kS (fs.lookup f) (mA f))∧PySem.Within mA (fs.map (·.1))
 | .own _=>∃o,h.get? a=some o
 | .xd fs=>∃mA,h.Ns1 a mA∧∀f,kS (fs.lookup f) (mA f)
 | .iw lo hi=>∃t u v,h.get? a=some { cls:=.type "range",data:=.fields #[.int lo t,.int hi u,.int 1 v] }
 | .bt o u=>h.get? a=some o∧du H h a u
 | .rL ps=>h.get? a=some { cls:=.none,data:=.fields ps }
 | .met f x=>h.get? a=some (PySem.W.methodObj (.ref f) (.ref x))
 | .ext ub=>ub h∧(∃o,h.get? a=some o)∧∀h1 h2:Heap,ub h1→(∀o,h1.get? a=some o→h2.get? a=some o)→ub h2
def eg(H:Hp)(h:Heap):Prop:=∀a o,H a=some o→du P w H h a o
end
section
variable{H aa:Hp}{o:HO}
theorem du.lt(x:du P w H h a o):a<h.objs.size:=by
 cases o with
 | lst xs=>obtain⟨_,_,_,_,e⟩:=x;exact bg e
 | tup xs=>obtain⟨_,_,_,p⟩:=x;exact p.lt
 | dK kvs=>obtain⟨_,_,_,_,o,_,_,e,_⟩:=x;exact bg e
 | dT kvs=>obtain⟨_,_,_,_,o,_,_,e,_⟩:=x;exact bg e
 | dF kvs=>obtain⟨_,_,o,_,_,e,_⟩:=x;exact bg e
 | set S n=>obtain⟨o,_,_,_,e,_⟩:=x;exact bg e
 | ins C dx fs=>obtain⟨_,_,_,e,_⟩:=x;exact bg e
 | own y=>obtain⟨_,e⟩:=x;exact bg e
 | xd fs=>obtain⟨_,⟨_,_,_,e,_⟩,_⟩:=x;exact bg e
 | iw lo hi=>obtain⟨_,_,_,e⟩:=x;exact bg e
 | bt ob u=>obtain⟨e,_⟩:=x;exact bg e
 | rL ps=>exact bg (show h.get? a=some _ from x)
 | met f y=>exact bg (show h.get? a=some _ from x)
 | ext ub=>obtain⟨_,⟨_,e⟩,_⟩:=x;exact bg e
theorem Paired.AM{α β:Type}{F G:α→β→Prop}{Jg:List α}{Jh:List β}(h:Paired F Jg Jh)(f:∀a b,F a b→G a b):Paired G Jg Jh:=by
 induction h with
 | nil=>exact .nil
 | cons r t ih=>exact .cons (f _ _ r) ih
theorem du.kb(x:du P w H h a o)(k:∀b u,(b=a∨H b=some (.own a))→h.get? b=some u→h'.get? b=some u)(ho:∀b,H b=some (.own a)→aa b=some (.own a))(ht:∀b xs,H b=some (.tup xs)→aa b=some (.tup xs)):du P w aa h' a o:=by
 induction o with
 | lst xs=>obtain⟨z,its,n,r,e⟩:=x;exact⟨z,its,n,r,k _ _ (.inl rfl) e⟩
 | tup xs=>obtain⟨z,its,r,ob,e,c⟩:=x;exact⟨z,its,r,ob,k _ _ (.inl rfl) e,c⟩
 | dK kvs=>obtain⟨z,y,vs,r,ob,es,ep,e,c⟩:=x;exact⟨z,y,vs,r,ob,es,ep,k _ _ (.inl rfl) e,c⟩
 | dT kvs=>
  obtain⟨z,y,xs,r,ob,es,ep,e,c⟩:=x;exact⟨z,y,xs,Paired.AM r fun p q z=>⟨z.1,ht _ _ z.2.1,z.2.2⟩,ob,es,ep,k _ _ (.inl rfl) e,c⟩
 | dF kvs=>obtain⟨z,y,ob,es,ep,e,c⟩:=x;exact⟨z,y,ob,es,ep,k _ _ (.inl rfl) e,c⟩
 | set S n=>obtain⟨ob,es,ep,t,e,c⟩:=x;exact⟨ob,es,ep,t,k _ _ (.inl rfl) e,c⟩
 | ins C dx fs=>
  obtain⟨d,z,ne,e,mA,⟨od,es,ep,e2,c⟩,r⟩:=x;exact⟨ho _ d,z,ne,k _ _ (.inl rfl) e,mA,⟨od,es,ep,k _ _ (.inr d) e2,c⟩,r⟩
 | own y=>obtain⟨ob,e⟩:=x;exact⟨ob,k _ _ (.inl rfl) e⟩
 | xd fs=>obtain⟨mA,⟨od,es,ep,e,c⟩,r⟩:=x;exact⟨mA,⟨od,es,ep,k _ _ (.inl rfl) e,c⟩,r⟩
 | iw lo hi=>obtain⟨t,u,v,e⟩:=x;exact⟨t,u,v,k _ _ (.inl rfl) e⟩
 | bt ob u ih=>obtain⟨e,q⟩:=x;exact⟨k _ _ (.inl rfl) e,ih q⟩
 | rL ps=>
  have e:h.get? a=some { cls:=.none,data:=.fields ps }:=x;show h'.get? a=some { cls:=.none,data:=.fields ps };exact k a _ (.inl rfl) e
 | met f y=>
  have e:h.get? a=some (PySem.W.methodObj (.ref f) (.ref y)):=x;show h'.get? a=some (PySem.W.methodObj (.ref f) (.ref y));exact k a _ (.inl rfl) e
 | ext ub=>obtain⟨p,⟨o,e⟩,st⟩:=x;exact⟨st _ _ p fun o q=>k _ _ (.inl rfl) q,⟨o,k _ _ (.inl rfl) e⟩,st⟩
theorem eg.lt(x:eg P w H h)(e:H a=some o):a<h.objs.size:=(x a o e).lt
theorem eg.fresh(x:eg P w H h)(e:h.objs.size≤a):H a=none:=by
 cases q:H a with
 | none=>rfl
 | some u=>exact absurd (g6 (x.lt q) e) (gp _)
theorem eg.kept(x:eg P w H h)(k:∀b u,h.get? b=some u→h'.get? b=some u):eg P w H h':=fun a o e=>
 (x a o e).kb (fun b u _ q=>k b u q) (fun _ q=>q) fun _ _ q=>q
theorem eg.laid(x:eg P w H h)(k:∀b u,h.get? b=some u→h'.get? b=some u)(hp:h.objs.size≤a)(new:du P w (upd H a o) h' a o):eg P w (upd H a o) h':=fun b u e=>by
 have hn:=x.fresh hp
 by_cases hb:b=a
 ·subst hb;rw[CT]at e;cases e;exact new
 ·rw[CK hb]at e
  exact(x b u e).kb (fun c v _ q=>k c v q) (fun c q=>by rw[CK (FZ q hn)];exact q) fun c xs q=>by rw[CK (FZ q hn)];exact q
end
def Rd(H:Hp)(a:Addr)(u:HO):Prop:=H a=some u∨∃o,H a=some (.bt o u)
theorem Rd.ok{H:Hp}{u:HO}(r:Rd H a u)(x:eg P w H h):du P w H h a u:=by
 rcases r with r | ⟨o,r⟩
 ·exact x a u r
 ·obtain⟨_,q⟩:=x a _ r
  exact q
def vT:Option HO→Prop
 | some (.lst _)=>True
 | some (.dK _)=>True
 | some (.dT _)=>True
 | some (.dF _)=>True
 | some (.set _ _)=>True
 | some (.ins _ _ _)=>True
 | some (.ext _)=>True
 | _=>False
section
variable{H:Hp}{x e:Addr}{bP:HO}
theorem eg.write(ok:eg P w H h)(mu:vT (H x))(he:e=x∨H e=some (.own x))(k:∀b u,b≠e→h.get? b=some u→h'.get? b=some u)(ux:∃u,h'.get? e=some u)(new:du P w (upd H x bP) h' x bP):eg P w (upd H x bP) h':=fun b u q=>by
 have Ju:∀c y,H c=some (.own y)→c≠x:=fun c y r z=>by subst z;rw[r]at mu;exact mu
 have Vv:∀c xs,H c=some (.tup xs)→c≠x:=fun c xs r z=>by subst z;rw[r]at mu;exact mu
 by_cases hb:b=x
 ·subst hb;rw[CT]at q;cases q;exact new
 ·rw[CK hb]at q
  by_cases sv:b=e
  ·have dj:H b=some (.own x):=by
    rcases he with z | z
    ·exact absurd (sv.trans z) hb
    ·rw[sv];exact z
   rw[q]at dj;cases dj;obtain⟨v,hv⟩:=ux;exact⟨v,by rw[sv];exact hv⟩
  ·refine(ok b u q).kb (fun c v hc r=>k c v ?_ r) (fun c r=>by rw[CK (Ju c b r)];exact r) fun c xs r=>by rw[CK (Vv c xs r)];exact r
   rcases hc with rfl | hc
   ·exact sv
   ·rintro rfl
    rcases he with z | z
    ·exact Ju c b hc z
    ·rw[hc]at z;cases z;exact hb rfl
end
structure Un(fs ex:List Addr)(H aa:Hp)(h h':Heap):Prop where
 keep:∀b o,h.get? b=some o→H b=none→b∉fs→b∉ex→h'.get? b=some o
 slot:∀b o,h.get? b=some o→H b=none→b∈fs→b∉ex→∃sl,h'.get? b=some { o with slots:=sl }
 free:∀b o,h.get? b=some o→H b=none→b∉ex→aa b=none
 there:∀b o,h.get? b=some o→b∉ex→∃bP,h'.get? b=some bP
 lq:∀b xs,H b=some (.tup xs)→aa b=some (.tup xs)
 l3:∀b o u,H b=some (.bt o u)→aa b=some (.bt o u)
 oj:∀b ps,H b=some (.rL ps)→∃more,aa b=some (.rL (ps++more))
section
variable{fs RY ex XX:List Addr}{H H1 H2:Hp}{h1 h2:Heap}{x e:Addr}{o:HO}
theorem Un.any(u:Un fs ex H H1 h h1){b:Addr}{ob:Obj}(q:h.get? b=some ob)(n:H b=none)(hx:b∉ex):∃sl,h1.get? b=some { ob with slots:=sl }:=by
 by_cases hb:b∈fs
 ·exact u.slot b ob q n hb hx
 ·exact⟨ob.slots,u.keep b ob q n hb hx⟩
theorem Un.kept(k:∀b u,h.get? b=some u→h'.get? b=some u):Un fs ex H H h h':=
 ⟨fun b ob q _ _ _=>k b ob q,fun b ob q _ _ _=>⟨ob.slots,k b ob q⟩,fun _ _ _ n _=>n,fun b ob q _=>⟨ob,k b ob q⟩,fun _ _ q=>q,fun _ _ _ q=>q,fun _ ps q=>⟨#[],by rw[q];simp⟩⟩
theorem Un.refl:Un fs ex H H h h:=Un.kept fun _ _ q=>q
theorem Un.laid(k:∀b u,h.get? b=some u→h'.get? b=some u)(hp:h.objs.size≤a)(hn:H a=none):Un fs ex H (upd H a o) h h' where
 keep:=fun b u q _ _ _=>k b u q
 slot:=fun b u q _ _ _=>⟨u.slots,k b u q⟩
 free:=fun b u q n _=>by rw[CK (b0 (g6 (bg q) hp))];exact n
 there:=fun b u q _=>⟨u,k b u q⟩
 lq:=fun b xs q=>by rw[CK (FZ q hn)];exact q
 l3:=fun b u xs q=>by rw[CK (FZ q hn)];exact q
 oj:=fun b ps q=>⟨#[],by rw[CK (FZ q hn),q];simp⟩
theorem Un.write(mu:vT (H x))(he:e=x∨H e=some (.own x))(k:∀b u,b≠e→h.get? b=some u→h'.get? b=some u)(ux:∃u,h'.get? e=some u):Un fs ex H (upd H x o) h h':=by
 have hx:∀b,H b=none→b≠x:=fun b n z=>by subst z;rw[n]at mu;exact mu
 have hb:∀b,H b=none→b≠e:=fun b n z=>by
  subst z;rcases he with r | r
  ·exact hx b n r
  ·rw[n]at r;cases r
 have hm:∀b u,H b=some u→¬vT (some u)→b≠x:=fun b u q nm z=>by subst z;rw[q]at mu;exact nm mu
 refine⟨fun b u q n _ _=>k b u (hb b n) q,fun b u q n _ _=>⟨u.slots,k b u (hb b n) q⟩,fun b u q n _=>by rw[CK (hx b n)];exact n,fun b u q _=>?_,
  fun b xs q=>by rw[CK (hm b _ q fun z=>z)];exact q,fun b u xs q=>by rw[CK (hm b _ q fun z=>z)];exact q,fun b ps q=>⟨#[],by rw[CK (hm b _ q fun z=>z),q];simp⟩⟩
 by_cases sv:b=e
 ·subst sv;exact ux
 ·exact⟨u,k b u sv q⟩
end
noncomputable def A9(h:Heap)(H:Hp):List Addr:=(List.range h.objs.size).filter fun a=>(H a).isSome
noncomputable def iM(h:Heap)(H:Hp):Heap:=PySem.W.hideAll h (A9 h H)
theorem vG(h:Heap)(H:Hp):(iM h H).objs.size=h.objs.size:=PySem.W.hideAll_size _ _
theorem KI{H:Hp}{b:Addr}{o:Obj}(e:h.get? b=some o)(n:H b=none):(iM h H).get? b=some o:=
 PySem.W.hideAll_get _ e fun hm=>by
  have q:(H b).isSome=true:=(oS hm).2;rw[n]at q;simp at q
theorem Mw{H:Hp}{b:Addr}{o:Obj}(e:(iM h H).get? b=some o):h.get? b=some o∧H b=none:=by
 have aI:h.get? b=some o:=PySem.W.of_hideAll (A9 h H) e;refine⟨aI,?_⟩;cases q:H b with
 | none=>rfl
 | some x=>
  have hm:b∈A9 h H:=List.mem_filter.mpr ⟨List.mem_range.mpr (bg aI),by simp[q]⟩;have z:(iM h H).get? b=none:=PySem.W.hideAll_none (A9 h H) hm;rw[z]at e;cases e
noncomputable def QZ(g h:Heap)(L:Addr):List (Addr×Obj):=(List.range h.objs.size).filterMap fun a=>if a=L∨(g.get? a).isSome=true then none else (h.get? a).map fun o=>(a,o)
theorem P0{g:Heap}{L:Addr}{o:Obj}(h1:a≠L)(h2:g.get? a=none)(h3:h.get? a=some o):(a,o)∈QZ g h L:=
 List.mem_filterMap.mpr ⟨a,List.mem_range.mpr (bg h3),by simp[h1,h2,h3]⟩
theorem aJ{g:Heap}{L:Addr}{p:Addr×Obj}(hp:p∈QZ g h L):p.1≠L∧g.get? p.1=none∧h.get? p.1=some p.2:=by
 obtain⟨b,_,e⟩:=List.mem_filterMap.mp hp;split at e
 ·cases e
 ·rename_i hn
  cases q:h.get? b with
  | none=>rw[q]at e;simp at e
  | some u=>
   rw[q]at e;simp only[i8,Option.some.injEq]at e;subst e;refine⟨fun z=>hn (.inl z),?_,q⟩;show g.get? b=none;cases r:g.get? b with
   | none=>rfl
   | some v=>exact(hn (.inr (by simp[r]))).elim
noncomputable def rest(g h:Heap)(L d:Addr):List (Addr×Obj):=(QZ g h L).filter fun p=>decide (p.1≠d)
theorem aM{g:Heap}{L:Addr}:News g L h (QZ g h L):=fun p hp=>let ⟨a,b,c⟩:=aJ hp;⟨c,a,b⟩
end L2
variable{H aa:L2.Hp}
namespace L2
open PySem PySem.Spec PyProof.Rows
structure Mod(K:p4)(mg:Str→Option Value)(base:Heap):Prop where
 Eh:K.In base
 glob:base.Ns mainGlobals mg
 blt:∃mb,base.Ns builtinsNs mb∧∀x:Str,x≠"__name__"→mb x=bootBuiltins x
 nolimit:base.NoLimit
structure Cx where
 prog:Program
 w:World
 K:p4
 mg:Str→Option Value
 base:Heap
 A:Around
 N:List Str
 b7:Shared
 dq:Hp
 env:Env
 outer:List Env
 stack:List Env
 ex:List Addr
 fn:Str→Bool
 calm:Bool
 pn:List (Addr×Obj)
 xe:Value→Shared→Prop
noncomputable def lT(l:List Env):List Addr:=l.filterMap (·.frame)
noncomputable abbrev Cx.fs (X:Cx):List Addr:=lT X.outer
def zm(sc:Scope)(x:Str):Prop:=sc.names.lookup x=some .local∨sc.names.lookup x=some .cell∨sc.names.lookup x=some .free
def Loc(sc:Scope)(x:Str):Prop:=sc.names.lookup x=some .local∨sc.names.lookup x=some .cell
def Look(env:Env)(h:Heap)(m:Str→Option Value)(x:Str)(u:Value):Prop:=
 (env.kindOf x=some .local∧m x=some u)∨((env.kindOf x=some .cell∨env.kindOf x=some .free)∧∃c,env.cells.lookup x=some c∧h.IsCell c (some u))
structure Cx.Ok(X:Cx):Prop where
 mod:Mod X.K X.mg X.base
 kind:X.env.scope.kind=.function
 glob:X.env.globals=mainGlobals
 blt:X.env.builtins=builtinsNs
 above:X.b7.heap.objs.size≤X.env.locals
 inj:∀x y c,X.env.cells.lookup x=some c→X.env.cells.lookup y=some c→x=y
 has:∀x,(X.env.kindOf x=some .cell∨X.env.kindOf x=some .free)→∃c,X.env.cells.lookup x=some c
 wx:∀x c,X.fn x=true→X.env.cells.lookup x=some c→X.b7.heap.objs.size≤c
 hd:X.calm=true→X.A.handled=none
 frames:X.A.frames=some X.stack
 AZ:X.stack=X.outer∨(X.stack=X.env::X.outer∧X.env.frame=some X.env.locals)
 HC:∀b∈X.ex,b≠X.env.locals∧∀x c,X.env.cells.lookup x=some c→c≠b
 bs:∀b o,X.base.get? b=some o→X.b7.heap.get? b=some o∧X.dq b=none
 qp:X.base.objs.size≤X.b7.heap.objs.size
 yj:∀b o,X.base.get? b=some o→b∉X.ex
 zx:∀b∈X.ex,b∉X.fs
 l5:X.b7.heap.FunFrames X.base X.outer
 uj:∀b∈X.fs,X.dq b=none
structure Inv(X:Cx)(pi:List (Addr×Obj))(σ:List (Option V))(H:Hp)(s:Shared):Prop where
 ok:X.Ok
 os:s.os=X.b7.os
 bare:AllBare s.gens
 base:Un X.fs X.ex X.dq H X.b7.heap s.heap
 loc:∃m,s.heap.Ns X.env.locals m∧∀(i:Nat) (x:Str) (v:V),X.N[i]?=some x→σ[i]?=some (some v)→zm X.env.scope x→∃u,RelV v u∧Look X.env s.heap m x u
 cell:∀x c,X.env.cells.lookup x=some c→∃v,s.heap.IsCell c v
 free:H X.env.locals=none
 k7:∀x c,X.env.cells.lookup x=some c→H c=none
 pin:∀p∈X.pn++pi,s.heap.get? p.1=some p.2∧H p.1=none∧p.1≠X.env.locals∧p.1∉X.fs∧∀v,p.2.data≠.cell v
 az:eg X.prog X.w H s.heap
 len:σ.length=X.N.length
section
variable{X:Cx}{σ:List (Option V)}
theorem Cx.Ok.Vq(ok:X.Ok){b:Addr}{o:Obj}(e:X.base.get? b=some o):b∉X.fs:=fun hb=>by
 have:=(ok.l5.mem hb).1;rw[e]at this;cases this
theorem Inv.bs(I:Inv X pi σ H s):∀b o,X.base.get? b=some o→s.heap.get? b=some o∧H b=none:=fun b o e=>
 ⟨I.base.keep b o (I.ok.bs b o e).1 (I.ok.bs b o e).2 (I.ok.Vq e) (I.ok.yj b o e),I.base.free b o (I.ok.bs b o e).1 (I.ok.bs b o e).2 (I.ok.yj b o e)⟩
theorem Inv.bk(I:Inv X pi σ H s):∀b o,X.base.get? b=some o→s.heap.get? b=some o:=fun b o e=>(I.bs b o e).1
theorem Inv.mod(I:Inv X pi σ H s):Mod X.K X.mg X.base:=I.ok.mod
theorem Inv.tJ(I:Inv X pi σ H s):X.K.In s.heap:=I.ok.mod.Eh.keeps I.bk
theorem Inv.lt(I:Inv X pi σ H s):X.env.locals<s.heap.objs.size:=by
 obtain⟨_,hn,_⟩:=I.loc;exact hn.lt
theorem Inv.sz(I:Inv X pi σ H s):X.b7.heap.objs.size≤s.heap.objs.size:=eR I.ok.above (nz I.lt)
theorem Inv.Vs(I:Inv X pi σ H s)(h:s.heap.objs.size≤a):a∉X.fs:=fun hb=>by
 obtain⟨_,o,ho,_⟩:=I.ok.l5.mem hb;exact absurd (g6 (bg ho) (eR I.sz h)) (gp _)
theorem Inv.sg(I:Inv X pi σ H s):∀x c,X.env.cells.lookup x=some c→c≠X.env.locals:=fun x c e z=>by
 obtain⟨v,o,ho,hd⟩:=I.cell x c e;obtain⟨m,⟨bP,es,ep,jm,fS,_⟩,_⟩:=I.loc;rw[z,jm]at ho;cases ho;rw[fS]at hd;cases hd
theorem Inv.l5(I:Inv X pi σ H s):s.heap.FunFrames X.base X.outer:=by
 have all:∀(l:List Env),(∀b∈lT l,b∈X.fs)→X.b7.heap.FunFrames X.base l→s.heap.FunFrames X.base l:=by
  intro l
  induction l with
  | nil=>intro _ _;trivial
  | cons env r ih=>
   intro hs hl;obtain⟨hk,⟨L,o,hf,hn,ho,hd⟩,hr⟩:=hl;have hL:L∈X.fs:=hs L (by unfold lT;rw[List.filterMap_cons,hf];exact bX);obtain⟨sl,e⟩:=I.base.slot L o ho (I.ok.uj L hL) hL fun z=>I.ok.zx L z hL
   exact⟨hk,⟨L,_,hf,hn,e,hd⟩,ih (fun b hb=>hs b (by unfold lT;rw[List.filterMap_cons,hf];exact b8 _ hb)) hr⟩
 exact all X.outer (fun _ hb=>hb) I.ok.l5
theorem Inv.stack(I:Inv X pi σ H s):s.heap.FunFrames X.base X.stack:=by
 rcases I.ok.AZ with e | ⟨e,hf⟩
 ·rw[e];exact I.l5
 ·rw[e]
  obtain⟨m,hn,_⟩:=I.loc;refine .cons (by rw[I.ok.kind];decide) hf hn ?_ I.l5;exact Heap.get?_none_of_le (eR I.ok.qp I.ok.above)
theorem Inv.A4(I:Inv X pi σ H s):∀b∈lT X.stack,b∈X.env.locals::X.fs:=fun b hb=>by
 rcases I.ok.AZ with e | ⟨e,hf⟩
 ·rw[e]at hb;exact b8 _ hb
 ·rw[e]at hb
  unfold lT at hb;rw[List.filterMap_cons,hf]at hb;exact hb
theorem Inv.Ke(I:Inv X pi σ H s):∀b∈lT X.stack,H b=none:=fun b hb=>by
 rcases cg (I.A4 b hb) with e | hb
 ·rw[e];exact I.free
 ·obtain⟨_,o,ho,_⟩:=I.ok.l5.mem hb
  exact I.base.free b o ho (I.ok.uj b hb) fun z=>I.ok.zx b z hb
theorem Inv.step{g':Array GenState}{d':Drawn}(I:Inv X pi σ H s)(nS:∀b∈ch,(b∈X.ex∨X.b7.heap.objs.size≤b)∧b≠X.env.locals∧(∀x c,X.env.cells.lookup x=some c→c≠b)∧∀p∈X.pn++pi,p.1≠b)(keep:∀b o,b≠X.env.locals→b∉X.fs→b∉ch→s.heap.get? b=some o→H b=none→h'.get? b=some o)(slot:∀b o,b≠X.env.locals→b∈X.fs→b∉ch→s.heap.get? b=some o→H b=none→∃sl,h'.get? b=some { o with slots:=sl })(free:∀b o,b∉ch→s.heap.get? b=some o→H b=none→aa b=none)(there:∀b o,b∉ch→s.heap.get? b=some o→∃bP,h'.get? b=some bP)(lq:∀b xs,H b=some (.tup xs)→aa b=some (.tup xs))(l3:∀b o u,H b=some (.bt o u)→aa b=some (.bt o u))(oj:∀b ps,H b=some (.rL ps)→∃more,aa b=some (.rL (ps++more)))(ns:∀m,s.heap.Ns X.env.locals m→h'.Ns X.env.locals m)(az:eg X.prog X.w aa h')(hg:AllBare g') :
  Inv X pi σ aa { s with heap:=h',gens:=g',drawn:=d',toks:=t' }:=by
 have Jq:∀b o,X.b7.heap.get? b=some o→b≠X.env.locals:=fun b o e=>b0 (g6 (bg e) I.ok.above)
 have AN:∀b o,X.b7.heap.get? b=some o→b∉X.ex→b∉ch:=fun b o e hx hb=>by
  rcases(nS b hb).1 with z | z
  ·exact hx z
  ·exact absurd (g6 (bg e) z) (gp _)
 have cellK:∀x c,X.env.cells.lookup x=some c→∀v,s.heap.IsCell c v→h'.IsCell c v:=fun x c e v af=>by
  obtain⟨o,ho,hd⟩:=af;have yg:c∉ch:=fun z=>(nS c z).2.2.1 x c e rfl
  by_cases hc:c∈X.fs
  ·obtain⟨sl,q⟩:=slot c o (I.sg x c e) hc yg ho (I.k7 x c e)
   exact⟨_,q,hd⟩
  ·exact⟨o,keep c o (I.sg x c e) hc yg ho (I.k7 x c e),hd⟩
 refine⟨I.ok,I.os,hg,⟨fun b o e n hb hx=>?_,fun b o e n hb hx=>?_,fun b o e n hx=>?_,fun b o e hx=>?_,fun b xs e=>lq b xs (I.base.lq b xs e),fun b o xs e=>l3 b o xs (I.base.l3 b o xs e),fun b ps e=>?_⟩,?_,fun x c e=>?_,?_,fun x c e=>?_,fun p hp=>?_,az,I.len⟩
 ·exact keep b o (Jq b o e) hb (AN b o e hx) (I.base.keep b o e n hb hx) (I.base.free b o e n hx)
 ·obtain⟨sl,e1⟩:=I.base.slot b o e n hb hx
  obtain⟨Wx,e2⟩:=slot b _ (Jq b o e) hb (AN b o e hx) e1 (I.base.free b o e n hx);exact⟨Wx,e2⟩
 ·obtain⟨bP,e1⟩:=I.base.there b o e hx
  exact free b bP (AN b o e hx) e1 (I.base.free b o e n hx)
 ·obtain⟨bP,e1⟩:=I.base.there b o e hx
  exact there b bP (AN b o e hx) e1
 ·obtain⟨m1,e1⟩:=I.base.oj b ps e
  obtain⟨m2,e2⟩:=oj b _ e1;exact⟨m1++m2,by rw[e2,Array.append_assoc]⟩
 ·obtain⟨m,hn,hl⟩:=I.loc
  refine⟨m,ns m hn,fun i x v e1 e2 e3=>?_⟩;obtain⟨u,r,l⟩:=hl i x v e1 e2 e3;refine⟨u,r,?_⟩;rcases l with l | ⟨k,c,e,z⟩
  ·exact .inl l
  ·exact .inr ⟨k,c,e,cellK x c e _ z⟩
 ·obtain⟨v,z⟩:=I.cell x c e
  exact⟨v,cellK x c e v z⟩
 ·obtain⟨m,⟨o,_,_,ho,_⟩,_⟩:=I.loc
  exact free _ o (fun z=>(nS _ z).2.1 rfl) ho I.free
 ·obtain⟨v,o,ho,hd⟩:=I.cell x c e
  exact free c o (fun z=>(nS c z).2.2.1 x c e rfl) ho (I.k7 x c e)
 ·obtain⟨e,n,ne,nf,d⟩:=I.pin p hp
  have yg:p.1∉ch:=fun z=>(nS p.1 z).2.2.2 p hp rfl
  exact⟨keep p.1 p.2 ne nf yg e n,free p.1 p.2 yg e n,ne,nf,d⟩
theorem Inv.un(I:Inv X pi σ H s)(u:Un X.fs [] H aa s.heap h')(az:eg X.prog X.w aa h'):Inv X pi σ aa { s with heap:=h',toks:=t' }:=by
 obtain⟨m,⟨o,es,ep,ho,r⟩,_⟩:=id I.loc;obtain⟨sl,hL⟩:=u.any ho I.free (by simp);exact I.step (g':=s.gens) (d':=s.drawn) (ch:=[]) (fun _ z=>nomatch z) (fun b o _ hb _ e n=>u.keep b o e n hb (by simp)) (fun b o _ hb _ e n=>u.slot b o e n hb (by simp)) (fun b o _ e n=>u.free b o e n (by simp)) (fun b o _ e=>u.there b o e (by simp)) u.lq u.l3 u.oj (fun ae hm=>by
  obtain⟨bP,km,jg,jm,cn⟩:=hm;rw[ho]at jm;cases jm;exact⟨_,km,jg,hL,cn⟩) az I.bare
theorem Inv.call{g':Array GenState}{d':Drawn}(I:Inv X pi σ H s)(u:Un (lT X.stack) ch H aa s.heap h')(az:eg X.prog X.w aa h')(hg:AllBare g')(nS:∀b∈ch,(b∈X.ex∨X.b7.heap.objs.size≤b)∧b≠X.env.locals∧(∀x c,X.env.cells.lookup x=some c→c≠b)∧∀p∈X.pn++pi,p.1≠b) :
  Inv X pi σ aa { s with heap:=h',gens:=g',drawn:=d',toks:=t' }:=by
 obtain⟨m,⟨o,es,ep,ho,r⟩,_⟩:=id I.loc;obtain⟨sl,hL⟩:=u.any ho I.free fun z=>(nS _ z).2.1 rfl
 exact I.step (ch:=ch) nS (fun b o hL hb hc e n=>u.keep b o e n (fun z=>(cg (I.A4 b z)).elim hL hb) hc) (fun b o _ _ hc e n=>u.any e n hc) (fun b o hc e n=>u.free b o e n hc) (fun b o hc e=>u.there b o e hc) u.lq u.l3 u.oj (fun ae hm=>by
  obtain⟨bP,km,jg,jm,cn⟩:=hm;rw[ho]at jm;cases jm;exact⟨_,km,jg,hL,cn⟩) az hg
theorem Inv.turned(I:Inv X pi σ H s)(k:∀b o,b≠it→s.heap.get? b=some o→h'.get? b=some o)(hn:H it=none)(hL:it≠X.env.locals)(h1:it∈X.ex∨X.b7.heap.objs.size≤it)(h2:∀x c,X.env.cells.lookup x=some c→c≠it)(h3:∀p∈X.pn++pi,p.1≠it):Inv X pi σ H { s with heap:=h',toks:=t' }:=by
 have Jr:∀b u,H b=some u→b≠it:=fun b u e z=>by rw[z,hn]at e;cases e
 refine I.step (g':=s.gens) (d':=s.drawn) (ch:=[it]) (fun b hb=>?_) (fun b o _ _ hc e _=>k b o (fun z=>hc (by simp[z])) e) (fun b o _ _ hc e _=>⟨o.slots,k b o (fun z=>hc (by simp[z])) e⟩) (fun _ _ _ _ n=>n)
  (fun b o hc e=>⟨o,k b o (fun z=>hc (by simp[z])) e⟩) (fun _ _ e=>e) (fun _ _ _ e=>e) (fun b ps e=>⟨#[],by rw[e];simp⟩) (fun m hm=>?_) (fun b u e=>?_) I.bare
 ·have e:b=it:=by simpa using hb
  subst e;exact⟨h1,hL,h2,h3⟩
 ·obtain⟨o,es,ep,ho,r⟩:=hm
  exact⟨o,es,ep,k _ o (Ne.symm hL) ho,r⟩
 ·refine(I.az b u e).kb (fun c v hc q=>k c v ?_ q) (fun _ q=>q) fun _ _ q=>q
  rcases hc with z | z
  ·rw[z];exact Jr b u e
  ·exact Jr c _ z
theorem Inv.tok(I:Inv X pi σ H s)(t:Nat):Inv X pi σ H { s with toks:=t }:=I.un (h':=s.heap) (t':=t) Un.refl I.az
theorem Inv.kept{t':Nat}(I:Inv X pi σ H s)(k:∀b u,s.heap.get? b=some u→h'.get? b=some u):Inv X pi σ H { s with heap:=h',toks:=t' }:=I.un (Un.kept k) (I.az.kept k)
theorem Inv.laid{a:Addr}{o:HO}{t':Nat}(I:Inv X pi σ H s)(k:∀b u,s.heap.get? b=some u→h'.get? b=some u)(hp:s.heap.objs.size≤a)(new:du X.prog X.w (upd H a o) h' a o):
  Inv X pi σ (upd H a o) { s with heap:=h',toks:=t' }:=I.un (Un.laid k hp (I.az.fresh hp)) (I.az.laid k hp new)
theorem Inv.write{x e:Addr}{o:HO}{t':Nat}(I:Inv X pi σ H s)(mu:vT (H x))(he:e=x∨H e=some (.own x))(k:∀b u,b≠e→s.heap.get? b=some u→h'.get? b=some u)(ux:∃u,h'.get? e=some u)
  (new:du X.prog X.w (upd H x o) h' x o):Inv X pi σ (upd H x o) { s with heap:=h',toks:=t' }:=I.un (Un.write mu he k ux) (I.az.write mu he k ux new)
theorem Inv.Jy{Jx:List (Addr×Obj)}(I:Inv X pi σ H s)(h:∀p∈Jx,s.heap.get? p.1=some p.2∧H p.1=none∧p.1≠X.env.locals∧p.1∉X.fs∧∀v,p.2.data≠.cell v):Inv X Jx σ H s:=
 ⟨I.ok,I.os,I.bare,I.base,I.loc,I.cell,I.free,I.k7,fun p hp=>(de hp).elim (fun z=>I.pin p (eP _ z)) (h p),I.az,I.len⟩
theorem lG(hN:N.Nodup)(a:N[i]?=some x)(b:N[j]?=some x):i=j:=by
 obtain⟨h1,e1⟩:=List.getElem?_eq_some_iff.mp a;obtain⟨h2,e2⟩:=List.getElem?_eq_some_iff.mp b;exact(List.getElem_inj hN).mp (e1.trans e2.symm)
theorem dH{M:Model}{v:V}{Q:Unit→Shared→Prop}(I:Inv X pi σ H s)(hN:X.N.Nodup)(hi:X.N[i]?=some x)(hx:Loc X.env.scope x)(r:RelV v u)(h:∀s',Inv X pi (σ.set i (some v)) H s'→(∃a,Heap.SameBut a s.heap s'.heap∧(a=X.env.locals∨X.env.cells.lookup x=some a))→Q () s')(hf:X.fn x=true∨X.env.scope.names.lookup x=some .local:=by first | exact .inl rfl | exact .inr rfl | assumption):wpAny M A (storeName X.env x u) Q E s:=by
 obtain⟨m,hn,hl⟩:=id I.loc;have SV:(X.env.scope.kind==.class||(X.env.scope.kind==.module&&X.env.locals != X.env.globals))=false:=by rw[I.ok.kind];rfl
 have Ir:i<σ.length:=by rw[I.len];exact(List.getElem?_eq_some_iff.mp hi).1
 have sg:=I.sg;have tracked:∀{a:Addr} {h':Heap},(∃o,s.heap.get? a=some o∧H a=none)→Heap.SameBut a s.heap h'→eg X.prog X.w H h':=fun {a h'} ha hs b ob e=>by
  obtain⟨_,_,uz⟩:=ha;refine(I.az b ob e).kb (fun c gk hc q=>(hs.2 c ?_).trans q) (fun _ q=>q) fun _ _ q=>q
  rintro rfl;rcases hc with rfl | hc
  ·rw[uz]at e;cases e
  ·rw[uz]at hc;cases hc
 rcases hx with hk | hk
 ·refine wpAny_storeName_local hk hn (fun h' nV hs=>?_) SV
  obtain⟨oL,_,_,jc,_⟩:=id hn;refine h _ ⟨I.ok,I.os,I.bare,⟨fun b o e n hb hx=>?_,fun b o e n hb hx=>?_,I.base.free,fun b o e hx=>?_,I.base.lq,I.base.l3,I.base.oj⟩,⟨_,nV,fun j y yw e1 e2 e3=>?_⟩,fun y c e=>?_,I.free,I.k7,fun p hp=>?_,tracked ⟨oL,jc,I.free⟩ hs,by simpa using I.len⟩ ⟨_,hs,.inl rfl⟩
  ·exact(hs.2 b (b0 (g6 (bg e) I.ok.above))).trans (I.base.keep b o e n hb hx)
  ·obtain⟨sl,e1⟩:=I.base.slot b o e n hb hx
   exact⟨sl,(hs.2 b (b0 (g6 (bg e) I.ok.above))).trans e1⟩
  ·obtain⟨bP,e1⟩:=I.base.there b o e hx
   exact⟨bP,(hs.2 b (b0 (g6 (bg e) I.ok.above))).trans e1⟩
  ·by_cases hj:j=i
   ·subst hj
    rw[hi]at e1;cases e1;rw[List.getElem?_set_self Ir]at e2;cases e2;exact⟨u,r,.inl ⟨hk,by simp⟩⟩
   ·rw[List.getElem?_set_ne (Ne.symm hj)]at e2
    obtain⟨gz,cn,q⟩:=hl j y yw e1 e2 e3;refine⟨gz,cn,?_⟩;rcases q with ⟨k,e⟩ | ⟨k,c,e,z⟩
    ·refine .inl ⟨k,?_⟩
     have:y≠x:=fun e=>hj (lG hN e1 (e▸hi))
     simp[this,e]
    ·exact .inr ⟨k,c,e,z.sameBut hs (sg y c e)⟩
  ·obtain⟨gk,z⟩:=I.cell y c e
   exact⟨gk,z.sameBut hs (sg y c e)⟩
  ·obtain⟨e,n,ne,nf,d⟩:=I.pin p hp
   exact⟨(hs.2 p.1 ne).trans e,n,ne,nf,d⟩
 ·have Dw:X.fn x=true:=by
   rcases hf with z | z
   ·exact z
   ·rw[z]at hk;cases hk
  obtain⟨c,hc⟩:=I.ok.has x (.inl hk);obtain⟨gk,z⟩:=I.cell x c hc;refine wpAny_storeName_cell I.ok.kind hk hc z (fun h' sx hs=>?_);obtain⟨oc,IE,Ub⟩:=id z;refine h { s with heap:=h' } ⟨I.ok,I.os,I.bare,⟨fun b o e n hb hx=>?_,fun b o e n hb hx=>?_,I.base.free,fun b o e hx=>?_,I.base.lq,I.base.l3,I.base.oj⟩,⟨m,hn.sameBut hs (Ne.symm (sg x c hc)),fun j y yw e1 e2 e3=>?_⟩,fun y cw e=>?_,I.free,I.k7,fun p hp=>?_,tracked ⟨oc,IE,I.k7 x c hc⟩ hs,by simpa using I.len⟩ ⟨c,hs,.inr hc⟩
  ·exact(hs.2 b (b0 (g6 (bg e) (I.ok.wx x c Dw hc)))).trans (I.base.keep b o e n hb hx)
  ·obtain⟨sl,e1⟩:=I.base.slot b o e n hb hx
   exact⟨sl,(hs.2 b (b0 (g6 (bg e) (I.ok.wx x c Dw hc)))).trans e1⟩
  ·obtain⟨bP,e1⟩:=I.base.there b o e hx
   exact⟨bP,(hs.2 b (b0 (g6 (bg e) (I.ok.wx x c Dw hc)))).trans e1⟩
  ·by_cases hj:j=i
   ·subst hj
    rw[hi]at e1;cases e1;rw[List.getElem?_set_self Ir]at e2;cases e2;exact⟨u,r,.inr ⟨.inl hk,c,hc,sx⟩⟩
   ·rw[List.getElem?_set_ne (Ne.symm hj)]at e2
    obtain⟨gz,cn,q⟩:=hl j y yw e1 e2 e3;refine⟨gz,cn,?_⟩;rcases q with q | ⟨k,cw,e,cp⟩
    ·exact .inl q
    ·refine .inr ⟨k,cw,e,cp.sameBut hs ?_⟩
     rintro rfl;exact hj (lG hN e1 (I.ok.inj _ _ _ e hc▸hi))
  ·by_cases jI:cw=c
   ·subst jI;exact⟨_,sx⟩
   ·obtain⟨w2,z2⟩:=I.cell y cw e
    exact⟨w2,z2.sameBut hs jI⟩
  ·obtain⟨e,n,ne,nf,d⟩:=I.pin p hp
   refine⟨(hs.2 p.1 ?_).trans e,n,ne,nf,d⟩;intro q;rw[q,IE]at e;have dj:oc=p.2:=cE e;exact d gk (by rw[←dj];exact Ub)
theorem jO{M:Model}{v:V}{Q:Unit→Shared→Prop}(I:Inv X pi σ H s)(hN:X.N.Nodup)(hi:X.N[i]?=some x)(hx:Loc X.env.scope x)(r:RelV v u)(h:∀s',Inv X pi (σ.set i (some v)) H s'→Q () s')(hf:X.fn x=true∨X.env.scope.names.lookup x=some .local:=by first | exact .inl rfl | exact .inr rfl | assumption):wpAny M A (storeName X.env x u) Q E s:=
 dH I hN hi hx r (fun s' h9 _=>h s' h9) hf
theorem Inv.Rq{s':Shared}(I:Inv X pi σ H s)(ho:s'.os=s.os)(u:Un (lT X.stack) ch H aa s.heap s'.heap)(az:eg X.prog X.w aa s'.heap)(hg:AllBare s'.gens)(nS:∀b∈ch,(b∈X.ex∨X.b7.heap.objs.size≤b)∧b≠X.env.locals∧(∀x c,X.env.cells.lookup x=some c→c≠b)∧∀p∈X.pn++pi,p.1≠b):Inv X pi σ aa s':=by
 obtain⟨h',g',d',t',bP⟩:=s';have e:bP=s.os:=ho;subst e;exact I.call (g':=g') (t':=t') (d':=d') u az hg nS
end
noncomputable abbrev XK:=Value→Option Addr→Hp→Prop
noncomputable abbrev St:=List (Option V)
noncomputable abbrev VK:=V→Hp→Prop
noncomputable abbrev TE:=St→Hp→VK→Prop
noncomputable abbrev TT:=St→Hp→(Bool→Hp→Prop)→Prop
noncomputable abbrev TA:=St→Hp→(List V→Hp→Prop)→Prop
structure Ends where
 nx:St→Hp→Prop
 rt:VK
 bk:St→Hp→Prop:=fun _ _=>False
 ct:St→Hp→Prop:=fun _ _=>False
noncomputable abbrev TS:=Ends→St→Hp→Prop
def EP(X:Cx)(pi:List (Addr×Obj))(σ:St)(Q:VK)(u:Value)(s':Shared):Prop:=∃v aa,Inv X pi σ aa s'∧RelV v u∧Q v aa
def TP(X:Cx)(pi:List (Addr×Obj))(σ:St)(Q:Bool→Hp→Prop)(b:Bool)(s':Shared):Prop:=∃aa,Inv X pi σ aa s'∧Q b aa
def AP(X:Cx)(pi:List (Addr×Obj))(σ:St)(Q:List V→Hp→Prop)(us:List Value)(s':Shared):Prop:=∃vs aa,Inv X pi σ aa s'∧Vals vs us∧Q vs aa
def SP(X:Cx)(pi:List (Addr×Obj))(D:Ends)(f:Flow)(s':Shared):Prop:=
 match f with
 | .next=>∃σ' aa,Inv X pi σ' aa s'∧D.nx σ' aa
 | .brk=>∃σ' aa,Inv X pi σ' aa s'∧D.bk σ' aa
 | .cont=>∃σ' aa,Inv X pi σ' aa s'∧D.ct σ' aa
 | .ret u=>∃v σ' aa,Inv X pi σ' aa s'∧RelV v u∧D.rt v aa
def PE(X:Cx)(e:Expr)(t:TE):Prop:=
 ∀(pi:List (Addr×Obj)) (s:Shared) (σ:St) (H:Hp) (Q:VK),Inv X pi σ H s→t σ H Q→wpAny (model X.prog X.w) X.A (eval e X.env) (EP X pi σ Q) X.xe s
def PT(X:Cx)(e:Expr)(t:TT):Prop:=
 ∀(pi:List (Addr×Obj)) (s:Shared) (σ:St) (H:Hp) (Q:Bool→Hp→Prop),Inv X pi σ H s→t σ H Q→wpAny (model X.prog X.w) X.A (isTrue e X.env (eval e X.env)) (TP X pi σ Q) X.xe s
def PW(X:Cx)(e:Expr)(t:TT):Prop:=
 ∀(whole:Sem Value) (pi:List (Addr×Obj)) (s:Shared) (σ:St) (H:Hp) (Q:Bool→Hp→Prop),Inv X pi σ H s→t σ H Q→wpAny (model X.prog X.w) X.A (isTrue e X.env whole) (TP X pi σ Q) X.xe s
theorem PW.pt{X:Cx}{t:TT}(h:PW X e t):PT X e t:=h _
def PA(X:Cx)(es:List Expr)(t:TA):Prop:=
 ∀(pos:Pos) (pi:List (Addr×Obj)) (s:Shared) (σ:St) (H:Hp) (Q:List V→Hp→Prop),Inv X pi σ H s→t σ H Q→wpAny (model X.prog X.w) X.A (spliced (backTo pos (starEach es X.env))) (AP X pi σ Q) X.xe s
def PS(X:Cx)(st:Stmt)(t:TS):Prop:=
 ∀(pi:List (Addr×Obj)) (s:Shared) (σ:St) (H:Hp) (D:Ends),Inv X pi σ H s→t D σ H→wpAny (model X.prog X.w) X.A (exec st X.env) (SP X pi D) X.xe s
def eC(X:Cx)(st:List Stmt)(t:TS):Prop:=
 ∀(pi:List (Addr×Obj)) (s:Shared) (σ:St) (H:Hp) (D:Ends),Inv X pi σ H s→t D σ H→wpAny (model X.prog X.w) X.A (execs st X.env) (SP X pi D) X.xe s
theorem a8{α:Type}{t:Sem α}{Q nq:α→Shared→Prop}{M:Model}(h:wpAny M A t Q E s)(hQ:∀a s,Q a s→nq a s):wpAny M A t nq E s:=fb h hQ fun _ _ x=>x
end L2
variable{X:L2.Cx}{r:List L2.V→L2.Hp→L2.VK→Prop}{ta tb td te:L2.TE}{σ:L2.St}
namespace L2
open PySem PySem.Spec PyProof.Rows
section
theorem bin{a:Expr}(ha:PE X a ta)(hb:PE X b tb){R:V→V→Hp→Prop}(I:Inv X pi σ H s)(h:ta σ H fun x H1=>tb σ H1 fun y H2=>R x y H2){α:Type}{Q:α→Shared→Prop}{f:Value→Value→Sem α}(hf:∀v u s2 x y H2,Inv X pi σ H2 s2→RelV x v→RelV y u→R x y H2→wpAny (model X.prog X.w) X.A (f v u) Q X.xe s2) :
  wpAny (model X.prog X.w) X.A (eval a X.env) (fun v bc=>wpAny (model X.prog X.w) X.A (eval b X.env) (fun u cx=>wpAny (model X.prog X.w) X.A (f v u) Q X.xe cx) X.xe bc) X.xe s:=by
 refine a8 (ha pi s σ H _ I h) fun v s1 af=>?_
 obtain⟨x,H1,I1,r1,q1⟩:=af;refine a8 (hb pi s1 σ H1 _ I1 q1) fun u s2 af=>?_
 obtain⟨y,H2,I2,r2,q2⟩:=af;exact hf v u s2 x y H2 I2 r1 r2 q2
noncomputable def R7(i:Nat):TE:=fun σ H Q=>∃v,σ[i]?=some (some v)∧Q v H
noncomputable def tC(v:V):TE:=fun _ H Q=>Q v H
theorem O2(hN:X.N[i]?=some x)(hv:zm X.env.scope x)(hd:(x==("__debug__" : Str))=false:=by decide)(jj:(x==("__classdict__" : Str))=false:=by decide):PE X (.Name x pos) (R7 i):=by
 intro pi s σ H Q I h;obtain⟨v,e,h⟩:=h;obtain⟨m,hn,hl⟩:=I.loc;obtain⟨u,r,l⟩:=hl i x v hN e hv;have fin:EP X pi σ Q u s:=⟨v,H,I,r,h⟩
 rcases l with ⟨hk,hm⟩ | ⟨hk,c,hc,Ii⟩
 ·exact wpAny_Name (wpAny_loadName_local I.ok.kind hk hn hm fin) hd
 ·rcases hk with hk | hk
  ·exact wpAny_Name (wpAny_loadName_cell I.ok.kind hk hc Ii fin) hd
  ·exact wpAny_Name (wpAny_loadName_free I.ok.kind hk hc Ii fin jj) hd
theorem zQ{i j pos}:PE X (.Constant (.int i) j pos) (tC (.int i)):=fun _ _ _ H _ I h=>wpAny_Constant_int ⟨.int i,H,I.tok _,⟨_,rfl⟩,h⟩
theorem FH{b j pos}:PE X (.Constant (.bool b) j pos) (tC (.bl b)):=fun _ _ _ H _ I h=>Constant_bool ⟨.bl b,H,I,rfl,h⟩
theorem OI{j pos}:PE X (.Constant .none j pos) (tC .ao):=fun _ _ _ H _ I h=>Constant_none ⟨.ao,H,I,rfl,h⟩
theorem OH{x j pos}:PE X (.Constant (.str x) j pos) (tC (.str x)):=fun _ _ _ H _ I h=>Calls.Constant_str ⟨.str x,H,I.tok _,⟨_,rfl⟩,h⟩
def Gl(X:Cx)(x:Str):Prop:=X.env.kindOf x=some .globalImplicit
theorem rF(I:Inv X pi σ H s)(hg:Gl X x)(hm:X.mg x=some u)(h:Q u s)(hd:(x==("__debug__" : Str))=false:=by decide):wpAny (model X.prog X.w) X.A (eval (.Name x pos) X.env) Q E s:=
 Calls.Name_function_global I.ok.kind hg (Calls.loadGlobal_global (by rw[I.ok.glob];exact I.mod.glob.keeps I.bk) hm h) hd
theorem M9(I:Inv X pi σ H s)(hg:Gl X x)(hm:X.mg x=none)(hv:bootBuiltins x=some u)(h:Q u s)(hn:x≠"__name__":=by decide)(hd:(x==("__debug__" : Str))=false:=by decide):wpAny (model X.prog X.w) X.A (eval (.Name x pos) X.env) Q E s:=by
 obtain⟨mb,h1,h2⟩:=I.mod.blt;exact Calls.Name_function_global I.ok.kind hg (Calls.loadGlobal_builtin (by rw[I.ok.glob];exact I.mod.glob.keeps I.bk) hm (by rw[I.ok.blt];exact h1.keeps I.bk) ((h2 x hn).trans hv) h) hd
theorem Mf{v:V}(hg:Gl X x)(hm:X.mg x=some u)(r:RelV v u)(hd:(x==("__debug__" : Str))=false:=by decide):PE X (.Name x pos) (tC v):=
 fun _ _ _ H _ I h=>rF I hg hm ⟨v,H,I,r,h⟩ hd
variable{a:Expr}
def PC(X:Cx)(op:CmpOp)(a b:Expr)(t:TE):Prop:=
 ∀(pi:List (Addr×Obj)) (s:Shared) (σ:St) (H:Hp) (Q:VK),Inv X pi σ H s→t σ H Q→
  wpAny (model X.prog X.w) X.A (eval a X.env) (fun v bc=>wpAny (model X.prog X.w) X.A (eval b X.env) (fun u cx=>wpAny (model X.prog X.w) X.A (compareOp op v u) (EP X pi σ Q) X.xe cx) X.xe bc) X.xe s
theorem Kt(b:Expr)(h:op≠.In)(h2:op≠.NotIn):behindInMarks op b=false:=by
 have e1:(op==CmpOp.In)=false:=by cases op<;>first | rfl | exact absurd rfl h
 have e2:(op==CmpOp.NotIn)=false:=by cases op<;>first | rfl | exact absurd rfl h2
 cases b<;>simp[behindInMarks,e1,e2]
noncomputable def tB(t:TE):TT:=fun σ H Q=>t σ H fun x H1=>∃c,x=.bl c∧Q c H1
theorem zE{t:TE}(h:PC X op a b t)(h1:behindInMarks op b=false:=by first | exact Kt _ (by decide) (by decide) | rfl):PT X (.Compare a [op] [b] pos) (tB t):=by
 intro pi s σ H Q I hw;refine wpAny_isTrue_Compare1 (a8 (h pi s σ H _ I hw) fun v s1 h1=>a8 h1 fun u s2 h2=>a8 h2 fun c s3 af=>?_) h1;obtain⟨x,H1,I1,r1,q1⟩:=af;obtain⟨d,rfl,q⟩:=q1;cases r1;exact wpAny_truthy_bool ⟨H1,I1,q⟩
variable{tA A7:TT}{rest:List Expr}
noncomputable def Qz(t u:TT):TT:=fun σ H Q=>t σ H fun c H1=>if c=true then u σ H1 Q else Q false H1
noncomputable def WH(t u:TT):TT:=fun σ H Q=>t σ H fun c H1=>if c=true then Q true H1 else u σ H1 Q
noncomputable def Qx(t:TT):TT:=fun σ H Q=>t σ H fun c H1=>Q (!c) H1
theorem LZ(ha:PT X a tA):PW X (.BoolOp .And [a] pos) tA:=by
 intro wh pi s σ H Q I h;refine isTrue_and (a8 (ha pi s σ H Q I h) fun c s1 e=>?_);cases c with
 | true=>exact isTrue_and_nil e
 | false=>exact e
theorem Ow(ha:PT X a tA):PW X (.BoolOp .Or [a] pos) tA:=by
 intro wh pi s σ H Q I h;refine isTrue_or (a8 (ha pi s σ H Q I h) fun c s1 e=>?_);cases c with
 | false=>exact isTrue_or_nil e
 | true=>exact e
theorem Ox(ha:PT X a tA)(hb:PW X (.BoolOp .And (b::rest) pos) A7):PW X (.BoolOp .And (a::b::rest) pos) (Qz tA A7):=by
 intro wh pi s σ H Q I h;refine isTrue_and (a8 (ha pi s σ H _ I h) fun c s1 af=>?_);obtain⟨H1,I1,q1⟩:=af;cases c with
 | true=>exact hb wh pi s1 σ H1 Q I1 q1
 | false=>exact⟨H1,I1,q1⟩
theorem P8(ha:PT X a tA)(hb:PW X (.BoolOp .Or (b::rest) pos) A7):PW X (.BoolOp .Or (a::b::rest) pos) (WH tA A7):=by
 intro wh pi s σ H Q I h;refine isTrue_or (a8 (ha pi s σ H _ I h) fun c s1 af=>?_);obtain⟨H1,I1,q1⟩:=af;cases c with
 | true=>exact⟨H1,I1,q1⟩
 | false=>exact hb wh pi s1 σ H1 Q I1 q1
theorem OA(ha:PT X a tA):PT X (.UnaryOp .Not a pos) (Qx tA):=by
 intro pi s σ H Q I h;exact isTrue_not (ha pi s σ H (fun c H1=>Q (!c) H1) I h)
noncomputable def WG(t:TT)(ta tb:TE):TE:=fun σ H Q=>t σ H fun c H1=>if c=true then ta σ H1 Q else tb σ H1 Q
theorem zR(hc:PT X c tA)(ha:PE X a ta)(hb:PE X b tb):PE X (.IfExp c a b pos) (WG tA ta tb):=by
 intro pi s σ H Q I h;refine wpAny_IfExp (a8 (hc pi s σ H _ I h) fun d s1 af=>?_);obtain⟨H1,I1,q1⟩:=af;cases d with
 | true=>exact ha pi s1 σ H1 Q I1 q1
 | false=>exact hb pi s1 σ H1 Q I1 q1
end
end L2
namespace L2
open PySem PySem.Spec PyProof.Rows
def c6(K:p4)(H:Hp)(a:Addr)(xs:List V):Prop:=
 Rd H a (.lst xs)∨
  ∃(o:Obj) (its:Array Value) (n:Nat),K.lookup a=some o∧o.cls=.type "list"∧o.dict=none∧o.data=.seq its n∧its.size≤sizeLine∧Vals xs its.toList
def dv(K:p4)(H:Hp)(a:Addr)(xs:List V):Prop:=
 Rd H a (.tup xs)∨
  ∃(o:Obj) (its:Array Value) (n:Nat),K.lookup a=some o∧o.cls=.type "tuple"∧o.data=.seq its n∧its.size≤sizeLine∧Vals xs its.toList
noncomputable def Q1:Value→Option V
 | .none=>some .ao
 | .bool b=>some (.bl b)
 | .int i _=>some (.int i)
 | .str x _=>some (.str x)
 | .bytes b _=>some (.jd b)
 | .float b _=>some (.CU b)
 | .ref a=>some (.ref a)
 | .type n=>some (.ty n)
 | _=>none
theorem RelV.abs{x:V}(r:RelV x u):Q1 u=some x:=by
 cases x with
 | ao=>cases r;rfl
 | bl _=>cases r;rfl
 | int _=>obtain⟨t,rfl⟩:=r;rfl
 | str _=>obtain⟨t,rfl⟩:=r;rfl
 | jd _=>obtain⟨t,rfl⟩:=r;rfl
 | CU _=>obtain⟨t,rfl⟩:=r;rfl
 | ref _=>cases r;rfl
 | ty _=>cases r;rfl
theorem RelV.inj{x:V}(r:RelV x u)(q:RelV y u):x=y:=cE (r.abs.symm.trans q.abs)
theorem Vals.inj{xs ys:List V}{us:List Value}(h:Vals xs us)(g:Vals ys us):xs=ys:=by
 induction h generalizing ys with
 | nil=>cases g;rfl
 | cons r t ih=>cases g with
  | cons cn t'=>rw[r.inj cn,ih t']
section
variable{xs:List V}
theorem c6.of(h:H a=some (.lst xs)):c6 K H a xs:=.inl (.inl h)
theorem Inv.list(I:Inv X pi σ H s)(h:c6 X.K H a xs):∃its:List Value,Vals xs its∧PlainL s.heap a its.toArray∧xs.length≤sizeLine:=by
 rcases h with h | ⟨o,its,n,hk,hc,hd,hs,hz,r⟩
 ·obtain⟨z,its,n,r,e⟩:=h.ok I.az
  exact⟨its,r,⟨_,n,e,rfl,rfl,rfl⟩,z⟩
 ·refine⟨its.toList,r,⟨o,n,I.tJ a o hk,hc,hd,by simpa using hs⟩,?_⟩
  have e:=r.length;simp only[fR]at e;lia
theorem Inv.tuple(I:Inv X pi σ H s)(h:dv X.K H a xs):∃its:List Value,Vals xs its∧IsTup s.heap a its.toArray∧xs.length≤sizeLine:=by
 rcases h with h | ⟨o,its,n,hk,hc,hs,hz,r⟩
 ·obtain⟨z,its,r,p⟩:=h.ok I.az
  exact⟨its,r,p,z⟩
 ·refine⟨its.toList,r,⟨o,I.tJ a o hk,hc,n,by simpa using hs⟩,?_⟩
  have e:=r.length;simp only[fR]at e;lia
theorem Inv.Je(I:Inv X pi σ H s)(h:c6 X.K H a xs)(h':c6 X.K H a ys):xs=ys:=by
 obtain⟨its,r,⟨o,n,e,_,_,d⟩,_⟩:=I.list h;obtain⟨its',cn,⟨bP,mP,aI,_,_,d'⟩,_⟩:=I.list h';rw[e]at aI;cases aI;rw[d]at d';injection d' with d1 _;have:its=its':=by simpa using congrArg Array.toList d1
 subst this;exact r.inj cn
theorem Inv.Kk(I:Inv X pi σ H s)(h:dv X.K H a xs)(h':dv X.K H a ys):xs=ys:=by
 obtain⟨its,r,⟨o,e,_,n,d⟩,_⟩:=I.tuple h;obtain⟨its',cn,⟨bP,aI,_,mP,d'⟩,_⟩:=I.tuple h';rw[e]at aI;cases aI;rw[d]at d';injection d' with d1 _;have:its=its':=by simpa using congrArg Array.toList d1
 subst this;exact r.inj cn
end
noncomputable abbrev Cx.om (X:Cx) (E:Value→Shared→Prop):Cx:={ X with xe:=E }
noncomputable abbrev Cx.vn (X:Cx):Cx:=X.om fun _ _=>False
theorem Cx.Ok.om{X:Cx}(ok:X.Ok)(E:Value→Shared→Prop):(X.om E).Ok:=
 ⟨ok.mod,ok.kind,ok.glob,ok.blt,ok.above,ok.inj,ok.has,ok.wx,ok.hd,ok.frames,ok.AZ,ok.HC,ok.bs,ok.qp,ok.yj,ok.zx,ok.l5,ok.uj⟩
theorem Cx.Ok.rX(ok:(X.om E).Ok):X.Ok:=
 ⟨ok.mod,ok.kind,ok.glob,ok.blt,ok.above,ok.inj,ok.has,ok.wx,ok.hd,ok.frames,ok.AZ,ok.HC,ok.bs,ok.qp,ok.yj,ok.zx,ok.l5,ok.uj⟩
theorem Inv.om(I:Inv X pi σ H s)(E:Value→Shared→Prop):Inv (X.om E) pi σ H s:=⟨I.ok.om E,I.os,I.bare,I.base,I.loc,I.cell,I.free,I.k7,I.pin,I.az,I.len⟩
theorem Inv.rX(I:Inv (X.om E) pi σ H s):Inv X pi σ H s:=⟨I.ok.rX,I.os,I.bare,I.base,I.loc,I.cell,I.free,I.k7,I.pin,I.az,I.len⟩
theorem SP.rX{D:Ends}{f:Flow}{s':Shared}(h:SP (X.om E) pi D f s'):SP X pi D f s':=by
 cases f with
 | next=>obtain⟨σ',aa,I,q⟩:=h;exact⟨σ',aa,I.rX,q⟩
 | brk=>obtain⟨σ',aa,I,q⟩:=h;exact⟨σ',aa,I.rX,q⟩
 | cont=>obtain⟨σ',aa,I,q⟩:=h;exact⟨σ',aa,I.rX,q⟩
 | ret u=>obtain⟨v,σ',aa,I,r,q⟩:=h;exact⟨v,σ',aa,I.rX,r,q⟩
theorem eC.vn{st:List Stmt}{t:TS}(h:eC X.vn st t):eC X st t:=fun pi s σ H D I hw=>
 fb (h pi s σ H D (I.om _) hw) (fun _ _ q=>q.rX) fun _ _ z=>False.elim z
section
variable{rest:List Stmt}{t u:TS}
noncomputable def qG:TS:=fun D σ H=>D.nx σ H
noncomputable def wZ(t u:TS):TS:=fun D σ H=>t { D with nx:=u D } σ H
theorem qT:eC X [] qG:=fun _ _ σ H _ I h=>wpAny_execs_nil ⟨σ,H,I,h⟩
theorem VD(h1:PS X st t)(h2:eC X rest u):eC X (st::rest) (wZ t u):=by
 intro pi s σ H D I h;refine wpAny_execs_cons (a8 (h1 pi s σ H { D with nx:=u D } I h) fun f s1 q=>?_);cases f with
 | next=>
  obtain⟨σ',aa,h9,q⟩:=q;exact h2 pi s1 σ' aa D h9 q
 | ret v=>exact q
 | brk=>exact q
 | cont=>exact q
theorem iD(h1:PS X st t):eC X [st] t:=by
 intro pi s σ H D I h;refine wpAny_execs_cons (a8 (h1 pi s σ H D I h) fun f s1 q=>?_);cases f with
 | next=>exact wpAny_execs_nil q
 | ret v=>exact q
 | brk=>exact q
 | cont=>exact q
theorem Inv.quiet(I:Inv X pi σ H s):interactive X.env=false:=by simp[interactive,I.ok.kind]
noncomputable def xJ(te:TE):TS:=fun D σ H=>te σ H fun _ H1=>D.nx σ H1
theorem qU(he:PE X e te)(hs:swapsWith e none pos.line X.env=pure false:=by rfl):PS X (.Expr e pos) (xJ te):=by
 intro pi s σ H D I h;exact wpAny_Expr_any (a8 (he pi s σ H _ I h) fun v s1 ⟨x,H1,I1,r1,q1⟩=>⟨σ,H1,I1,q1⟩) I.quiet hs
noncomputable def Gd(te:TE):TS:=fun D σ H=>te σ H D.rt
theorem zH(he:PE X e te):PS X (.Return (some e) pos) (Gd te):=by
 intro pi s σ H D I h;exact wpAny_Return_some (a8 (he pi s σ H _ I h) fun v s1 ⟨x,H1,I1,r1,q1⟩=>⟨x,σ,H1,I1,r1,q1⟩)
noncomputable def Bu(c:TT)(t u:TS):TS:=fun D σ H=>c σ H fun b H1=>if b=true then t D σ H1 else u D σ H1
theorem FG{a b:List Stmt}{tc:TT}(hc:PT X c tc)(ha:eC X a t)(hb:eC X b u):PS X (.If c a b pos) (Bu tc t u):=by
 intro pi s σ H D I h;refine wpAny_If (a8 (hc pi s σ H _ I h) fun d s1 af=>?_);obtain⟨H1,I1,q1⟩:=af;cases d with
 | true=>exact ha pi s1 σ H1 D I1 q1
 | false=>exact hb pi s1 σ H1 D I1 q1
end
noncomputable abbrev TG:=V→St→Hp→(St→Hp→Prop)→Prop
noncomputable abbrev oP:=List V→St→Hp→(St→Hp→Prop)→Prop
def PG(X:Cx)(target:Expr)(t:TG):Prop:=
 ∀(pi:List (Addr×Obj)) (s:Shared) (σ:St) (H:Hp) (v:V) (u:Value) (Q:St→Hp→Prop),Inv X pi σ H s→RelV v u→t v σ H Q→
  wpAny (model X.prog X.w) X.A (assign target X.env u) (fun _ s'=>∃σ' aa,Inv X pi σ' aa s'∧Q σ' aa) X.xe s
def lI(X:Cx)(ts:List Expr)(t:oP):Prop:=
 ∀(pi:List (Addr×Obj)) (s:Shared) (σ:St) (H:Hp) (vs:List V) (us:List Value) (Q:St→Hp→Prop),Inv X pi σ H s→Vals vs us→t vs σ H Q→
  wpAny (model X.prog X.w) X.A (assignInOrder ((assignEach ts X.env).map (·.2)) us) (fun _ s'=>∃σ' aa,Inv X pi σ' aa s'∧Q σ' aa) X.xe s
noncomputable def aW(i:Nat):TG:=fun v σ H Q=>Q (σ.set i (some v)) H
theorem iG(hN:X.N.Nodup)(hi:X.N[i]?=some x)(hx:Loc X.env.scope x)(hf:X.fn x=true∨X.env.scope.names.lookup x=some .local:=by first | exact .inl rfl | exact .inr rfl | assumption):PG X (.Name x pos) (aW i):=by
 intro pi s σ H v u Q I r h;exact wpAny_assign_Name (jO I hN hi hx r (fun s' h9=>⟨_,H,h9,h⟩) hf)
noncomputable def Gs:oP:=fun vs σ H Q=>vs=[]∧Q σ H
noncomputable def Bh(t:TG)(u:oP):oP:=fun vs σ H Q=>∃v r,vs=v::r∧t v σ H fun σ' aa=>u r σ' aa Q
theorem qY:lI X [] Gs:=by
 intro pi s σ H vs us Q I r h;obtain⟨e,h⟩:=h;subst e;cases r;exact assignInOrder_nil ⟨σ,H,I,h⟩
theorem aG{es:List Expr}{t:TG}{u:oP}(h1:PG X e t)(h2:lI X es u)(hs:(assignEach (e::es) X.env).map (·.2)=assign e X.env::(assignEach es X.env).map (·.2):=by rfl):lI X (e::es) (Bh t u):=by
 intro pi s σ H vs us Q I r h;obtain⟨v,vr,e1,h⟩:=h;subst e1;cases r with
 | cons r rr=>
  rw[hs];refine assignInOrder_cons (a8 (h1 pi s σ H _ _ _ I r h) fun _ s1 af=>?_);obtain⟨σ1,H1,I1,q1⟩:=af;exact h2 pi s1 σ1 H1 _ _ Q I1 rr q1
noncomputable def Gr(K:p4)(n:Nat)(t:oP):TG:=fun v σ H Q=>∃a xs,v=.ref a∧dv K H a xs∧xs.length=n∧t xs σ H Q
theorem zN{es:List Expr}{k:Nat}{t:oP}(hc:X.calm=true)(h:lI X es t)(hn:(assignEach es X.env).length=n:=by rfl)(mE:(assignEach es X.env).findIdx? (·.1)=none:=by rfl):PG X (.Tuple es k pos) (Gr X.K n t):=by
 intro pi s σ H v u Q I r hw;obtain⟨a,xs,e1,hq,hl,hw⟩:=hw;subst e1;cases r;obtain⟨its,rv,ht,hz⟩:=I.tuple hq;refine assign_Tuple_tuple (I.ok.hd hc) ht (by simp[hn,←hl,rv.length]) mE fun h' hx=>?_
 have I1:Inv X pi σ H { s with heap:=h' }:=I.kept (t':=s.toks) fun b o e=>hx b o (b0 (bg e)) e
 exact h pi _ σ H xs _ Q I1 (by simpa using rv) hw
noncomputable def y0(te:TE)(g:TG):TS:=fun D σ H=>te σ H fun x H1=>g x σ H1 D.nx
theorem OC{g:TG}(he:PE X e te)(hg:PG X tg g)(hs:swapsWithSole [tg] e pos.line X.env=pure false:=by rfl)(hw:swappedStores [tg] e X.env=pure none:=by rfl)(h1:(assignEach [tg] X.env).map (·.2)=[assign tg X.env]:=by rfl):PS X (.Assign [tg] e pos) (y0 te g):=by
 intro pi s σ H D I h;refine wpAny_Assign_stores (a8 (he pi s σ H _ I h) fun v s1 af=>?_) hs hw;obtain⟨x,H1,I1,r1,q1⟩:=af;rw[h1];exact a8 (hg pi s1 σ H1 x v _ I1 r1 q1) fun _ s2 q=>q
theorem zG(hN:X.N.Nodup)(hi:X.N[i]?=some x)(hx:Loc X.env.scope x)(he:PE X e te)(hs:swapsWith e (some (.Name x pos')) pos.line X.env=pure false:=by rfl)(hf:X.fn x=true∨X.env.scope.names.lookup x=some .local:=by first | exact .inl rfl | exact .inr rfl | assumption):
  PS X (.Assign [.Name x pos'] e pos) (y0 te (aW i)):=by
 intro pi s σ H D I h;refine wpAny_Assign_Name (a8 (he pi s σ H _ I h) fun v s1 af=>?_) hs;obtain⟨y,H1,I1,r1,q1⟩:=af;exact jO I1 hN hi hx r1 (fun s2 I2=>⟨_,H1,I2,q1⟩) hf
noncomputable def NU(c:TT)(tb:TS):TS:=fun D σ H=>∃W:Nat→St→Hp→Prop,(∃m,W m σ H)∧∀m σ H,W m σ H→
 c σ H fun b H1=>if b=true then ∃N:St→Hp→Prop,(∀σ' aa,N σ' aa→∃ae,ae<m∧W ae σ' aa)∧tb { D with nx:=N,ct:=N,bk:=D.nx } σ H1 else D.nx σ H1
theorem zF{tc:TT}{tb:TS}(hp:PassesOwn (model X.prog X.w) X.A X.env X.xe)(hc:PT X c tc)(hb:eC X body tb):PS X (.While c body [] pos) (NU tc tb):=by
 intro pi s σ H D I h;obtain⟨W,⟨m0,w0⟩,turn⟩:=h;refine wpAny_While (codeAny_whileLoop (fun n s'=>∃σ' aa,Inv X pi σ' aa s'∧W n σ' aa) ?_ m0 ⟨σ,H,I,w0⟩);rintro n s1 ⟨σ1,H1,I1,w1⟩;refine wpAny_passesOwn hp (a8 (hc pi s1 σ1 H1 _ I1 (turn n σ1 H1 w1)) fun b s2 af=>?_);obtain⟨H2,I2,q2⟩:=af;cases b with
 | true=>
  obtain⟨N,hN,q2⟩:=q2;rw[ag rfl];refine wpAny_passesOwn hp (a8 (hb pi s2 σ1 H2 _ I2 q2) fun f s3 q3=>?_);cases f with
  | next=>
   obtain⟨kQ,H3,I3,n3⟩:=q3;obtain⟨ae,hm,w3⟩:=hN kQ H3 n3;exact⟨ae,hm,kQ,H3,I3,w3⟩
  | cont=>
   obtain⟨kQ,H3,I3,n3⟩:=q3;obtain⟨ae,hm,w3⟩:=hN kQ H3 n3;exact⟨ae,hm,kQ,H3,I3,w3⟩
  | brk=>exact q3
  | ret v=>exact q3
 | false=>
  rw[ai dE];exact wpAny_execs_nil ⟨σ1,H2,I2,q2⟩
structure It where
 go:Nat→Hp→Prop
 yB:Nat→Hp→V→Hp→Prop
 stop:Nat→Hp→Prop
def RB(X:Cx)(pi:List (Addr×Obj))(H:Hp)(b:Addr):Prop:=
 H b=none∧b≠X.env.locals∧b∉X.fs∧(b∈X.ex∨X.b7.heap.objs.size≤b)∧(∀x c,X.env.cells.lookup x=some c→c≠b)∧∀p∈X.pn++pi,p.1≠b
theorem Inv.pq{b:Addr}(I:Inv X pi σ H s)(hb:s.heap.objs.size≤b)(hn:aa b=none):RB X pi aa b:=by
 refine⟨hn,i7 (g6 I.lt hb),I.Vs hb,.inr (eR I.sz hb),fun x c e z=>?_,fun p hp z=>?_⟩
 ·obtain⟨v,q⟩:=I.cell x c e
  exact absurd (g6 q.lt (by rw[z];exact hb)) (gp _)
 ·exact absurd (g6 (bg (I.pin p hp).1) (by rw[z];exact hb)) (gp _)
structure Turn(P:Program)(w:World)(K:p4)(tg:Expr)(J:It)(fp:List Addr)(it:Addr)(tn:Nat→Heap→Prop):Prop where
 mem:it∈fp
 obj:∀i h,tn i h→∀b∈fp,∃o,h.get? b=some o∧∀v,o.data≠.cell v
 keep:∀i h h',tn i h→(∀b∈fp,∀o,h.get? b=some o→h'.get? b=some o)→tn i h'
 item:∀(X:Cx),X.prog=P→X.w=w→X.K=K→X.calm=true→∀(i:Nat) (pi:List (Addr×Obj)) (s:Shared) (σ:St) (H:Hp) (E:Value→Shared→Prop),Inv X pi σ H s→(∀b∈fp,RB X pi H b)→tn i s.heap→J.go i H→
  wpAny (model P w) X.A (pyNext (.ref it)) (fun r s1=>∃u,r=some u∧
   wpAny (model P w) X.A (letOwnedTupleGo tg (.ref it) u) (fun _ s2=>∃x aa,Inv X pi σ aa s2∧RelV x u∧J.yB i H x aa∧tn (i+1) s2.heap∧∀b∈fp,aa b=none) E s1) E s
 done:∀(X:Cx),X.prog=P→X.w=w→X.K=K→X.calm=true→∀(i:Nat) (pi:List (Addr×Obj)) (s:Shared) (σ:St) (H:Hp) (E:Value→Shared→Prop),Inv X pi σ H s→(∀b∈fp,RB X pi H b)→tn i s.heap→J.stop i H→
  wpAny (model P w) X.A (pyNext (.ref it)) (fun r s1=>r=none∧Inv X pi σ H s1) E s
 self:∀(A:Around) (i:Nat) (s:Shared) (Q:Value→Shared→Prop) (E:Value→Shared→Prop),tn i s.heap→Q (.ref it) s→wpAny (model P w) A (pyIter (.ref it)) Q E s
noncomputable abbrev TI:=St→Hp→(It→Hp→Prop)→Prop
def GH(X:Cx)(pi:List (Addr×Obj))(σ:St)(tg:Expr)(R:It→Hp→Prop)(AH:Value)(s2:Shared):Prop:=
 ∃(it:Addr) (fp:List Addr) (tn:Nat→Heap→Prop) (J:It) (aa:Hp),AH=.ref it∧Inv X pi σ aa s2∧Turn X.prog X.w X.K tg J fp it tn∧tn 0 s2.heap∧(∀b∈fp,RB X pi aa b)∧R J aa
def PI(X:Cx)(tg iter:Expr)(wi:TI):Prop:=
 ∀(pi:List (Addr×Obj)) (s:Shared) (σ:St) (H:Hp) (R:It→Hp→Prop),Inv X pi σ H s→wi σ H R→
  wpAny (model X.prog X.w) X.A (eval iter X.env) (fun v s1=>wpAny (model X.prog X.w) X.A (pyIter v) (GH X pi σ tg R) X.xe s1) X.xe s
theorem Bg{M : Model}{E : Value → Shared → Prop}{o : Obj}{n : String}{vs : Array Value}{Q : Unit → Shared → Prop}(ho : s.heap.get? it = some o)(hc : o.cls = .type n)(hd : o.data = .fields vs)(hn : ["enumerate", "zip", "dict_itemiterator", "dict_reverseitemiterator", "odict_iterator", "itertools.zip_longest", "itertools.pairwise"].contains n = false)(hQ : Q () s) : wpAny M A (letOwnedTupleGo tg (.ref it) u) Q E s := by
  unfold letOwnedTupleGo;cases tg <;> first
    | exact ah hQ
    | (cases u <;> first
        | exact ah hQ
        | (refine ab (wpAny_load ho ?_)
           rw [hc, hd];show wpAny M A (if (["enumerate", "zip", "dict_itemiterator", "dict_reverseitemiterator", "odict_iterator", "itertools.zip_longest", "itertools.pairwise"].contains n && vs[0]? == some (rawInt _)) = true then _ else _) Q E s;rw [ai (by intro h; rw [hn, Bool.false_and] at h; cases h)];exact ah hQ))
noncomputable def BQ(K:p4)(a:Addr):It:=
 ⟨fun i H=>∃xs x,c6 K H a xs∧xs[i]?=some x,fun i H x aa=>aa=H∧∀xs,c6 K H a xs→xs[i]?=some x,fun i H=>∃xs,c6 K H a xs∧xs.length≤i⟩
noncomputable def zh(K:p4)(a:Addr):It:=
 ⟨fun i H=>∃xs x,dv K H a xs∧xs[i]?=some x,fun i H x aa=>aa=H∧∀xs,dv K H a xs→xs[i]?=some x,fun i H=>∃xs,dv K H a xs∧xs.length≤i⟩
noncomputable def BS(lo:Int)(n:Nat):It:=⟨fun i _=>i<n,fun i H x aa=>aa=H∧x=.int (lo+i),fun i _=>n≤i⟩
theorem uD(a it:Addr):Turn P w K tg (BQ K a) [it] it (fun i h=>h.IsListIter it a i) where
 mem:=by simp
 obj:=fun i h st b hb=>by
  have e:b=it:=by simpa using hb
  subst e;obtain⟨o,e,c,d⟩:=st;exact⟨o,e,fun v z=>by rw[d]at z;cases z⟩
 keep:=fun i h h' st k=>st.at fun o e=>k it (by simp) o e
 item:=by
  intro X hP hw hK hc i pi s σ H E I hf st hg;subst hP hw hK;obtain⟨xs,x,hq,hx⟩:=hg;obtain⟨its,rv,p,hz⟩:=I.list hq;obtain⟨u,hu,ru⟩:=rv.get hx;obtain⟨f0,f1,f2,f3,f4,f5⟩:=hf it (by simp);refine wpAny_pyNext_list_item st p.isList (x:=u) (by simpa using hu) fun h' gy sb=>?_
  have I1:Inv X pi σ H { s with heap:=h' }:=I.turned (t':=s.toks) (fun b o hb e=>(sb.2 b hb).trans e) f0 f1 f3 f4 f5;obtain⟨o,e,c,d⟩:=id gy;exact⟨u,rfl,Bg (s:={ s with heap:=h' }) e c d (by decide) ⟨x,H,I1,ru,⟨rfl,fun ys hy=>by rw[I.Je hy hq];exact hx⟩,gy,fun b hb=>(hf b hb).1⟩⟩
 done:=by
  intro X hP hw hK hc i pi s σ H E I hf st hg;subst hP hw hK;obtain⟨xs,hq,hx⟩:=hg;obtain⟨its,rv,p,hz⟩:=I.list hq;obtain⟨f0,f1,f2,f3,f4,f5⟩:=hf it (by simp);have hl:=rv.length;exact wpAny_pyNext_list_end (I.ok.hd hc) st p.isList (by simp;lia) fun h' eb=>⟨rfl,I.turned (t':=s.toks) (fun b o hb e=>eb b o hb e) f0 f1 f3 f4 f5⟩
 self:=fun _ _ _ _ _ st h=>wpAny_pyIter_listiter st h
theorem GW(a it:Addr):Turn P w K tg (zh K a) [it] it (fun i h=>h.IsTupleIter it a i) where
 mem:=by simp
 obj:=fun i h st b hb=>by
  have e:b=it:=by simpa using hb
  subst e;obtain⟨o,e,c,d⟩:=st;exact⟨o,e,fun v z=>by rw[d]at z;cases z⟩
 keep:=fun i h h' st k=>st.at fun o e=>k it (by simp) o e
 item:=by
  intro X hP hw hK hc i pi s σ H E I hf st hg;subst hP hw hK;obtain⟨xs,x,hq,hx⟩:=hg;obtain⟨its,rv,p,hz⟩:=I.tuple hq;obtain⟨u,hu,ru⟩:=rv.get hx;obtain⟨f0,f1,f2,f3,f4,f5⟩:=hf it (by simp);refine wpAny_pyNext_tuple_item st (show s.heap.IsTuple a its.toArray from p) (x:=u) (by simpa using hu) fun h' gy sb=>?_
  have I1:Inv X pi σ H { s with heap:=h' }:=I.turned (t':=s.toks) (fun b o hb e=>(sb.2 b hb).trans e) f0 f1 f3 f4 f5;obtain⟨o,e,c,d⟩:=id gy;exact⟨u,rfl,Bg (s:={ s with heap:=h' }) e c d (by decide) ⟨x,H,I1,ru,⟨rfl,fun ys hy=>by rw[I.Kk hy hq];exact hx⟩,gy,fun b hb=>(hf b hb).1⟩⟩
 done:=by
  intro X hP hw hK hc i pi s σ H E I hf st hg;subst hP hw hK;obtain⟨xs,hq,hx⟩:=hg;obtain⟨its,rv,p,hz⟩:=I.tuple hq;obtain⟨f0,f1,f2,f3,f4,f5⟩:=hf it (by simp);have hl:=rv.length;exact wpAny_pyNext_tuple_end (I.ok.hd hc) st (show s.heap.IsTuple a its.toArray from p) (by simp;lia) fun h' eb=>⟨rfl,I.turned (t':=s.toks) (fun b o hb e=>eb b o hb e) f0 f1 f3 f4 f5⟩
 self:=fun _ _ _ _ _ st h=>wpAny_pyIter_tupleiter st h
theorem nQ(it:Addr)(lo:Int)(n:Nat):Turn P w K tg (BS lo n) [it] it (fun i h=>IsRangeIter h it (lo+(i:Nat)*1) ((n:Int)-(i:Nat)) 1) where
 mem:=by simp
 obj:=fun i h st b hb=>by
  have e:b=it:=by simpa using hb
  subst e;exact⟨_,st,fun v z=>by
   have cp:Data.fields _=Data.cell v:=z;cases cp⟩
 keep:=fun i h h' st k=>k it (by simp) _ st
 item:=by
  intro X hP hw hK hc i pi s σ H E I hf st hg;subst hP hw hK;obtain⟨f0,f1,f2,f3,f4,f5⟩:=hf it (by simp);have W:=Walks.range (prog:=X.prog) (w:=X.w) (I.ok.hd hc) it lo 1 n;refine W.item i s _ _ hg st fun v h' tk hv gy kk=>?_
  obtain⟨t,rfl⟩:=hv;have I1:Inv X pi σ H { s with heap:=h',toks:=tk }:=I.turned (fun b o hb e=>kk b o (by simpa using hb) e) f0 f1 f3 f4 f5;refine⟨_,rfl,Bg (s:={ s with heap:=h',toks:=tk }) (n:="range_iterator") gy rfl rfl (by decide) ⟨.int (lo+i),H,I1,⟨t,?_⟩,⟨rfl,rfl⟩,gy,fun b hb=>(hf b hb).1⟩⟩;rw[Int.mul_one]
 done:=by
  intro X hP hw hK hc i pi s σ H E I hf st hg;subst hP hw hK;obtain⟨f0,f1,f2,f3,f4,f5⟩:=hf it (by simp);exact wpAny_pyNext_range_end (I.ok.hd hc) st (by have:n≤i:=hg;lia) fun h' eb=>⟨rfl,I.turned (t':=s.toks) (fun b o hb e=>eb b o hb e) f0 f1 f3 f4 f5⟩
 self:=fun _ _ _ _ _ st h=>wpAny_pyIter_rangeiter st h
end L2
variable{wi:L2.TI}
namespace L2
open PySem PySem.Spec PyProof.Rows
noncomputable def Gq(K:p4)(tl:TE):TI:=fun σ H R=>tl σ H fun x H1=>∃a,x=.ref a∧(∃xs,dv K H1 a xs)∧R (zh K a) H1
theorem OF{l:Expr}{tl:TE}(hl:PE X l tl):PI X tg l (Gq X.K tl):=by
 intro pi s σ H R I h;refine a8 (hl pi s σ H _ I h) fun v s1 af=>?_
 obtain⟨x,H1,I1,r1,q1⟩:=af;obtain⟨a,e,⟨xs,hq⟩,q⟩:=q1;subst e;cases r1;obtain⟨its,rv,p,hz⟩:=I1.tuple hq;refine wpAny_pyIter_tuple (show s1.heap.IsTuple a its.toArray from p) ?_;refine⟨s1.heap.objs.size,[s1.heap.objs.size],_,_,H1,rfl,I1.kept (t':=s1.toks) fun b o e=>cz _ e,GW a _,⟨_,c8 _ rfl,rfl,rfl⟩,fun b hb=>?_,q⟩;have e:b=s1.heap.objs.size:=by simpa using hb
 subst e;exact I1.pq (aT _) (I1.az.fresh (aT _))
theorem yR{R:It→Hp→Prop}{lo hi:Int}{t u v:Tok}{tk:Nat}(I:Inv X pi σ H s)(h1:-(2 ^ 62)≤lo)(h2:lo<2 ^ 62)(h3:-(2 ^ 62)≤hi)(h4:hi<2 ^ 62)(q:R (BS lo (hi-lo).toNat) H):wpAny (model X.prog X.w) X.A (pyIter (.ref s.heap.objs.size)) (GH X pi σ tg R) E { s with heap:=s.heap.push { cls:=.type "range",data:=.fields #[.int lo t,.int hi u,.int 1 v] },toks:=tk }:=by
 refine wpAny_pyIter_range (IsRange.new ..) (small_one h1 h2 h3 h4) ?_;have I1:Inv X pi σ H { s with heap:=s.heap.push { cls:=.type "range",data:=.fields #[.int lo t,.int hi u,.int 1 v] },toks:=tk }:=I.kept fun b o e=>cz _ e
 refine⟨(s.heap.push { cls:=.type "range",data:=.fields #[.int lo t,.int hi u,.int 1 v] }).objs.size,[(s.heap.push { cls:=.type "range",data:=.fields #[.int lo t,.int hi u,.int 1 v] }).objs.size],_,_,H,rfl,
  I1.kept (t':=tk) fun b o e=>cz _ e,nQ _ lo (hi-lo).toNat,?_,fun b hb=>?_,q⟩
 ·have e1:lo+((0:Nat):Int)*1=lo:=by simp
  have e2:(((hi-lo).toNat:Nat):Int)-((0:Nat):Int)=Builtin.Range.rangeSize lo hi 1:=by rw[rangeSize_one];split<;>lia
  show IsRangeIter _ _ (lo+((0:Nat):Int)*1) ((((hi-lo).toNat:Nat):Int)-((0:Nat):Int)) 1;rw[e1,e2];exact c8 _ rfl
 ·have e:b=(s.heap.push { cls:=.type "range",data:=.fields #[.int lo t,.int hi u,.int 1 v] }).objs.size:=by simpa using hb
  subst e;exact I1.pq (aT _) (I1.az.fresh (aT _))
noncomputable def Qk(ta:TA):TI:=fun σ H R=>ta σ H fun vs H1=>∃j:Int,vs=[.int j]∧-(2 ^ 62)≤j∧j<2 ^ 62∧R (BS 0 j.toNat) H1
theorem uQ{a:Expr}{ta:TA}(hg:Gl X "range")(hm:X.mg "range" = none)(ha:PA X [a] ta)(hs:starEach [a] X.env=[(false,eval a X.env)]:=by rfl):PI X tg (.Call (.Name "range" p) [a] [] pos) (Qk ta):=by
 intro pi s σ H R I h;refine Call_ (M9 I hg hm boot_range (PyProof.Rows.callWith_type1 (a8 (ha pos pi s σ H _ I h) fun us s1 af=>?_) hs rfl));obtain⟨vs,H1,I1,r1,q1⟩:=af;obtain⟨j,e,q1,q2,q⟩:=q1;subst e;cases r1 with
 | cons r rr=>
  cases rr;obtain⟨t,rfl⟩:=r;exact call_range_1 (yR I1 (by lia) (by lia) q1 q2 (by simpa using q))
noncomputable def Ge(wi:TI)(g:TG)(tb:TS):TS:=fun D σ H=>wi σ H fun J H1=>∃W:Nat→Nat→St→Hp→Prop,(∃m,W 0 m σ H1)∧∀i m σ H,W i m σ H→
 (J.stop i H∧D.nx σ H)∨(J.go i H∧∃N:St→Hp→Prop,(∀σ' aa,N σ' aa→∃ae,ae<m∧W (i+1) ae σ' aa)∧∀x aa,J.yB i H x aa→g x σ aa fun hX H2=>tb { D with nx:=N,ct:=N,bk:=D.nx } hX H2)
noncomputable def aF(fp:List Addr)(h:Heap):List (Addr×Obj):=fp.filterMap fun b=>(h.get? b).map fun o=>(b,o)
theorem QM{b:Addr}{o:Obj}(hb:b∈fp)(e:h.get? b=some o):(b,o)∈aF fp h:=List.mem_filterMap.mpr ⟨b,hb,by rw[e];rfl⟩
theorem v8{p:Addr×Obj}(hp:p∈aF fp h):p.1∈fp∧h.get? p.1=some p.2:=by
 obtain⟨b,hb,e⟩:=List.mem_filterMap.mp hp;cases q:h.get? b with
 | none=>rw[q]at e;cases e
 | some o=>
  rw[q]at e;have aI:(b,o)=p:=cE e;subst aI;exact⟨hb,q⟩
theorem Inv.pinned(I:Inv X pi σ H s)(hf:∀b∈fp,RB X pi H b)(ho:∀b∈fp,∃o,s.heap.get? b=some o∧∀v,o.data≠.cell v):Inv X (pi++aF fp s.heap) σ H s:=
 I.Jy fun p hp=>(de hp).elim (fun z=>I.pin p (eQ _ z)) fun z=>by
  obtain⟨hb,e⟩:=v8 z;obtain⟨f0,f1,f2,_⟩:=hf p.1 hb;obtain⟨o,aI,d⟩:=ho p.1 hb;rw[e]at aI;cases aI;exact⟨e,f0,f1,f2,d⟩
theorem Inv.Bb{pl:List (Addr×Obj)}(I:Inv X (pi++pl) σ H s):Inv X pi σ H s:=I.Jy fun p hp=>I.pin p (eQ _ (eP _ hp))
theorem zJ{g:TG}{tb:TS}(hp:PassesOwn (model X.prog X.w) X.A X.env X.xe)(hc:X.calm=true)(hi:PI X tg iter wi)(hg:PG X tg g)(hb:eC X body tb)(hs:∀x,foldedSetIterable iter X.env x=pure x:=by intro _;rfl):PS X (.For tg iter body [] pos) (Ge wi g tb):=by
 intro pi s σ H D I h;refine wpAny_For (a8 (hi pi s σ H _ I h) fun v s1 h1=>a8 h1 fun AH s2 h2=>?_) hs;obtain⟨it,fp,tn,J,H2,e,I2,T,st2,f2,W,⟨m0,w0⟩,turn⟩:=h2;subst e;have t7:∀{aa:Hp},(∀b∈fp,aa b=none)→∀b∈fp,RB X pi aa b:=fun hn b hb=>⟨hn b hb,(f2 b hb).2⟩
 refine codeAny_forLoop_any (fun n s'=>∃i σ' aa,Inv X pi σ' aa s'∧tn i s'.heap∧(∀b∈fp,aa b=none)∧W i n σ' aa) ?_ m0 ⟨0,σ,H2,I2,st2,fun b hb=>(f2 b hb).1,w0⟩;rintro n s3 ⟨i,kQ,H3,I3,AY,HI,w3⟩;rcases turn i n kQ H3 w3 with ⟨stop,qn⟩ | ⟨go,N,hN,step⟩
 ·refine wpAny_passesOwn hp (a8 (T.done X rfl rfl rfl hc i pi s3 kQ H3 X.xe I3 (t7 HI) AY stop) fun r s4 af=>?_)
  obtain⟨hr,I4⟩:=af;subst hr;exact wpAny_execs_nil ⟨kQ,H3,I4,qn⟩
 ·refine wpAny_passesOwn hp (a8 (T.item X rfl rfl rfl hc i pi s3 kQ H3 X.xe I3 (t7 HI) AY go) fun r s4 af=>?_)
  obtain⟨u,hr,h4⟩:=af;subst hr;refine wpAny_passesOwn hp (a8 h4 fun _ s5 af=>?_);obtain⟨x,H5,I5,r5,y5,vq,zD⟩:=af;have Rf:=I5.pinned (t7 zD) (T.obj _ _ vq);refine wpAny_passesOwn hp (a8 (hg _ s5 kQ H5 x u _ Rf r5 (step x H5 y5)) fun _ s6 af=>?_);obtain⟨WZ,H6,I6,q6⟩:=af;refine wpAny_passesOwn hp (a8 (hb _ s6 WZ H6 _ I6 q6) fun f s7 q7=>?_);have again:∀{nh:St} {H7:Hp},Inv X (pi++aF fp s5.heap) nh H7 s7→N nh H7→∃m,m<n∧∃i σ' aa,Inv X pi σ' aa s7∧tn i s7.heap∧(∀b∈fp,aa b=none)∧W i m σ' aa:=fun {nh H7} I7 n7=>by
   obtain⟨ae,hm,w7⟩:=hN nh H7 n7;refine⟨ae,hm,i+1,nh,H7,I7.Bb,T.keep _ _ _ vq fun b hb o e=>(I7.pin (b,o) (eQ _ (eQ _ (QM hb e)))).1,fun b hb=>?_,w7⟩;obtain⟨o,e,d⟩:=T.obj _ _ vq b hb;exact(I7.pin (b,o) (eQ _ (eQ _ (QM hb e)))).2.1
  cases f with
  | next=>obtain⟨nh,H7,I7,n7⟩:=q7;exact again I7 n7
  | cont=>obtain⟨nh,H7,I7,n7⟩:=q7;exact again I7 n7
  | brk=>obtain⟨nh,H7,I7,q7⟩:=q7;exact⟨nh,H7,I7.Bb,q7⟩
  | ret v=>obtain⟨x7,nh,H7,I7,r7,q7⟩:=q7;exact⟨x7,nh,H7,I7.Bb,r7,q7⟩
end L2
namespace L2
open PySem PySem.Spec PyProof.Rows
noncomputable abbrev R2:=V→V→Hp→VK→Prop
def d5(X:Cx)(f:Value→Value→Sem Value)(r:R2):Prop:=
 ∀(pi:List (Addr×Obj)) (s:Shared) (σ:St) (H:Hp) (x y:V) (v u:Value) (Q:VK),Inv X pi σ H s→RelV x v→RelV y u→r x y H Q→
  wpAny (model X.prog X.w) X.A (f v u) (EP X pi σ Q) X.xe s
def gb(X:Cx)(f:Value)(r:List V→Hp→VK→Prop):Prop:=
 ∀(pi:List (Addr×Obj)) (s:Shared) (σ:St) (H:Hp) (xs:List V) (us:List Value) (Q:VK),Inv X pi σ H s→Vals xs us→r xs H Q→
  wpAny (model X.prog X.w) X.A (call f us) (EP X pi σ Q) X.xe s
def Q2(X:Cx)(r:V→Hp→(Bool→Hp→Prop)→Prop):Prop:=
 ∀(pi:List (Addr×Obj)) (s:Shared) (σ:St) (H:Hp) (x:V) (v:Value) (Q:Bool→Hp→Prop),Inv X pi σ H s→RelV x v→r x H Q→
  wpAny (model X.prog X.w) X.A (truthy v) (TP X pi σ Q) X.xe s
noncomputable def vt(r:R2)(ta tb:TE):TE:=fun σ H Q=>ta σ H fun x H1=>tb σ H1 fun y H2=>r x y H2 Q
noncomputable def rI(C:Int→Int→Prop)(g:Int→Int→V):R2:=fun x y H Q=>∃i j,x=.int i∧y=.int j∧C i j∧Q (g i j) H
noncomputable def lg(g:Int→Int→V):R2:=fun x y H Q=>∃i j,x=.int i∧y=.int j∧Q (g i j) H
section
variable{a:Expr}{tc:TE}
theorem BA(ha:PE X a ta)(hb:PE X b tb){R:V→V→Hp→Prop}(I:Inv X pi σ H s)(h:ta σ H fun x H1=>tb σ H1 fun y H2=>R x y H2){f:Value→Value→Sem Value}(hf:∀v u s2 x y H2,Inv X pi σ H2 s2→RelV x v→RelV y u→R x y H2→wpAny (model X.prog X.w) X.A (f v u) Q X.xe s2) :
  wpAny (model X.prog X.w) X.A (eval a X.env) (fun v bc=>wpAny (model X.prog X.w) X.A (eval b X.env) (fun u cx=>wpAny (model X.prog X.w) X.A (f v u) Q X.xe cx) X.xe bc) X.xe s:=by
 refine a8 (ha pi s σ H _ I h) fun v s1 af=>?_
 obtain⟨x,H1,I1,r1,q1⟩:=af;refine a8 (hb pi s1 σ H1 _ I1 q1) fun u s2 af=>?_
 obtain⟨y,H2,I2,r2,q2⟩:=af;exact hf v u s2 x y H2 I2 r1 r2 q2
theorem kI{op:Operator}{r:R2}(ho:d5 X (binaryOp op) r)(ha:PE X a ta)(hb:PE X b tb):PE X (.BinOp a op b pos) (vt r ta tb):=by
 intro pi s σ H Q I h;exact wpAny_BinOp (BA ha hb I h fun v u s2 x y H2 I2 rx ry q=>ho pi s2 σ H2 x y v u Q I2 rx ry q)
theorem Jw{f:Value→Value→Sem Value}{C:Int→Int→Prop}{g:Int→Int→Int}(rule:∀(i j:Int) (t u:Tok) (s:Shared) (Q:Value→Shared→Prop) (E:Value→Shared→Prop),C i j→Q (.int (g i j) s.toks) { s with toks:=s.toks+1 }→wpAny (model X.prog X.w) X.A (f (.int i t) (.int j u)) Q E s) :
  d5 X f (rI C fun i j=>.int (g i j)):=by
 intro pi s σ H x y v u Q I rx ry h;obtain⟨i,j,rfl,rfl,hc,q⟩:=h;obtain⟨t,rfl⟩:=rx;obtain⟨t',rfl⟩:=ry;exact rule i j t t' s _ _ hc ⟨.int (g i j),H,I.tok _,⟨_,rfl⟩,q⟩
theorem Gk{f:Value→Value→Sem Value}{g:Int→Int→Int}(rule:∀(i j:Int) (t u:Tok) (s:Shared) (Q:Value→Shared→Prop) (E:Value→Shared→Prop),Q (.int (g i j) s.toks) { s with toks:=s.toks+1 }→wpAny (model X.prog X.w) X.A (f (.int i t) (.int j u)) Q E s) :
  d5 X f (lg fun i j=>.int (g i j)):=by
 intro pi s σ H x y v u Q I rx ry h;obtain⟨i,j,rfl,rfl,q⟩:=h;obtain⟨t,rfl⟩:=rx;obtain⟨t',rfl⟩:=ry;exact rule i j t t' s _ _ ⟨.int (g i j),H,I.tok _,⟨_,rfl⟩,q⟩
theorem y1{f:Value→Value→Sem Value}{g:Int→Int→Bool}(rule:∀(i j:Int) (t u:Tok) (s:Shared) (Q:Value→Shared→Prop) (E:Value→Shared→Prop),Q (.bool (g i j)) s→wpAny (model X.prog X.w) X.A (f (.int i t) (.int j u)) Q E s) :
  d5 X f (lg fun i j=>.bl (g i j)):=by
 intro pi s σ H x y v u Q I rx ry h;obtain⟨i,j,rfl,rfl,q⟩:=h;obtain⟨t,rfl⟩:=rx;obtain⟨t',rfl⟩:=ry;exact rule i j t t' s _ _ ⟨.bl (g i j),H,I,rfl,q⟩
def ze(i j:Int):Prop:=(-(2 ^ 64)<i∧i<2 ^ 64)∨(-(2 ^ 64)<j∧j<2 ^ 64)
theorem ze.ok{i j:Int}(h:ze i j):IntMulOk i j:=by
 rcases h with ⟨h1,h2⟩ | ⟨h1,h2⟩
 ·exact .of_left (intBits_le_64 h1 h2)
 ·exact .of_right (intBits_le_64 h1 h2)
theorem Vz:d5 X (binaryOp .Add) (lg fun i j=>.int (i+j)):=Gk fun _ _ _ _ _ _ _ q=>add_int q
theorem ON:d5 X (binaryOp .Sub) (lg fun i j=>.int (i-j)):=Gk fun _ _ _ _ _ _ _ q=>sub_int q
theorem OO:d5 X (binaryOp .Mult) (rI ze fun i j=>.int (i*j)):=Jw fun _ _ _ _ _ _ _ hc q=>mul_int q hc.ok
theorem OP:d5 X (binaryOp .Mod) (rI (fun _ j=>0<j) fun i j=>.int (i % j)):=Jw fun i j _ _ _ _ _ hc q=>by
 have h1:(0:Int)<j:=hc;exact mod_int' (by lia) (by rw[Int.fmod_eq_emod_of_nonneg i (by lia)];exact q)
end
noncomputable def Gf:V→V→Bool
 | .ao,.ao=>true | .ao,.int _=>true | .int _,.ao=>true | .ao,.bl _=>true | .bl _,.ao=>true | .ao,.str _=>true | .str _,.ao=>true
 | .int _,.int _=>true | .bl _,.bl _=>true | .str _,.str _=>true | .jd _,.jd _=>true
 | .int _,.str _=>true | .str _,.int _=>true | .bl _,.str _=>true | .str _,.bl _=>true
 | _,_=>false
noncomputable def VX:R2:=fun x y H Q=>Gf x y=true∧Q (.bl (decide (x=y))) H
noncomputable def VY:R2:=fun x y H Q=>Gf x y=true∧Q (.bl (!decide (x=y))) H
theorem rY{i j:Int}:decide (V.int i=V.int j)=(i==j):=by
 rw[Bool.eq_iff_iff];simp
theorem Fg{i j:Bool}:decide (V.bl i=V.bl j)=(i==j):=by
 rw[Bool.eq_iff_iff];simp
theorem rW{i j:Str}:decide (V.str i=V.str j)=(i==j):=by
 rw[Bool.eq_iff_iff];simp
theorem rZ{i j:Array UInt8}:decide (V.jd i=V.jd j)=(i.toList==j.toList):=by
 rw[Bool.eq_iff_iff];cases i;cases j;simp
section
variable{a:Expr}{tc:TE}
theorem G6{Q:VK}{k vg:Bool}(I:Inv X pi σ H s)(q:Q (.bl k) H)(e:k=vg):EP X pi σ Q (.bool vg) s:=by
 subst e;exact⟨.bl k,H,I,rfl,q⟩
theorem VC:d5 X (compareOp .Eq) VX:=by
 intro pi s σ H x y v u Q I rx ry h;obtain⟨hs,q⟩:=h;cases x with
 | ao=>
  cases rx;cases y with
  | ao=>cases ry;exact PySem.EqNone.eq_none_none (G6 I q (by simp))
  | bl j=>cases ry;exact PySem.EqNone.eq_none_bool (G6 I q (by simp))
  | int j=>obtain⟨t',rfl⟩:=ry;exact PySem.EqNone.eq_none_int (G6 I q (by simp))
  | str j=>obtain⟨t',rfl⟩:=ry;exact PySem.EqNone.eq_none_str (G6 I q (by simp))
  | _=>exact absurd (show false=true from hs) dE
 | bl i=>
  cases rx;cases y with
  | ao=>cases ry;exact PySem.EqNone.eq_bool_none (G6 I q (by simp))
  | bl j=>cases ry;exact eq_bool (G6 I q Fg)
  | str j=>obtain⟨t',rfl⟩:=ry;exact PySem.EqMixed.eq_bool_str (G6 I q (by simp))
  | _=>exact absurd (show false=true from hs) dE
 | int i=>
  obtain⟨t,rfl⟩:=rx;cases y with
  | ao=>cases ry;exact PySem.EqNone.eq_int_none (G6 I q (by simp))
  | int j=>obtain⟨t',rfl⟩:=ry;exact eq_int (G6 I q rY)
  | str j=>obtain⟨t',rfl⟩:=ry;exact PySem.EqMixed.eq_int_str (G6 I q (by simp))
  | _=>exact absurd (show false=true from hs) dE
 | str i=>
  obtain⟨t,rfl⟩:=rx;cases y with
  | ao=>cases ry;exact PySem.EqNone.eq_str_none (G6 I q (by simp))
  | bl j=>cases ry;exact PySem.EqMixed.eq_str_bool (G6 I q (by simp))
  | int j=>obtain⟨t',rfl⟩:=ry;exact PySem.EqMixed.eq_str_int (G6 I q (by simp))
  | str j=>obtain⟨t',rfl⟩:=ry;exact eq_str (G6 I q rW)
  | _=>exact absurd (show false=true from hs) dE
 | jd i=>
  obtain⟨t,rfl⟩:=rx;cases y with
  | jd j=>obtain⟨t',rfl⟩:=ry;exact PySem.W.eq_bytes (G6 I q rZ)
  | _=>exact absurd (show false=true from hs) dE
 | _=>cases y<;>exact absurd (show false=true from hs) dE
theorem VE:d5 X (compareOp .NotEq) VY:=by
 intro pi s σ H x y v u Q I rx ry h;obtain⟨hs,q⟩:=h;cases x with
 | ao=>
  cases rx;cases y with
  | ao=>cases ry;exact PySem.EqNone.ne_none_none (G6 I q (by simp))
  | bl j=>cases ry;exact PySem.EqNone.ne_none_bool (G6 I q (by simp))
  | int j=>obtain⟨t',rfl⟩:=ry;exact PySem.EqNone.ne_none_int (G6 I q (by simp))
  | str j=>obtain⟨t',rfl⟩:=ry;exact PySem.EqNone.ne_none_str (G6 I q (by simp))
  | _=>exact absurd (show false=true from hs) dE
 | bl i=>
  cases rx;cases y with
  | ao=>cases ry;exact PySem.EqNone.ne_bool_none (G6 I q (by simp))
  | bl j=>cases ry;exact ne_bool (G6 I q (congrArg not Fg))
  | str j=>obtain⟨t',rfl⟩:=ry;exact PySem.EqMixed.ne_bool_str (G6 I q (by simp))
  | _=>exact absurd (show false=true from hs) dE
 | int i=>
  obtain⟨t,rfl⟩:=rx;cases y with
  | ao=>cases ry;exact PySem.EqNone.ne_int_none (G6 I q (by simp))
  | int j=>obtain⟨t',rfl⟩:=ry;exact ne_int (G6 I q (congrArg not rY))
  | str j=>obtain⟨t',rfl⟩:=ry;exact PySem.EqMixed.ne_int_str (G6 I q (by simp))
  | _=>exact absurd (show false=true from hs) dE
 | str i=>
  obtain⟨t,rfl⟩:=rx;cases y with
  | ao=>cases ry;exact PySem.EqNone.ne_str_none (G6 I q (by simp))
  | bl j=>cases ry;exact PySem.EqMixed.ne_str_bool (G6 I q (by simp))
  | int j=>obtain⟨t',rfl⟩:=ry;exact PySem.EqMixed.ne_str_int (G6 I q (by simp))
  | str j=>obtain⟨t',rfl⟩:=ry;exact ne_str (G6 I q (congrArg not rW))
  | _=>exact absurd (show false=true from hs) dE
 | jd i=>
  obtain⟨t,rfl⟩:=rx;cases y with
  | jd j=>obtain⟨t',rfl⟩:=ry;exact PySem.W.ne_bytes (G6 I q (congrArg not rZ))
  | _=>exact absurd (show false=true from hs) dE
 | _=>cases y<;>exact absurd (show false=true from hs) dE
theorem Qb:d5 X (compareOp .Lt) (lg fun i j=>.bl (decide (i<j))):=y1 fun _ _ _ _ _ _ _ q=>lt_int q
theorem Qc:d5 X (compareOp .LtE) (lg fun i j=>.bl (decide (i≤j))):=y1 fun _ _ _ _ _ _ _ q=>le_int q
theorem Qd:d5 X (compareOp .Gt) (lg fun i j=>.bl (decide (j<i))):=y1 fun _ _ _ _ _ _ _ q=>gt_int q
theorem Qe:d5 X (compareOp .GtE) (lg fun i j=>.bl (decide (j≤i))):=y1 fun _ _ _ _ _ _ _ q=>ge_int q
theorem Mm:d5 X (compareOp .IsNot) (fun x y H Q=>y=.ao∧Q (.bl (!decide (x=.ao))) H):=by
 intro pi s σ H x y v u Q I rx ry h;obtain⟨rfl,q⟩:=h;cases ry;refine isnot_none_gen (G6 I q ?_);cases x<;>first
  | (cases rx;rfl)
  | (obtain⟨t,rfl⟩:=rx;rfl)
theorem d5.or{f:Value→Value→Sem Value}{r cn:R2}(h:d5 X f r)(h':d5 X f cn):d5 X f (fun x y H Q=>r x y H Q∨cn x y H Q):=by
 intro pi s σ H x y v u Q I rx ry q;rcases q with q | q
 ·exact h pi s σ H x y v u Q I rx ry q
 ·exact h' pi s σ H x y v u Q I rx ry q
theorem Mi{r:R2}(ho:d5 X (compareOp op) r)(ha:PE X a ta)(hb:PE X b tb)(hm:behindInMarks op b=false):PE X (.Compare a [op] [b] pos) (vt r ta tb):=by
 intro pi s σ H Q I h;exact wpAny_Compare1 (BA ha hb I h fun v u s2 x y H2 I2 rx ry q=>ho pi s2 σ H2 x y v u Q I2 rx ry q) hm
noncomputable def PM(t:TE):TT:=fun σ H Q=>t σ H fun x aa=>∃k,x=.bl k∧Q k aa
theorem L4{r:R2}(ho:d5 X (compareOp op) r)(ha:PE X a ta)(hb:PE X b tb)(hm:behindInMarks op b=false):PT X (.Compare a [op] [b] pos) (PM (vt r ta tb)):=by
 intro pi s σ H Q I h;refine wpAny_isTrue_Compare1 (a8 (ha pi s σ H _ I h) fun v s1 ⟨x,H1,I1,r1,q1⟩=>a8 (hb pi s1 σ H1 _ I1 q1) fun u s2 ⟨y,H2,I2,r2,q2⟩=>
  a8 (ho pi s2 σ H2 x y v u _ I2 r1 r2 q2) fun c s3 ⟨z,H3,I3,r3,k,e,q3⟩=>?_) hm
 subst e;cases r3;exact wpAny_truthy_bool ⟨H3,I3,q3⟩
def BC(K:p4)(x:V)(H:Hp)(k:Bool):Prop:=
 match x with
 | .ao=>k=false
 | .bl b=>k=b
 | .int i=>k=(i != 0)
 | .str y=>y.length≤sizeLine∧k=((y.length:Int) != 0)
 | .jd y=>y.size≤sizeLine∧k=((y.size:Int) != 0)
 | .ref p=>(∃xs,c6 K H p xs∧k=!xs.isEmpty)∨(∃xs,dv K H p xs∧k=!xs.isEmpty)∨∃kvs,H p=some (.dK kvs)∧k=!kvs.isEmpty
 | _=>False
theorem pA{cq:Type}{kvs:List (cq×V)}{vs:List (cq×Value)}(r:KV kvs vs):(!vs.isEmpty)=!kvs.isEmpty:=by
 cases r<;>rfl
theorem aV{xs:List V}(r:Vals xs its):(!its.toArray.isEmpty)=!xs.isEmpty:=by
 cases r<;>simp
theorem vj:(sizeLine:Nat)<2 ^ 63:=by rw[eI];decide
theorem NO:Q2 X (fun x H Q=>∃k,BC X.K x H k∧Q k H):=by
 intro pi s σ H x v Q I rx h;obtain⟨k,e,q⟩:=h;have hl:=vj;have hs:sizeLine=16777216:=eI;cases x with
 | ao=>
  cases rx;have aI:k=false:=e;subst aI;exact truthy_none ⟨H,I,q⟩
 | bl b=>
  cases rx;have aI:k=b:=e;subst aI;exact wpAny_truthy_bool ⟨H,I,q⟩
 | int i=>
  obtain⟨t,rfl⟩:=rx;have aI:k=(i != 0):=e;subst aI;exact PySem.P.truthy_int ⟨H,I,q⟩
 | str y=>
  obtain⟨t,rfl⟩:=rx;obtain⟨hy,aI⟩:y.length≤sizeLine∧k=((y.length:Int) != 0):=e;subst aI;exact PySem.P.truthy_str (by lia) ⟨H,I.tok _,q⟩
 | jd y=>
  obtain⟨t,rfl⟩:=rx;obtain⟨hy,aI⟩:y.size≤sizeLine∧k=((y.size:Int) != 0):=e;subst aI;exact PySem.W.truthy_bytes (by lia) ⟨H,I.tok _,q⟩
 | ref p=>
  cases rx;have aI:(∃xs,c6 X.K H p xs∧k=!xs.isEmpty)∨(∃xs,dv X.K H p xs∧k=!xs.isEmpty)∨∃kvs,H p=some (.dK kvs)∧k=!kvs.isEmpty:=e;rcases aI with ⟨xs,hx,aI⟩ | ⟨xs,hx,aI⟩ | ⟨kvs,hx,aI⟩
  ·subst aI
   obtain⟨its,r,pl,hz⟩:=I.list hx;have hlen:=r.length;exact wpAny_truthy_list pl.isList (by simp only[dr];lia) ⟨H,I.tok _,by rw[aV r];exact q⟩
  ·subst aI
   obtain⟨its,r,pl,hz⟩:=I.tuple hx;have hlen:=r.length;exact truthy_tuple pl (by simp only[dr];lia) ⟨H,I.tok _,by rw[aV r];exact q⟩
  ·subst aI
   obtain⟨hz,hS,vs,r,m⟩:kvs.length≤sizeLine∧(p==sysModules)=false∧∃vs,KV kvs vs∧s.heap.DictOf (CQ X.prog X.w) p vs:=I.az p _ hx;have hlen:kvs.length=vs.length:=Paired.length r;exact wpAny_truthy_dict hS m (by lia) ⟨H,I.tok _,by rw[pA r];exact q⟩
 | _=>exact(show False from e).elim
theorem zB(ha:PE X a ta)(he:∀whole,isTrue a X.env whole=(do let v ←whole;standAt a.pos;holding [v] (truthy v))):
  PT X a (fun σ H Q=>ta σ H fun x aa=>∃k,BC X.K x aa k∧Q k aa):=by
 intro pi s σ H Q I h;exact isTrue_plain (a8 (ha pi s σ H _ I h) fun v s1 ⟨x,H1,I1,r1,q1⟩=>NO pi s1 σ H1 x v Q I1 r1 q1) (he _)
theorem VA:d5 X (binaryOp .Add) (fun x y H Q=>∃i j,x=.str i∧y=.str j∧i.length+j.length≤sizeLine∧Q (.str (i++j)) H):=by
 intro pi s σ H x y v u Q I rx ry h;obtain⟨i,j,rfl,rfl,hz,q⟩:=h;obtain⟨t,rfl⟩:=rx;obtain⟨t',rfl⟩:=ry;exact add_str (fun t' tk=>⟨.str (i++j),H,I.tok _,⟨_,rfl⟩,q⟩) hz
theorem vals1{x:V}(r:Vals [x] us):∃u,us=[u]∧RelV x u:=by
 cases r with
 | cons r1 r2=>cases r2;exact⟨_,rfl,r1⟩
theorem vals2{x:V}(r:Vals [x,y] us):∃u gk,us=[u,gk]∧RelV x u∧RelV y gk:=by
 cases r with
 | cons r1 r2=>
  cases r2 with
  | cons r3 r4=>cases r4;exact⟨_,_,rfl,r1,r3⟩
theorem vY(hc:X.calm=true):gb X (.builtin "max") (fun xs H Q=>∃i j,xs=[.int i,.int j]∧Q (.int (if j > i then j else i)) H):=by
 intro pi s σ H xs us Q I r h;obtain⟨i,j,rfl,q⟩:=h;obtain⟨u,gk,rfl,⟨t,rfl⟩,⟨t',rfl⟩⟩:=vals2 r;refine max_two_ints (I.ok.hd hc) fun h' tk k=>⟨_,H,I.kept k,?_,q⟩
 by_cases hj:j > i
 ·rw[ag hj,ag hj];exact⟨_,rfl⟩
 ·rw[ai hj,ai hj];exact⟨_,rfl⟩
theorem w6:gb X (.type "int") (fun xs H Q=>(∃i,xs=[.int i]∧Q (.int i) H)∨∃k,xs=[.bl k]∧Q (.int (if k then 1 else 0)) H):=by
 intro pi s σ H xs us Q I r h;rcases h with ⟨i,rfl,q⟩ | ⟨k,rfl,q⟩
 ·obtain⟨u,rfl,t,rfl⟩:=vals1 r
  exact call_int_int ⟨.int i,H,I,⟨_,rfl⟩,q⟩
 ·obtain⟨u,rfl,r1⟩:=vals1 r
  cases r1;exact call_int_bool ⟨.int (if k then 1 else 0),H,I.tok _,⟨_,rfl⟩,q⟩
def Gw(K:p4)(x:V)(H:Hp)(n:Nat):Prop:=
 match x with
 | .str y=>y.length≤sizeLine∧n=y.length
 | .jd y=>y.size≤sizeLine∧n=y.size
 | .ref p=>(∃xs,c6 K H p xs∧n=xs.length)∨∃xs,dv K H p xs∧n=xs.length
 | _=>False
theorem Rr:gb X (.builtin "len") (fun xs H Q=>∃x n,xs=[x]∧Gw X.K x H n∧Q (.int n) H):=by
 intro pi s σ H xs us Q I r h;obtain⟨x,n,rfl,e,q⟩:=h;obtain⟨u,rfl,rx⟩:=vals1 r;have hl:=vj;have hs:sizeLine=16777216:=eI;cases x with
 | str y=>
  obtain⟨t,rfl⟩:=rx;obtain⟨hy,aI⟩:y.length≤sizeLine∧n=y.length:=e;subst aI;exact len_str (by lia) ⟨.int _,H,I.tok _,⟨_,rfl⟩,q⟩
 | jd y=>
  obtain⟨t,rfl⟩:=rx;obtain⟨hy,aI⟩:y.size≤sizeLine∧n=y.size:=e;subst aI;exact PySem.W.len_bytes (by lia) ⟨.int _,H,I.tok _,⟨_,rfl⟩,q⟩
 | ref p=>
  cases rx;have aI:(∃xs,c6 X.K H p xs∧n=xs.length)∨∃xs,dv X.K H p xs∧n=xs.length:=e;rcases aI with ⟨xs,hx,aI⟩ | ⟨xs,hx,aI⟩
  ·subst aI
   obtain⟨its,cn,pl,hz⟩:=I.list hx;have hlen:=cn.length;exact Calls.call_len_list pl.isList (by simp only[dr];lia) ⟨.int xs.length,H,I.tok _,⟨_,by simp only[dr];rw[hlen]⟩,q⟩
  ·subst aI
   obtain⟨its,cn,pl,hz⟩:=I.tuple hx;have hlen:=cn.length;exact len_tuple pl (by simp only[dr];lia) ⟨.int xs.length,H,I.tok _,⟨_,by simp only[dr];rw[hlen]⟩,q⟩
 | _=>exact(show False from e).elim
end
end L2
namespace L2
open PySem PySem.Spec PyProof.Rows
section
variable{x dx C:Addr}{mA:Str→Option Value}{v:Value}
end
theorem kS.some_of{v:V}{o:Option Value}(r:kS (some v) o):∃u,o=some u∧RelV v u:=by
 cases o with
 | none=>exact(show False from r).elim
 | some u=>exact⟨u,rfl,r⟩
section
variable{C dx:Addr}{fs RY:List (Str×V)}
end
section
variable{C dx:Addr}{fs:List (Str×V)}{f:Str}{v:V}
end
section
variable{value:Expr}{f:Str}{WN:Pos}{tv:TE}
end
section
variable{c:Value}{b:Bool}
end
end L2
namespace L2
open PySem PySem.Spec PyProof.Rows
structure gm(k:Nat)(A:Around):Prop where
 hd:A.handled=none
 dp:A.depth+3*k+5<recursionLimit
 un:A.units+16*k+200<cLine
theorem gm.deeper{k:Nat}{A:Around}(r:gm (k+1) A)(env:Env):gm k (A.deeper env):=
 ⟨r.hd,by have:=r.dp;show A.depth+1+3*k+5<_;lia,by have:=r.un;show A.units+3+16*k+200<_;lia⟩
theorem gm.depth{k:Nat}{A:Around}(r:gm k A):A.depth<recursionLimit:=by have:=r.dp;lia
theorem gm.units{k:Nat}{A:Around}(r:gm k A):A.units+64<cLine:=by have:=r.un;lia
noncomputable def xG:TA:=fun _ H Q=>Q [] H
noncomputable def xP(ta:TE)(tr:TA):TA:=fun σ H Q=>ta σ H fun x H1=>tr σ H1 fun xs H2=>Q (x::xs) H2
section
variable{es:List Expr}{t:TA}
theorem JM:PA X [] xG:=fun _ _ _ _ H Q I h=>sj ⟨[],H,I,.nil,h⟩
theorem J5(ha:PE X e te)(hr:PA X es t)(hs:starEach (e::es) X.env=(false,eval e X.env)::starEach es X.env:=by rfl):PA X (e::es) (xP te t):=by
 intro pos pi s σ H Q I h;rw[hs];show wpAny _ _ (spliced ((false,eval e X.env)::backTo pos (starEach es X.env))) _ _ s;refine qy (a8 (ha pi s σ H _ I h) fun u s1 af=>?_);obtain⟨x,H1,I1,r1,q1⟩:=af;exact a8 (hr pos pi s1 σ H1 _ I1 q1) fun us s2 ⟨xs,H2,I2,r2,q2⟩=>⟨x::xs,H2,I2,.cons r1 r2,q2⟩
noncomputable def Bt(t:TA):TE:=fun σ H Q=>t σ H fun xs H1=>xs.length≤sizeLine∧∀p,H1 p=none→Q (.ref p) (upd H1 p (.lst xs))
theorem zP(h:PA X es t):PE X (.List es pos) (Bt t):=by
 intro pi s σ H Q I hq;refine wpAny_List_spliced (a8 (h pos pi s σ H _ I hq) fun us s1 ⟨xs,H1,I1,r,z,q⟩=>⟨by rw[←r.length];exact z,?_⟩);have hf:H1 s1.heap.objs.size=none:=I1.az.fresh (aT _);refine⟨.ref s1.heap.objs.size,upd H1 s1.heap.objs.size (.lst xs),I1.laid (t':=s1.toks) (fun b u e=>cz _ e) (aT _) ?_,rfl,q _ hf⟩;exact⟨z,us,0,r,c8 _ rfl⟩
end
noncomputable abbrev Sp:=List V→Hp→VK→XK→Prop
noncomputable abbrev kR:=List Env→Hp→Shared→XK→Value→Shared→Prop
structure zc(P:Program)(w:World)(K:p4)(mg:Str→Option Value)(base:Heap)(A:Around)(outer:List Env)(s:Shared)(H:Hp):Prop where
 frames:A.frames=some outer
 mod:Mod K mg base
 bs:∀b o,base.get? b=some o→s.heap.get? b=some o∧H b=none
 qp:base.objs.size≤s.heap.objs.size
 l5:s.heap.FunFrames base outer
 uj:∀b∈lT outer,H b=none
 az:eg P w H s.heap
 bare:AllBare s.gens
def CE(outer:List Env)(P:Program)(w:World)(H:Hp)(s:Shared)(Q:VK)(u:Value)(s':Shared):Prop:=
 ∃v aa,s'.os=s.os∧AllBare s'.gens∧Un (lT outer) [] H aa s.heap s'.heap∧eg P w aa s'.heap∧RelV v u∧Q v aa
def CR(CX:kR)(outer:List Env)(P:Program)(w:World)(H:Hp)(s:Shared)(Q:VK)(E:XK)(r:Result)(s':Shared):Prop:=
 match r with
 | .ok (.ret u)=>CE outer P w H s Q u s'
 | .ok _=>False
 | .error e=>CX outer H s E e s'
structure iA(P:Program)(w:World)(K:p4)(mg:Str→Option Value)(base:Heap)(CX:kR)(k:Nat)(f:Addr)(fd:FuncData)(ps:List Str)(sp:Sp):Prop where
 len:∀vs H Q E,sp vs H Q E→vs.length=ps.length
 run:∀(A:Around) (outer:List Env) (s:Shared) (H:Hp) (args:Args) (us:List Value) (vs:List V) (Q:VK) (E:XK),gm k A→zc P w K mg base A outer s H→BindsTo s fd args (ps.zip us)→Vals vs us→sp vs H Q E→
  codeAny (model P w) A (.call (.ref f) args) (CR CX outer P w H s Q E) s
theorem iA.imp{CX:kR}{k:Nat}{ps:List Str}{sp Kd:Sp}(F:iA P w K mg base CX k f fd ps sp)(h:∀vs H Q E,Kd vs H Q E→sp vs H Q E):iA P w K mg base CX k f fd ps Kd:=
 ⟨fun vs H Q E q=>F.len vs H Q E (h _ _ _ _ q),fun A outer s H args us vs Q E hr he hb hv hs=>F.run A outer s H args us vs Q E hr he hb hv (h _ _ _ _ hs)⟩
section
variable{s':Shared}
theorem Inv.RC(I:Inv X pi σ H s):zc X.prog X.w X.K X.mg X.base X.A X.stack s H:=
 ⟨I.ok.frames,I.ok.mod,I.bs,eR I.ok.qp I.sz,I.stack,I.Ke,I.az,I.bare⟩
theorem Inv.after{Q:VK}(I:Inv X pi σ H s)(h:CE X.stack X.prog X.w H s Q u s'):EP X pi σ Q u s':=by
 obtain⟨v,aa,os,bare,un,az,r,q⟩:=h;obtain⟨hh,g,d,t,VM⟩:=s';obtain rfl:VM=s.os:=os;exact⟨v,aa,I.call (h':=hh) (g':=g) (d':=d) (t':=t) (ch:=[]) un az bare (fun b z=>absurd z (by simp)),r,q⟩
end
noncomputable def PY(sp:Sp)(qx:List V)(E:XK)(t:TA):TE:=fun σ H Q=>t σ H fun vs H1=>sp (vs++qx) H1 Q E
def Binds(K:p4)(fd:FuncData)(ps:List Str)(ds:List Value):Prop:=
 ∀(s:Shared) (us:List Value),K.In s.heap→(us++ds).length=ps.length→BindsTo s fd ⟨us,[]⟩ (ps.zip (us++ds))
theorem Binds.all{ps:List Str}(h:∀us:List Value,us.length=ps.length→bindArgs fd ⟨us,[]⟩=pure (ps.zip us)):Binds K fd ps []:=fun s us _ hl=>by
 rw[pw]at hl ⊢;exact .of_eq (h us hl)
def Passes(CX:kR)(X:Cx)(E:XK):Prop:=∀(pi:List (Addr×Obj)) (σ:St) (H:Hp) (s:Shared) (e:Value) (s':Shared),Inv X pi σ H s→CX X.stack H s E e s'→X.xe e s'
section
variable{CX:kR}{k:Nat}{C:Addr}{ps:List Str}{sp:Sp}{qx:List V}{ds:List Value}{E:XK}{m:Str}{es:List Expr}{t:TA}
theorem Oo{Q:VK}(F:iA X.prog X.w X.K X.mg X.base CX k f fd ps sp)(hr:gm k X.A)(hb:Binds X.K fd ps ds)(hd:Vals qx ds)(hx:Passes CX X E)(I:Inv X pi σ H s)(r:Vals vs us)(h:sp (vs++qx) H Q E):wpAny (model X.prog X.w) X.A (call (.ref f) us) (EP X pi σ Q) X.xe s:=by
 have r2:Vals (vs++qx) (us++ds):=r.append hd;have hl:(us++ds).length=ps.length:=by rw[←r2.length];exact F.len _ _ _ _ h
 refine wpAny_call (wz (F.run X.A X.stack s H ⟨us,[]⟩ (us++ds) (vs++qx) Q E hr I.RC (hb s us I.tJ hl) r2 h) fun r s' hq=>?_);cases r with
 | error e=>exact hx pi σ H s e s' I hq
 | ok fl=>
  cases fl with
  | ret u=>exact I.after hq
  | next=>exact False.elim hq
  | brk=>exact False.elim hq
  | cont=>exact False.elim hq
theorem Mj(F:iA X.prog X.w X.K X.mg X.base CX k f fd ps sp)(hr:gm k X.A)(hg:Gl X x)(hm:X.mg x=some (.ref f))(hk:PySem.W.keepIn X.K (.ref f)=true)(hb:Binds X.K fd ps ds)(hd:Vals qx ds)(hx:Passes CX X E)(ha:PA X (e::es) t)(iN:(x==("__debug__" : Str))=false:=by decide)(he:starEach (e::es) X.env=(false,eval e X.env)::starEach es X.env:=by rfl)(n9:(backTo pos (starEach es X.env)).any (·.1)=false:=by rfl) :
  PE X (.Call (.Name x p) (e::es) [] pos) (PY sp qx E t):=by
 intro pi s σ H Q I h;refine wpAny_Call_Name_kw (rF I hg hm ?_ iN);refine PySem.W.callWith_K (h₀:=X.base) I.ok.mod.Eh hk (a8 (ha pos pi s σ H _ I h) fun us s1 ⟨vs,H1,I1,r,q⟩=>⟨I1.tJ,?_⟩) he n9;exact Oo F hr hb hd hx I1 r q
end
section
variable{CX:kR}{k:Nat}{C:Addr}{ps ks:List Str}{sp:Sp}{E:XK}{m:Str}{Yz:Pos}{es:List Expr}{YE:List Keyword}{t tk:TA}{nm:Option Str}
variable{gV:List V→List V→List V}
end
structure W4(N P:List Str)(sc:Scope):Prop where
 kind:sc.kind=.function
 co:sc.isCoroutine=false
 gen:sc.isGenerator=false
 nd:N.Nodup
 pre:N.take P.length=P
 par:∀x∈P,sc.names.lookup x=some .local∨sc.names.lookup x=some .cell
 Vr:∀y∈sc.names,y.2≠.free
theorem fB{kindOf:Str→Option NameKind}{x:Str}:∀{binds:List (Str×Value)} {m:Str→Option Value},(∀v,(x,v)∉binds)→bindL kindOf binds m x=m x
 | [],_,_=>rfl
 | (n,v)::r,m,h=>by
  unfold bindL;rw[fB fun w hw=>h w (b8 _ hw)];split
  ·have:x≠n:=by rintro rfl;exact h v bX
   simp[this]
  ·rfl
theorem fG{kindOf:Str→Option NameKind}{x:Str}:∀{binds:List (Str×Value)} {m:Str→Option Value},(∀v,(x,v)∉binds)→bindC kindOf binds m x=m x
 | [],_,_=>rfl
 | (n,v)::r,m,h=>by
  unfold bindC;rw[fG fun w hw=>h w (b8 _ hw)];split
  ·rfl
  ·have:x≠n:=by rintro rfl;exact h v bX
   simp[this]
theorem fC{kindOf:Str→Option NameKind}{x:Str}{v:Value}:∀{P:List Str} {vs:List Value} {i:Nat} {m:Str→Option Value},P.Nodup→P[i]?=some x→vs[i]?=some v→kindOf x=some .local→
  bindL kindOf (P.zip vs) m x=some v
 | [],_,_,_,_,h,_,_=>by simp at h
 | _::_,[],_,_,_,_,h,_=>by simp at h
 | p::P,w::vs,0,m,nd,h1,h2,hk=>by
  simp at h1 h2;subst h1;subst h2;show bindL kindOf ((p,w)::P.zip vs) m p=_;unfold bindL;rw[fB fun v hv=>(nu nd).1 (List.of_mem_zip hv).1,ag hk];simp
 | p::P,w::vs,i+1,m,nd,h1,h2,hk=>by
  show bindL kindOf ((p,w)::P.zip vs) m x=_;unfold bindL;exact fC (i:=i) (nu nd).2 (by simpa using h1) (by simpa using h2) hk
theorem fH{kindOf:Str→Option NameKind}{x:Str}{v:Value}:∀{P:List Str} {vs:List Value} {i:Nat} {m:Str→Option Value},P.Nodup→P[i]?=some x→vs[i]?=some v→kindOf x≠some .local→
  bindC kindOf (P.zip vs) m x=some v
 | [],_,_,_,_,h,_,_=>by simp at h
 | _::_,[],_,_,_,_,h,_=>by simp at h
 | p::P,w::vs,0,m,nd,h1,h2,hk=>by
  simp at h1 h2;subst h1;subst h2;show bindC kindOf ((p,w)::P.zip vs) m p=_;unfold bindC;rw[fG fun v hv=>(nu nd).1 (List.of_mem_zip hv).1,ai hk];simp
 | p::P,w::vs,i+1,m,nd,h1,h2,hk=>by
  show bindC kindOf ((p,w)::P.zip vs) m x=_;unfold bindC;exact fH (i:=i) (nu nd).2 (by simpa using h1) (by simpa using h2) hk
noncomputable def start(N:List Str)(vs:List V):St:=vs.map some++List.replicate (N.length-vs.length) none
noncomputable def m9(CX:kR)(P:Program)(w:World)(K:p4)(mg:Str→Option Value)(base:Heap)(N:List Str)(qual:Str)(scope:Scope)(f:Addr)(cd:Value)(A:Around)(outer:List Env)(s:Shared)(H:Hp)(E:XK):Cx where
 prog:=P
 w:=w
 K:=K
 mg:=mg
 base:=base
 A:=A.deeper (envOfC qual scope s.heap.objs.size f cd)
 N:=N
 b7:=s
 dq:=H
 env:=envOfC qual scope s.heap.objs.size f cd
 outer:=outer
 stack:=envOfC qual scope s.heap.objs.size f cd::outer
 ex:=[]
 calm:=true
 fn:=fun _=>true
 pn:=[]
 xe:=fun e s'=>wpAny (model P w) (A.deeper (envOfC qual scope s.heap.objs.size f cd)) (leaving (envOfC qual scope s.heap.objs.size f cd) e) (fun _ yo=>CX outer H s E e yo) (fun aI yo=>CX outer H s E aI yo) s'
theorem mH{sc:Scope}(h:sc.names.lookup x=some .cell):∃c,(cellsFrom n sc.names []).lookup x=some c:=by
 have q:=PySem.W.cellsFrom_some sc.names n [] (.inl h);exact Option.isSome_iff_exists.mp q
theorem vD{CX:kR}{ps:List Str}{cd:Value}{outer:List Env}{s1:Shared}{E:XK}(S:W4 N ps scope)(hd:A.handled=none)(e0:zc P w K mg base A outer s H)(hl:vs.length=ps.length)(r:Vals vs us)(x:InCallC s s.heap.objs.size (bindL (envOfC qual scope s.heap.objs.size f cd).kindOf (ps.zip us) fun _=>none) (cellsFrom (s.heap.objs.size+1) scope.names []) (bindC (envOfC qual scope s.heap.objs.size f cd).kindOf (ps.zip us) fun _=>none) s1) :
  Inv (m9 CX P w K mg base N qual scope f cd A outer s H E) [] (start N vs) H s1:=by
 have n9:ps.length≤N.length:=by have:=congrArg List.length S.pre;rw[List.length_take]at this;lia
 obtain⟨h1,tk,rfl,hk⟩:=x.done;have yh:∀b:Addr,b∉(m9 CX P w K mg base N qual scope f cd A outer s H E).ex:=fun b z=>absurd (show b∈([]:List Addr) from z) (by simp)
 refine⟨⟨e0.mod,S.kind,rfl,rfl,aT _,fun y z c h1 h2=>?_,fun y hy=>?_,fun y c _ h=>?_,fun _=>hd,Around.frames_deeper e0.frames,.inr ⟨rfl,rfl⟩,fun b z=>absurd z (yh b),e0.bs,e0.qp,fun b _ _=>yh b,fun b z=>absurd z (yh b),e0.l5,e0.uj⟩,
  rfl,e0.bare,Un.kept hk,⟨_,x.toInCall.ns,fun i y v h1 h2 h3=>?_⟩,fun y c h=>⟨_,x.cell y c h⟩,e0.az.fresh (aT _),fun y c h=>?_,fun p hp=>absurd (show p∈([]:List (Addr×Obj)) from hp) (by simp),e0.az.kept hk,?_⟩
 ·exact name_of_addr x.apart (PySem.mem_of_lookup h1) (PySem.mem_of_lookup h2)
 ·have hy:scope.names.lookup y=some .cell∨scope.names.lookup y=some .free:=hy
  rcases hy with hy | hy
  ·exact mH hy
  ·exact absurd rfl (S.Vr _ (PySem.mem_of_lookup hy))
 ·exact nz (x.above y c (PySem.mem_of_lookup h))
 ·have hi:i<vs.length:=by
   unfold start at h2
   by_cases hi:i<vs.length
   ·exact hi
   ·rw[so (by simpa using hi)]at h2
    rw[List.getElem?_replicate]at h2;split at h2<;>cases h2
  have ha:vs[i]?=some v:=by
   unfold start at h2;rw[ko (by simpa using hi),eS]at h2;cases e:vs[i]? with
   | none=>rw[e]at h2;cases h2
   | some a=>rw[e]at h2;cases h2;rfl
  obtain⟨u,hu,rv⟩:=r.get ha;have hp:ps[i]?=some y:=by
   rw[←S.pre,List.getElem?_take_of_lt (by lia)];exact h1
  have Jp:ps.Nodup:=by rw[←S.pre];exact S.nd.sublist (List.take_sublist _ _)
  refine⟨u,rv,?_⟩;rcases S.par y (jw hp) with k | k
  ·exact .inl ⟨k,fC Jp hp hu k⟩
  ·obtain⟨c,e⟩:=mH (n:=s.heap.objs.size+1) k
   refine .inr ⟨.inl k,c,e,?_⟩;have q:=x.cell y c e;rw[fH Jp hp hu (by show scope.names.lookup y≠_;rw[k];decide)]at q;exact q
 ·exact e0.az.fresh (nz (x.above y c (PySem.mem_of_lookup h)))
 ·unfold start
  show _=N.length;rw[fN,a9,List.length_replicate];lia
theorem Qp{CX:kR}{k:Nat}{params:Arguments}{dV kV doc pm dz ct oc:Value}{an od:Option Addr}{ps:List Str}{sp:Sp}(lk:K.lookup f=some ⟨oc,od,.func (PySem.W.fnOf name qual params body scope dV kV doc pm an dz ct),qc⟩)(jj:PySem.W.codeIn K dz qual=true)(S:W4 N ps scope)(len:∀vs H Q E,sp vs H Q E→vs.length=ps.length)(me:∀(A:Around) (outer:List Env) (s:Shared) (H:Hp) (vs:List V) (Q:VK) (E:XK),gm k (A.deeper (envOfC qual scope s.heap.objs.size f dz))→sp vs H Q E→
   ∃t,eC (m9 CX P w K mg base N qual scope f dz A outer s H E) body t∧t { nx:=fun _ aa=>Q .ao aa,rt:=Q } (start N vs) H) :
  iA P w K mg base CX (k+1) f (PySem.W.fnOf name qual params body scope dV kV doc pm an dz ct) ps sp:=by
 refine⟨len,fun A outer s H args us vs Q E hr e0 hb r rh=>?_⟩;have hl:=len _ _ _ _ rh;have KX:K.In s.heap:=e0.mod.Eh.keeps fun b o e=>(e0.bs b o e).1
 have lim:s.heap.NoLimit:=e0.mod.nolimit.keeps fun b o e=>(e0.bs b o e).1
 have TB:∀y∈ps.zip us,scope.names.lookup y.1=some .local∨(scope.names.lookup y.1=some .cell∧((cellsFrom (s.heap.objs.size+1) scope.names []).lookup y.1).isSome=true):=fun⟨n,v⟩ hy=>by
  rcases S.par n (List.of_mem_zip hy).1 with q | q
  ·exact .inl q
  ·exact .inr ⟨q,PySem.W.cellsFrom_some _ _ _ (.inl q)⟩
 refine codeAny_call_function hr.depth (KX _ _ lk) rfl S.co S.gen rfl (PySem.W.codeRec_of KX jj) (hb _ _ _ _ ?_);refine wpAny_newFunctionEnv_cells S.kind TB fun env he s1 x=>?_
 subst he;refine⟨lim.keeps x.toInCall.keep,codeAny_func ?_⟩;obtain⟨t,ht,hq⟩:=me A outer s H vs Q E (hr.deeper _) rh;have I:Inv (m9 CX P w K mg base N qual scope f dz A outer s H E) [] (start N vs) H s1:=vD S hr.hd e0 hl r x;refine fb (ht [] s1 (start N vs) H _ I hq) (fun fl s' hs=>?_) fun e s' hs=>hs
 have fin:∀{σ':St} {aa:Hp} {v:V} {u:Value},Inv (m9 CX P w K mg base N qual scope f dz A outer s H E) [] σ' aa s'→RelV v u→Q v aa→CE outer P w H s Q u s':=
  fun {σ' aa v u} J rv q=>⟨v,aa,J.os,J.bare,J.base,J.az,rv,q⟩
 cases fl with
 | ret u=>
  obtain⟨v,σ',aa,J,rv,q⟩:=hs;exact fin J rv q
 | next=>
  obtain⟨σ',aa,J,q⟩:=hs;exact fin (v:=V.ao) (u:=Value.none) J rfl q
 | brk=>
  obtain⟨_,_,_,q⟩:=hs;exact False.elim q
 | cont=>
  obtain⟨_,_,_,q⟩:=hs;exact False.elim q
end L2
namespace L2
open PySem PySem.Spec PyProof.Rows
section
variable{es:List Expr}{t:TA}{id:String}
noncomputable def Kh(r:List V→Hp→VK→Prop)(t:TA):TE:=fun σ H Q=>t σ H fun vs H1=>r vs H1 Q
theorem kO(hc:gb X (.builtin id) r)(hg:Gl X x)(hm:X.mg x=none)(hv:bootBuiltins x=some (.builtin id))(ha:PA X (e::es) t)(hn:x≠"__name__":=by decide)(iN:(x==("__debug__" : Str))=false:=by decide)(he:starEach (e::es) X.env=(false,eval e X.env)::starEach es X.env:=by rfl)(n9:(backTo pos (starEach es X.env)).any (·.1)=false:=by rfl):PE X (.Call (.Name x p) (e::es) [] pos) (Kh r t):=by
 intro pi s σ H Q I h;refine wpAny_Call_Name_kw (M9 I hg hm hv ?_ hn iN);exact PyProof.Rows.callWith_builtin1 (a8 (ha pos pi s σ H _ I h) fun us s1 ⟨vs,H1,I1,r1,q1⟩=>hc pi s1 σ H1 vs us Q I1 r1 q1) he n9
theorem uU(hc:gb X (.type T) r)(hg:Gl X x)(hm:X.mg x=none)(hv:bootBuiltins x=some (.type T))(ha:PA X (e::es) t)(hn:x≠"__name__":=by decide)(iN:(x==("__debug__" : Str))=false:=by decide)(he:starEach (e::es) X.env=(false,eval e X.env)::starEach es X.env:=by rfl)(n9:(backTo pos (starEach es X.env)).any (·.1)=false:=by rfl):PE X (.Call (.Name x p) (e::es) [] pos) (Kh r t):=by
 intro pi s σ H Q I h;refine wpAny_Call_Name_kw (M9 I hg hm hv ?_ hn iN);exact PyProof.Rows.callWith_type1 (a8 (ha pos pi s σ H _ I h) fun us s1 ⟨vs,H1,I1,r1,q1⟩=>hc pi s1 σ H1 vs us Q I1 r1 q1) he n9
end
end L2
namespace HT
open PySem PyProof.Rows
section
open PySem.SeqAt
open PySem.AutoSeq1 (wpAny_loadPart')
open PySem.MeetsSeq PySem.MeetsSeq2 PySem.MeetsSeq3
end
theorem Ru{t b:Addr}{vs ws:List Value}(ht:IsTup s.heap t vs.toArray)(hb:IsTup s.heap b ws.toArray)(hv:vs≠[])(h1:ws=[]→Q (.ref t) s)(h2:ws≠[]→Q (.ref s.heap.objs.size) { s with heap:=s.heap.push { cls:=.type "tuple",data:=.seq (vs++ws).toArray } })(hsz:vs.length+ws.length≤sizeLine):wpAny (model prog w) A (binaryOp .Add (.ref t) (.ref b)) Q E s:=by
 obtain⟨⟨cls,dd,data,sl⟩,ho,hc,n,hd⟩:=id ht;obtain⟨⟨Hs,nK,data2,qe⟩,iO,ja,n2,hd2⟩:=id hb;simp only at hc hd ja hd2;subst hc hd ja hd2;have e:vs.toArray++ws.toArray=(vs++ws).toArray:=by simp
 by_cases hw:ws=[]
 ·exact concat_meets ⟨_,ho,rfl⟩ ⟨_,iO,rfl⟩ noFill_tuple_add seq_tuple_add PySem.F.slot_tuple_add PySem.F.entry_tuple_add (PySem.F.args_tuple_add_2 _ _)
   (tuple_addW1 t b vs.toArray ws.toArray n n2 dd nK sl qe (by simpa using hv) (by simp[hw])) ⟨ho,iO,h1 hw⟩
 ·refine concat_meets ⟨_,ho,rfl⟩ ⟨_,iO,rfl⟩ noFill_tuple_add seq_tuple_add PySem.F.slot_tuple_add PySem.F.entry_tuple_add (PySem.F.args_tuple_add_2 _ _)
   (tuple_addW2 t b vs.toArray ws.toArray n n2 dd nK sl qe (by simpa using hv) (by simpa using hw) (by rw[dr,dr];exact hsz)) ⟨ho,iO,?_⟩
  rw[e];exact h2 hw
noncomputable def bj(n d:Nat):Option Int→Nat
 | none=>d
 | some v=>if v<0 then (v+(n:Int)).toNat else min v.toNat n
theorem Wm(n d k:Nat):bj n d (some (k:Int))=min k n:=by
 show (if (k:Int)<0 then ((k:Int)+(n:Int)).toNat else min (k:Int).toNat n)=min k n;rw[ai (by lia),Int.toNat_natCast]
theorem Om(n d:Nat)(hd:d≤n)(o:Option Int):bj n d o≤n:=by
 cases o with
 | none=>exact hd
 | some v=>
  show (if v<0 then (v+(n:Int)).toNat else min v.toNat n)≤n
  by_cases hv:v<0
  ·rw[ag hv];lia
  ·rw[ai hv];exact Nat.min_le_right _ _
theorem sJ(v:Int)(n d:Nat):(if v<0 then max (v+(n:Int)) 0 else min v (n:Int))=((bj n d (some v):Nat):Int):=by
 show (if v<0 then max (v+(n:Int)) 0 else min v (n:Int))=(((if v<0 then (v+(n:Int)).toNat else min v.toNat n):Nat):Int)
 by_cases hv:v<0
 ·simp only[ag hv];lia
 ·simp only[ai hv];lia
theorem pU(lo hi:Option Int)(n:Nat):Builtin.Slice.sliceAdjust lo hi 1 (n:Int)=(((bj n 0 lo:Nat):Int),((bj n n hi:Nat):Int)):=by
 have h1:¬((1:Int)<0):=by lia
 unfold Builtin.Slice.sliceAdjust;simp only[h1,if_false];refine Prod.ext ?_ ?_
 ·cases lo with
  | none=>rfl
  | some v=>exact sJ v n 0
 ·cases hi with
  | none=>rfl
  | some v=>exact sJ v n n
theorem oW(i j:Nat):Builtin.Slice.slicePlaces (i:Int) (j:Int) 1=j-i:=by
 unfold Builtin.Slice.slicePlaces;have h1:(1:Int) > 0:=by lia
 simp only[h1,if_true,Int.ediv_one];split<;>lia
theorem G0{v:Value}{o:Option Int}{Q:Option Int→Shared→Prop}(p:IsPart v o)(h:Q o s):wpAny (model prog w) A (Builtin.Slice.slicePartIndex v) Q E s:=by
 cases p with
 | none=>exact slicePart_none h
 | int i t=>exact slicePart_int h
theorem Kb{sl:Addr}{vl vu:Value}{lo hi:Option Int}{Q:Int×Int×Nat→Shared→Prop}(hs:s.heap.IsSliceOf sl vl vu .none)(pl:IsPart vl lo)(pu:IsPart vu hi)(h:Q (((bj n 0 lo:Nat):Int),1,bj n n hi-bj n 0 lo) s):wpAny (model prog w) A (Builtin.Slice.sliceApplied (.ref sl) (pure (n:Int))) Q E s:=by
 obtain⟨os,sM,uw,qE⟩:=id hs;unfold Builtin.Slice.sliceApplied Builtin.Slice.sliceFields;refine ab (ab (wpAny_field sM qE (x:=vl) rfl (ab (wpAny_field sM qE (x:=vu) rfl (ab (wpAny_field sM qE (x:=.none) rfl (ah ?_)))))));refine ab (slicePart_none ?_);show wpAny _ _ (if ((1:Int)==0)=true then _ else _) _ _ s;rw[ai (by decide)];refine ab (G0 pl (ab (G0 pu (ab (ah ?_)))));show wpAny _ _ (match Builtin.Slice.sliceAdjust lo hi 1 (n:Int) with | (lo,hi)=>pure (lo,(1:Int),Builtin.Slice.slicePlaces lo hi 1)) _ _ s;rw[pU lo hi n];show wpAny _ _ (pure (((bj n 0 lo:Nat):Int),(1:Int),Builtin.Slice.slicePlaces ((bj n 0 lo:Nat):Int) ((bj n n hi:Nat):Int) 1)) _ _ s;rw[oW];exact ah h
theorem zL(xs:Array Value)(i k:Nat):((List.range k).filterMap fun(m:Nat)=>xs[((i:Int)+(m:Int)*1).toNat]?).toArray=((xs.toList.drop i).take k).toArray:=by
 have e:(fun(m:Nat)=>xs[((i:Int)+(m:Int)*1).toNat]?)=fun m=>xs[i+m]?:=by
  funext m;have:((i:Int)+(m:Int)*1).toNat=i+m:=by lia
  rw[this]
 rw[e];have:=pick_run xs i k;rw[List.filterMap_map]at this;have e2:((fun x=>xs[x]?)∘fun x=>i+x)=fun m=>xs[i+m]?:=rfl
 rw[e2]at this;rw[this]
theorem Se{t sl:Addr}{vl vu:Value}{lo hi:Option Int}(ht:IsTup s.heap t items)(hs:s.heap.IsSliceOf sl vl vu .none)(pl:IsPart vl lo)(pu:IsPart vu hi)(hw:¬(bj items.size 0 lo=0∧bj items.size items.size hi=items.size))(h:Q (.ref s.heap.objs.size) { s with heap:=s.heap.push { cls:=.type "tuple",data:=.seq ((items.toList.drop (bj items.size 0 lo)).take (bj items.size items.size hi-bj items.size 0 lo)).toArray } })(hsz:items.size≤sizeLine):wpAny (model prog w) A (getItem (.ref t) (.ref sl)) Q E s:=by
 have Az:sizeOk (.seq ((items.toList.drop (bj items.size 0 lo)).take (bj items.size items.size hi-bj items.size 0 lo)).toArray):=by
  show ((items.toList.drop (bj items.size 0 lo)).take (bj items.size items.size hi-bj items.size 0 lo)).toArray.size≤sizeLine;rw[dr,List.length_take,List.length_drop,fR];omega
 have hj:bj items.size items.size hi≤items.size:=Om _ _ (aT _) hi;obtain⟨os,sM,uw,qE⟩:=id hs;have Dh:s.TypeIs (.ref sl) "slice":=⟨os,sM,uw⟩
 unfold getItem
 try with_reducible refine gX ?_
 first | refine ab (ah ?_) | skip
 refine ab (wpAny_sequenceKey ht.typeIs (by decide) ?_);refine ab (wpAny_callSpecial?_slot (name:=Str.ofString "__getitem__") ht.typeIs PyProof.Rows.slot_tuple_getitem
  (gn PyProof.Rows.slot_tuple_getitem ht.typeIs entry_tuple_getitem ?_ (args_tuple_getitem _ _)))
 show wpAny _ _ (Builtin.Tuple.tupleItemsOf (.ref t) >>= _) _ _ s;refine ab (tupleItemsOf_ ht ?_);refine ab (wpAny_typeOf Dh ?_);rw[ag (by decide)];refine ab (Kb hs pl pu ?_);have DO:¬((((bj items.size 0 lo:Nat):Int)==0&&(1:Int)==1&&(bj items.size items.size hi-bj items.size 0 lo)==items.size)=true):=by
  intro q;rw[gh,gh]at q;have q1:((bj items.size 0 lo:Nat):Int)=0:=eq_of_beq q.1.1;have q2:bj items.size items.size hi-bj items.size 0 lo=items.size:=eq_of_beq q.2;exact hw ⟨by omega,by omega⟩
 show wpAny _ _ (if (((bj items.size 0 lo:Nat):Int)==0&&(1:Int)==1&&(bj items.size items.size hi-bj items.size 0 lo)==items.size)=true then _ else _) _ _ s;rw[ai DO,zL]
 first
  | exact ab (m:=Builtin.Tuple.tupleExact _) (iL (ah ⟨_,rfl,ah h⟩) Az)
  | exact ab (m:=Builtin.Tuple.tupleExact _) (iL (ab (ah (ah ⟨_,rfl,ah h⟩))) Az)
  | exact ab (ab (m:=Builtin.Tuple.tupleExact _) (iL (ah (ah ⟨_,rfl,ah h⟩)) Az))
  | exact ab (ab (m:=Builtin.Tuple.tupleExact _) (iL (ah ⟨_,rfl,ah h⟩) Az))
end HT
namespace L2
open PySem PySem.Spec PyProof.Rows
noncomputable abbrev TO:=St→Hp→(Option Int→Hp→Prop)→Prop
def PO(X:Cx)(e:Option Expr)(t:TO):Prop:=
 ∀(pi:List (Addr×Obj)) (s:Shared) (σ:St) (H:Hp) (Q:Option Int→Hp→Prop),Inv X pi σ H s→t σ H Q→
  wpAny (model X.prog X.w) X.A (evalPart e X.env) (fun u s'=>∃o aa,Inv X pi σ aa s'∧IsPart u o∧Q o aa) X.xe s
noncomputable def Lm:TO:=fun _ H Q=>Q none H
noncomputable def PR(t:TE):TO:=fun σ H Q=>t σ H fun x H1=>∃i,x=.int i∧Q (some i) H1
theorem intsAre_of:∀{us:List Value},Vals (ns.map V.int) us→IntsAre us ns:=by
 induction ns with
 | nil=>intro us r;rw[List.map_nil]at r;cases r;exact .nil
 | cons n ns ih=>
  intro us r;rw[ck]at r;cases r with
  | cons r1 r2=>
   obtain⟨t,e⟩:=r1;subst e;exact .cons n t (ih r2)
section
variable{lo hi:Option Expr}{tl th:TO}
theorem L8:PO X none Lm:=by
 intro pi s σ H Q I h;rw[evalPart_none];exact ah ⟨none,H,I,.none,h⟩
theorem L7(h:PE X e te):PO X (some e) (PR te):=by
 intro pi s σ H Q I hw;rw[evalPart_some];refine a8 (h pi s σ H _ I hw) fun u s1 af=>?_
 obtain⟨x,H1,I1,r1,q1⟩:=af;obtain⟨i,rfl,q⟩:=q1;obtain⟨t,rfl⟩:=r1;exact⟨some i,H1,I1,.int i t,q⟩
def oI(X:Cx)(r:V→Option Int→Option Int→Hp→VK→Prop):Prop:=
 ∀(pi:List (Addr×Obj)) (s:Shared) (σ:St) (H:Hp) (x:V) (v vl vu:Value) (lo hi:Option Int) (sl:Addr) (Q:VK),Inv X pi σ H s→RelV x v→s.heap.IsSliceOf sl vl vu .none→IsPart vl lo→IsPart vu hi→r x lo hi H Q→
  ∃T id,typeLookup (.type T) "__getitem__" = pure (some (.builtin id))∧s.TypeIs v T∧wpAny (model X.prog X.w) X.A (getItem v (.ref sl)) (EP X pi σ Q) X.xe s
theorem oI.or{r cn:V→Option Int→Option Int→Hp→VK→Prop}(h:oI X r)(h':oI X cn):oI X (fun x lo hi H Q=>r x lo hi H Q∨cn x lo hi H Q):=by
 intro pi s σ H x v vl vu lo hi sl Q I rx hs pl pu q;rcases q with q | q
 ·exact h pi s σ H x v vl vu lo hi sl Q I rx hs pl pu q
 ·exact h' pi s σ H x v vl vu lo hi sl Q I rx hs pl pu q
noncomputable def WI(r:V→Option Int→Option Int→Hp→VK→Prop)(te:TE)(tl th:TO):TE:=fun σ H Q=>te σ H fun x H1=>tl σ H1 fun l H2=>th σ H2 fun u H3=>r x l u H3 Q
theorem zO{r:V→Option Int→Option Int→Hp→VK→Prop}(hr:oI X r)(he:PE X e te)(hl:PO X lo tl)(hu:PO X hi th):PE X (.Subscript e (.Slice lo hi none p2) pos) (WI r te tl th):=by
 intro pi s σ H Q I h;refine Subscript_ (a8 (he pi s σ H _ I h) fun v s1 af=>?_);obtain⟨x,H1,I1,r1,q1⟩:=af;refine wpAny_Slice (a8 (hl pi s1 σ H1 _ I1 q1) fun vl s2 ⟨l,H2,I2,pl,q2⟩=>a8 (hu pi s2 σ H2 _ I2 q2) fun vu s3 af=>?_);obtain⟨u,H3,I3,pu,q3⟩:=af;rw[evalPart_none];refine ah ?_;have I4:Inv X pi σ H3 { s3 with heap:=s3.heap.push { cls:=.type "slice",data:=.fields #[vl,vu,.none] } }:=I3.kept (t':=s3.toks) fun b ob q=>cz _ q
 obtain⟨T,id,hT,ht,hg⟩:=hr pi { s3 with heap:=s3.heap.push { cls:=.type "slice",data:=.fields #[vl,vu,.none] } } σ H3 x v vl vu l u s3.heap.objs.size Q I4 r1 (Heap.IsSliceOf.new ..) pl pu q3;show wpAny (model X.prog X.w) X.A (subscriptTail e (.Slice lo hi none p2) v (.ref s3.heap.objs.size)) (EP X pi σ Q) X.xe { s3 with heap:=s3.heap.push { cls:=.type "slice",data:=.fields #[vl,vu,.none] } };exact tail_any (ops:=[.ref s3.heap.objs.size,v]) ht hT hg (by with_unfolding_all rfl)
noncomputable def mC(xs:List V)(lo hi:Option Int):List V:=(xs.drop (HT.bj xs.length 0 lo)).take (HT.bj xs.length xs.length hi-HT.bj xs.length 0 lo)
theorem GO(xs:List V)(lo hi:Option Int):(mC xs lo hi).length≤xs.length:=by
 unfold mC;rw[List.length_take,List.length_drop];lia
theorem Vals.AO{xs:List V}(r:Vals xs us):us=[]↔xs=[]:=by
 cases r with
 | nil=>simp
 | cons _ _=>simp
theorem mK:gb X (.type "tuple") (fun xs H Q=>∃a ys,xs=[.ref a]∧dv X.K H a ys∧Q (.ref a) H):=by
 intro pi s σ H xs us Q I r h;obtain⟨a,ys,rfl,ha,q⟩:=h;obtain⟨u,rfl,ru⟩:=vals1 r;cases ru;obtain⟨its,_,p1,_⟩:=I.tuple ha;exact call_tuple_same (items:=its.toArray) p1 ⟨.ref a,H,I,rfl,q⟩
end
end L2
namespace L2
open PySem PySem.Spec PyProof.Rows
noncomputable def vf(n:Nat)(i:Int):Option Nat:=if 0≤i then (if i<n then some i.toNat else none) else if -(n:Int)≤i then some (i+n).toNat else none
noncomputable def cv{α:Type}(xs:List α)(i:Int):Option α:=(vf xs.length i).bind fun j=>xs[j]?
theorem ML{i:Int}(h:vf n i=some j):seqIndex? i n=some j∧j<n∧-(n:Int)≤i∧i<n:=by
 unfold vf at h
 by_cases h0:0≤i
 ·rw[ag h0]at h
  by_cases h1:i<n
  ·rw[ag h1]at h
   have e:i.toNat=j:=cE h;exact⟨by rw[seqIndex_of h0 h1,e],by lia,by lia,h1⟩
  ·rw[ai h1]at h;cases h
 ·rw[ai h0]at h
  by_cases h1:-(n:Int)≤i
  ·rw[ag h1]at h
   have e:(i+n).toNat=j:=cE h;exact⟨by rw[seqIndex_neg (by lia) h1,e],by lia,h1,by lia⟩
  ·rw[ai h1]at h;cases h
theorem jE{α:Type}{xs:List α}{i:Int}{v:α}(h:cv xs i=some v):∃j,seqIndex? i xs.length=some j∧xs[j]?=some v∧j<xs.length∧-(xs.length:Int)≤i∧i<xs.length:=by
 unfold cv at h;cases e:vf xs.length i with
 | none=>rw[e]at h;cases h
 | some j=>
  rw[e]at h;obtain⟨h1,h2,h3,h4⟩:=ML e;exact⟨j,h1,h,h2,h3,h4⟩
def tX(b:Expr):Prop:=∀o i,subscripted b false o i=operate [o,i] (getItem o i)
def oB(X:Cx)(r:R2):Prop:=
 ∀(value slice:Expr) (pi:List (Addr×Obj)) (s:Shared) (σ:St) (H:Hp) (x y:V) (v u:Value) (Q:VK),Inv X pi σ H s→RelV x v→RelV y u→r x y H Q→
  subscripted slice false v u=operate [v,u] (getItem v u)→wpAny (model X.prog X.w) X.A (subscriptTail value slice v u) (EP X pi σ Q) X.xe s
def zj(X:Cx)(id:String)(r:V→List V→Hp→VK→Prop):Prop:=
 ∀(pi:List (Addr×Obj)) (s:Shared) (σ:St) (H:Hp) (x:V) (xs:List V) (v:Value) (us:List Value) (Q:VK),Inv X pi σ H s→RelV x v→Vals xs us→r x xs H Q→
  wpAny (model X.prog X.w) X.A (call (.builtin id) (v::us)) (EP X pi σ Q) X.xe s
section
variable{a:Expr}
theorem oB.or{r cn:R2}(h:oB X r)(h':oB X cn):oB X (fun x y H Q=>r x y H Q∨cn x y H Q):=by
 intro value slice pi s σ H x y v u Q I rx ry q hs;rcases q with q | q
 ·exact h value slice pi s σ H x y v u Q I rx ry q hs
 ·exact h' value slice pi s σ H x y v u Q I rx ry q hs
theorem P9{r:R2}(hr:oB X r)(ha:PE X a ta)(hb:PE X b tb)(hs:tX b):PE X (.Subscript a b pos) (vt r ta tb):=by
 intro pi s σ H Q I h;exact Subscript_ (BA ha hb I h fun v u s2 x y H2 I2 rx ry q=>hr a b pi s2 σ H2 x y v u Q I2 rx ry q (hs _ _))
noncomputable def Gi(K:p4):R2:=fun x y H Q=>∃p xs i v,x=.ref p∧y=.int i∧c6 K H p xs∧cv xs i=some v∧Q v H
noncomputable def Gg(K:p4):R2:=fun x y H Q=>∃p xs i v,x=.ref p∧y=.int i∧dv K H p xs∧cv xs i=some v∧Q v H
noncomputable def Gh:R2:=fun x y H Q=>∃z i c,x=.str z∧y=.int i∧z.length≤sizeLine∧cv z.cps.toList i=some c∧Q (.str ⟨#[c]⟩) H
theorem UT:oB X (Gi X.K):=by
 intro value slice pi s σ H x y v u Q I rx ry h hs;obtain⟨p,xs,i,z,rfl,rfl,hq,he,q⟩:=h;cases rx;obtain⟨t,rfl⟩:=ry;obtain⟨its,r,pl,hz⟩:=I.list hq;obtain⟨j,h1,h2,h3,h4,h5⟩:=jE he;obtain⟨w,ew,iS⟩:=r.get h2;have hl:=r.length;have hn:=vj;have fin:EP X pi σ Q w s:=⟨z,H,I,iS,q⟩
 by_cases h0:0≤i
 ·have hj:i.toNat=j:=by
   rw[seqIndex_of h0 h5]at h1;exact cE h1
  exact item_listR pl.isList h0 (by lia) (by rw[hj];simpa using ew) fin hs
 ·have hj:(i+(its.toArray.size:Int)).toNat=j:=by
   rw[seqIndex_neg (by lia) h4]at h1;rw[dr,←hl];exact cE h1
  exact subscriptTail_builtinR (x:=w) pl.isList.typeIs slot_list_getitem.lookup
   (wpAny_getItem_list_neg (Q:=fun r s'=>r=w∧EP X pi σ Q r s') pl.isList (by lia) (by rw[dr]<;>lia) (by lia) (by rw[hj];simpa using ew) ⟨rfl,fin⟩) hs
theorem IZ:oB X (Gg X.K):=by
 intro value slice pi s σ H x y v u Q I rx ry h hs;obtain⟨p,xs,i,z,rfl,rfl,hq,he,q⟩:=h;cases rx;obtain⟨t,rfl⟩:=ry;obtain⟨its,r,pl,hz⟩:=I.tuple hq;obtain⟨j,h1,h2,h3,h4,h5⟩:=jE he;obtain⟨w,ew,iS⟩:=r.get h2;have hl:=r.length;have hn:=vj;have fin:EP X pi σ Q w s:=⟨z,H,I,iS,q⟩
 exact subscriptTail_builtinR (x:=w) pl.typeIs slot_tuple_getitem.lookup
  (getItem_tuple (j:=j) (Q:=fun r s'=>r=w∧EP X pi σ Q r s') pl (by lia) (by lia) (by rw[dr,←hl];exact h1) (by simpa using ew) ⟨rfl,fin⟩) hs
theorem O0:oB X Gh:=by
 intro value slice pi s σ H x y v u Q I rx ry h hs;obtain⟨z,i,c,rfl,rfl,hz,he,q⟩:=h;obtain⟨t,rfl⟩:=rx;obtain⟨t',rfl⟩:=ry;obtain⟨j,h1,h2,h3,h4,h5⟩:=jE he;have hl:z.cps.toList.length=z.length:=by simp[Str.length]
 rw[hl]at h1 h4 h5;have hn:=vj;exact tail_any (typeIs_str s z t) slot_str_getitem.lookup (getItem_str (c:=c) (by
  have e1:decide (i < -(2 ^ 63:Int))=false:=dm (by lia);have e2:decide (i≥2 ^ 63)=false:=dm (by lia);rw[e1,e2,Bool.or_false]) (by rw[h1];simpa using h2) ⟨.str ⟨#[c]⟩,H,I.tok _,⟨_,rfl⟩,q⟩) hs
noncomputable def JA(K:p4):R2:=fun x y H Q=>Gi K x y H Q∨Gg K x y H Q∨Gh x y H Q
theorem O3:oB X (JA X.K):=UT.or (IZ.or O0)
theorem gD(lo hi:Option Int)(n:Nat):(sliceBounds lo hi none n).1=((HT.bj n 0 lo:Nat):Int)∧(sliceBounds lo hi none n).2.1=((HT.bj n n hi:Nat):Int)∧(sliceBounds lo hi none n).2.2=1:=by
 refine⟨?_,?_,rfl⟩
 ·cases lo with
  | none=>simp[sliceBounds,HT.bj]
  | some i=>
   simp only[sliceBounds,HT.bj,Option.getD_none,show (1:Int) > 0 by decide,if_true]
   by_cases h:i<0
   ·simp only[h,if_true]<;>lia
   ·simp only[h,if_false]<;>lia
 ·cases hi with
  | none=>simp[sliceBounds,HT.bj]
  | some i=>
   simp only[sliceBounds,HT.bj,Option.getD_none,show (1:Int) > 0 by decide,if_true]
   by_cases h:i<0
   ·simp only[h,if_true]<;>lia
   ·simp only[h,if_false]<;>lia
theorem cW(its:List Value)(lo hi:Option Int):slicePick its.toArray lo hi none=((its.drop (HT.bj its.length 0 lo)).take (HT.bj its.length its.length hi-HT.bj its.length 0 lo)).toArray:=by
 obtain⟨h1,h2,h3⟩:=gD lo hi its.toArray.size;unfold slicePick;rw[h1,h2,h3];simp only[sliceRange_one,pick_run,dr]<;>rfl
def Bx(K:p4):V→Option Int→Option Int→Hp→VK→Prop:=fun x lo hi H Q=>∃a xs,x=.ref a∧c6 K H a xs∧∀p,H p=none→Q (.ref p) (upd H p (.lst (mC xs lo hi)))
theorem Wy:oI X (Bx X.K):=by
 intro pi s σ H x v vl vu lo hi sl Q I rx hs pl pu h;obtain⟨a,xs,rfl,hx,q⟩:=h;cases rx;obtain⟨its,r,ht,hz⟩:=I.list hx;have hlen:=r.length;refine⟨"list",_,slot_list_getitem.lookup,ht.isList.typeIs,?_⟩;refine wpAny_getItem_list_slice ht.isList hs pl pu .none (by simp) ?_ (by rw[dr]<;>lia);rw[cW,←hlen];refine⟨.ref s.heap.objs.size,_,I.laid (t':=s.toks) (o:=.lst (mC xs lo hi)) (fun b ob q=>cz _ q) (aT _) ?_,rfl,q _ (I.az.fresh (aT _))⟩;exact⟨eR (GO xs lo hi) hz,_,0,(r.drop (HT.bj xs.length 0 lo)).take (HT.bj xs.length xs.length hi-HT.bj xs.length 0 lo),c8 _ rfl⟩
noncomputable def R3:V→Bool
 | .ao=>true
 | .bl _=>true
 | .int _=>true
 | .str _=>true
 | _=>false
noncomputable def fI:V→V→Bool
 | .ao,.ao=>true
 | .bl a,.bl b=>a==b
 | .bl a,.int b=>(if a then 1 else 0)==b
 | .int a,.bl b=>a==(if b then 1 else 0)
 | .int a,.int b=>a==b
 | .str a,.str b=>a==b
 | _,_=>false
theorem iZ{x:V}{v:Value}(ry:RelV y u)(rx:RelV x v)(fy:R3 y=true)(fx:R3 x=true):SeqAt.EqAt A s u v (fI y x):=by
 cases y with
 | ao=>
  cases ry;cases x with
  | ao=>cases rx;exact SeqAt.EqAt.same _
  | bl b=>cases rx;exact SeqAt.EqAt.none_bool b
  | int b=>obtain⟨t,rfl⟩:=rx;exact SeqAt.EqAt.none_int b t
  | str b=>obtain⟨t,rfl⟩:=rx;exact SeqAt.EqAt.none_str b t
  | _=>exact absurd (show false=true from fx) dE
 | bl a=>
  cases ry;cases x with
  | ao=>cases rx;exact SeqAt.EqAt.bool_none a
  | bl b=>cases rx;exact SeqAt.EqAt.bool_bool a b
  | int b=>obtain⟨t,rfl⟩:=rx;exact SeqAt.EqAt.bool_int a b t
  | str b=>obtain⟨t,rfl⟩:=rx;exact SeqAt.EqAt.bool_str a b t
  | _=>exact absurd (show false=true from fx) dE
 | int a=>
  obtain⟨t',rfl⟩:=ry;cases x with
  | ao=>cases rx;exact SeqAt.EqAt.int_none a t'
  | bl b=>cases rx;exact SeqAt.EqAt.int_bool a t' b
  | int b=>obtain⟨t,rfl⟩:=rx;exact SeqAt.EqAt.int_int a t' b t
  | str b=>obtain⟨t,rfl⟩:=rx;exact SeqAt.EqAt.int_str a t' b t
  | _=>exact absurd (show false=true from fx) dE
 | str a=>
  obtain⟨t',rfl⟩:=ry;cases x with
  | ao=>cases rx;exact SeqAt.EqAt.str_none a t'
  | bl b=>cases rx;exact SeqAt.EqAt.str_bool a t' b
  | int b=>obtain⟨t,rfl⟩:=rx;exact SeqAt.EqAt.str_int a t' b t
  | str b=>obtain⟨t,rfl⟩:=rx;exact SeqAt.EqAt.str_str a t' b t
  | _=>exact absurd (show false=true from fx) dE
 | _=>exact absurd (show false=true from fy) dE
noncomputable def k6(x:V)(u:Value):Bool:=match u with
 | .none=>fI .ao x
 | .bool b=>fI (.bl b) x
 | .int i _=>fI (.int i) x
 | .str z _=>fI (.str z) x
 | _=>false
theorem iY{x:V}(r:RelV y u)(f:R3 y=true):k6 x u=fI y x:=by
 cases y with
 | ao=>cases r;rfl
 | bl b=>cases r;rfl
 | int i=>obtain⟨t,rfl⟩:=r;rfl
 | str z=>obtain⟨t,rfl⟩:=r;rfl
 | _=>exact absurd (show false=true from f) dE
theorem jH{x:V}{xs:List V}(h:Vals xs us)(f:xs.all R3=true):us.any (k6 x)=xs.any fun y=>fI y x:=by
 induction h with
 | nil=>rfl
 | cons r t ih=>
  rw[List.all_cons,gh]at f;rw[List.any_cons,List.any_cons,iY r f.1,ih f.2]
theorem aN{x:V}{v:Value}(rx:RelV x v)(fx:R3 x=true){xs:List V}(h:Vals xs us)(f:xs.all R3=true):∀u∈us,SeqAt.EqAt A s u v (k6 x u):=by
 induction h with
 | nil=>exact fun u hu=>by cases hu
 | cons r t ih=>
  intro gz hu;rw[List.all_cons,gh]at f;rcases cg hu with rfl | hu
  ·rw[iY r f.1];exact iZ r rx f.1 fx
  ·exact ih f.2 gz hu
noncomputable def tF(x:V)(xs:List V):Bool:=xs.any fun y=>fI y x
noncomputable def Jz(K:p4)(neg:Bool):R2:=fun x y H Q=>∃p xs,y=.ref p∧(c6 K H p xs∨dv K H p xs)∧R3 x=true∧xs.all R3=true∧Q (.bl (if neg then !tF x xs else tF x xs)) H
theorem uV:d5 X (compareOp .In) (Jz X.K false):=by
 intro pi s σ H x y v u Q I rx ry h;obtain⟨p,xs,rfl,hq,fx,fs,q⟩:=h;cases ry;rcases hq with hq | hq
 ·obtain⟨its,r,pl,hz⟩:=I.list hq
  refine SeqAt.in_listAt (k6 x) pl.isList (fun w hw=>aN rx fx r fs w (by simpa using hw)) ⟨.bl _,H,I,rfl,?_⟩;rw[show its.toArray.any (k6 x)=its.any (k6 x) by simp,jH r fs];exact q
 ·obtain⟨its,r,pl,hz⟩:=I.tuple hq
  refine SeqAt.in_tupleAt (k6 x) pl (fun w hw=>aN rx fx r fs w (by simpa using hw)) ⟨.bl _,H,I,rfl,?_⟩;rw[show its.toArray.any (k6 x)=its.any (k6 x) by simp,jH r fs];exact q
theorem gb.or{f:Value}{cn:List V→Hp→VK→Prop}(h:gb X f r)(h':gb X f cn):gb X f (fun xs H Q=>r xs H Q∨cn xs H Q):=by
 intro pi s σ H xs us Q I rs q;rcases q with q | q
 ·exact h pi s σ H xs us Q I rs q
 ·exact h' pi s σ H xs us Q I rs q
theorem jB:gb X (.type "list") (fun xs H Q=>∃p ys,xs=[.ref p]∧(c6 X.K H p ys∨dv X.K H p ys)∧∀l,H l=none→Q (.ref l) (upd H l (.lst ys))):=by
 intro pi s σ H xs us Q I r h;obtain⟨p,ys,rfl,hq,q⟩:=h;obtain⟨u,rfl,rx⟩:=vals1 r;cases rx;have fin:∀(its:List Value),Vals ys its→ys.length≤sizeLine→∀(h':Heap) (cw:Nat),(∀b bP,s.heap.get? b=some bP→h'.get? b=some bP)→
   h'.get? s.heap.objs.size=some { cls:=.type "list",dict:=none,data:=.seq its.toArray cw,slots:=#[] }→EP X pi σ Q (.ref s.heap.objs.size) { s with heap:=h' }:=fun its cn hz h' cw kp e=>
  ⟨.ref s.heap.objs.size,_,I.laid (t':=s.toks) kp (aT _) (show du X.prog X.w _ h' _ (.lst ys) from ⟨hz,its,cw,cn,e⟩),rfl,q _ (I.az.fresh (aT _))⟩
 rcases hq with hq | hq
 ·obtain⟨its,cn,pl,hz⟩:=I.list hq
  have hlen:=cn.length;obtain⟨o,ho,hc,n,hd⟩:=pl.isList;exact call_list_seq p (.inl rfl) ho hc hd (fun h' cw kp e=>fin its cn hz h' cw kp e) (by simp only[dr]<;>lia)
 ·obtain⟨its,cn,pl,hz⟩:=I.tuple hq
  have hlen:=cn.length;obtain⟨o,ho,hc,n,hd⟩:=pl;exact call_list_seq p (.inr rfl) ho hc hd (fun h' cw kp e=>fin its cn hz h' cw kp e) (by simp only[dr]<;>lia)
def EJ(K:p4)(T:String)(x:V)(H:Hp):Prop:=match x with
 | .str _=>T = "str"
 | .int _=>T = "int"
 | .ref p=>(T = "list"∧∃xs,c6 K H p xs)∨(T = "tuple"∧∃o,K.lookup p=some o∧o.cls=.type "tuple"∧o.dict=none)∨
   (T = "dict"∧((∃kvs,H p=some (.dK kvs))∨∃kvs,H p=some (.dT kvs)))∨(T = "set"∧∃S n,H p=some (.set S n))
 | _=>False
theorem wQ{x:V}{v:Value}(I:Inv X pi σ H s)(r:RelV x v)(ty:EJ X.K T x H):
  s.TypeIs v T∧∀a,v=.ref a→∃ob,s.heap.get? a=some ob∧ob.dict=none:=by
 cases x with
 | str z=>
  obtain⟨t,rfl⟩:=r;cases (show T = "str" from ty);exact⟨typeIs_str s z t,fun _ e=>nomatch e⟩
 | int i=>
  obtain⟨t,rfl⟩:=r;cases (show T = "int" from ty);exact⟨typeIs_int s i t,fun _ e=>nomatch e⟩
 | ref p=>
  cases r;rcases ty with ⟨rfl,xs,hq⟩ | ⟨rfl,o,hk,hc,hd⟩ | ⟨rfl,hk⟩ | ⟨rfl,S,n,hk⟩
  ·obtain⟨its,_,pl,_⟩:=I.list hq
   refine⟨pl.isList.typeIs,fun a e=>?_⟩;cases e;obtain⟨o,n,e,c,hd,_⟩:=pl;exact⟨o,e,hd⟩
  ·refine⟨⟨o,I.tJ p o hk,hc⟩,fun a e=>?_⟩
   cases e;exact⟨o,I.tJ _ o hk,hd⟩
  ·have z:∃o,s.heap.get? p=some o∧o.ExactDict:=by
    rcases hk with ⟨kvs,hk⟩ | ⟨kvs,hk⟩
    ·obtain⟨_,_,_,_,o,_,_,e,ex,_⟩:=I.az p _ hk
     exact⟨o,e,ex⟩
    ·obtain⟨_,_,_,_,o,_,_,e,ex,_⟩:=I.az p _ hk
     exact⟨o,e,ex⟩
   obtain⟨o,e,ex⟩:=z;refine⟨⟨o,e,ex.1⟩,fun a e2=>?_⟩;cases e2;exact⟨o,e,ex.2.1⟩
  ·obtain⟨o,_,_,_,e,ex,_⟩:=I.az p _ hk
   refine⟨⟨o,e,ex.1⟩,fun a e2=>?_⟩;cases e2;exact⟨o,e,ex.2.1⟩
 | _=>exact False.elim ty
noncomputable def Qy(K:p4)(T:String)(r:V→List V→Hp→VK→Prop)(to:TE):TE:=fun σ H Q=>to σ H fun x H1=>EJ K T x H1∧r x [] H1 Q
noncomputable def EH(K:p4)(T:String)(r:V→List V→Hp→VK→Prop)(to:TE)(t:TA):TE:=fun σ H Q=>to σ H fun x H1=>EJ K T x H1∧t σ H1 fun xs H2=>r x xs H2 Q
variable{es:List Expr}{to:TE}{t:TA}{id:String}{r:V→List V→Hp→VK→Prop}
theorem OL(pa:PlainAttrs T)(slot:Slot T name id)(tj:typeOf (.builtin id)=pure (.type "method_descriptor"))(hm:zj X id r)(ho:PE X o to)(g9:attributeBase o name X.env (eval o X.env)=eval o X.env:=by rfl)(ia:(apos.endLine==bS.line)=true:=by rfl):PE X (.Call (.Attribute o name apos) [] [] bS) (Qy X.K T r to):=by
 intro pi s σ H Q I h;refine wpAny_Call_method0_late g9 ia (a8 (ho pi s σ H _ I h) fun v s1 af=>?_);obtain⟨x,H1,I1,r1,ty,q1⟩:=af;obtain⟨h1,h2⟩:=wQ I1 r1 ty;exact⟨T,id,pa,slot,tj,h1,h2,Calls.callWith_builtin rfl (PySem.evalArgs_none (hm pi s1 σ H1 x [] v [] Q I1 r1 .nil q1))⟩
theorem dR(pa:PlainAttrs T)(slot:Slot T name id)(tj:typeOf (.builtin id)=pure (.type "method_descriptor"))(hm:zj X id r)(ho:PE X o to)(ha:PA X (e::es) t)(g9:attributeBase o name X.env (eval o X.env)=eval o X.env:=by rfl)(ml:((backTo bS (starEach (e::es) X.env)).all (fun x=>!x.1)&&(backToKw bS (keywordEach [] X.env)).all (fun x=>x.1.isSome)
   &&decide ((e::es).length+([]:List Keyword).length+(if ([]:List Keyword).isEmpty then 0 else 1)<30))=true:=by rfl)(ia:(apos.endLine==bS.line)=true:=by rfl)(hs:starEach (e::es) X.env=(false,eval e X.env)::starEach es X.env:=by rfl)(Uj:(backTo bS (starEach es X.env)).any (·.1)=false:=by rfl) :
  PE X (.Call (.Attribute o name apos) (e::es) [] bS) (EH X.K T r to t):=by
 intro pi s σ H Q I h;refine wpAny_Call_method_late g9 ml ia rfl (a8 (ho pi s σ H _ I h) fun v s1 af=>?_);obtain⟨x,H1,I1,r1,ty,q1⟩:=af;obtain⟨h1,h2⟩:=wQ I1 r1 ty;refine⟨T,id,pa,slot,tj,h1,h2,?_⟩;have hA:=ha bS pi s1 σ H1 _ I1 q1;rw[hs]at hA ⊢;refine Calls.callWith_builtin (by show (false||(backTo bS (starEach es X.env)).any (·.1))=false;rw[Uj]<;>rfl) (Calls.evalArgs_plain ?_);exact a8 hA fun us s2 ⟨vs,H2,I2,r2,q2⟩=>hm pi s2 σ H2 x vs v us Q I2 r1 r2 q2
end
end L2
namespace L2
open PySem PySem.Spec PyProof.Rows
def zi(X:Cx)(id:String)(r:V→List V→Hp→VK→Prop):Prop:=
 ∀(pi:List (Addr×Obj)) (s:Shared) (σ:St) (H:Hp) (x:V) (xs:List V) (v:Value) (us:List Value) (Q:VK),Inv X pi σ H s→RelV x v→Vals xs us→r x xs H Q→
  wpAny (model X.prog X.w) X.A (call (.builtin id) (v::us)) (EP X pi σ Q) X.xe s
theorem Vals.one{x:V}(h:Vals [x] us):∃u,us=[u]∧RelV x u:=by
 cases h with
 | cons r t=>cases t;exact⟨_,rfl,r⟩
theorem Vals.two{x:V}(h:Vals [x,y] us):∃u v,us=[u,v]∧RelV x u∧RelV y v:=by
 cases h with
 | cons r t=>cases t with
  | cons q t=>cases t;exact⟨_,_,rfl,r,q⟩
theorem Vals.zero:∀{us:List Value},Vals [] us→us=[]
 | _,.nil=>rfl
theorem Vals.dropLast{xs:List V}{us:List Value}(h:Vals xs us):Vals xs.dropLast us.dropLast:=by
 induction h with
 | nil=>exact .nil
 | cons r t ih=>
  cases t with
  | nil=>exact .nil
  | cons q t'=>exact .cons r ih
theorem Vals.eraseIdx:∀{xs:List V} {us:List Value} (i:Nat),Vals xs us→Vals (xs.eraseIdx i) (us.eraseIdx i)
 | _,_,_,.nil=>.nil
 | _,_,0,.cons _ t=>t
 | _,_,i+1,.cons r t=>.cons r (Vals.eraseIdx i t)
theorem Vals.reverse{xs:List V}{us:List Value}(h:Vals xs us):Vals xs.reverse us.reverse:=by
 induction h with
 | nil=>exact .nil
 | cons r t ih=>rw[List.reverse_cons,List.reverse_cons];exact Vals.append ih (.cons r .nil)
theorem pJ{α:Type}(l:List α):l.eraseIdx (l.length-1)=l.dropLast:=by
 induction l with
 | nil=>rfl
 | cons a r ih=>
  cases r with
  | nil=>rfl
  | cons b r=>
   have e:(a::b::r).length-1=((b::r).length-1)+1:=by
    have h1:(a::b::r).length=r.length+2:=rfl;have h2:(b::r).length=r.length+1:=rfl;lia
   rw[e,List.eraseIdx_cons_succ,ih]
   all_goals rfl
theorem dZ{α:Type}:∀(l:List α) (i:Nat),(l.eraseIdx i).length≤l.length
 | [],_=>aT _
 | _::_,0=>qq _
 | _::r,i+1=>Nat.succ_le_succ (dZ r i)
section
variable{l b:Addr}{xs zs:List V}
theorem Inv.AI{its':List Value}{f:Array Value→Array Value}(I:Inv X pi σ H s)(hH:H l=some (.lst xs))(e:s.heap.get? l=some { cls:=.type "list",data:=.seq its.toArray n })(hf:f its.toArray=its'.toArray)(hv:Vals ys its')(hz:ys.length≤sizeLine) :
  Inv X pi σ (upd H l (.lst ys)) { s with heap:=s.heap.update l (Obj.mapSeq f),toks:=t' }:=by
 have q:=PySem.IsL.update e f;rw[hf]at q;refine I.write (x:=l) (e:=l) (by rw[hH];exact trivial) (.inl rfl) (fun fm u hb hu=>(Heap.get?_update_other s.heap (Obj.mapSeq f) (Ne.symm hb)).trans hu) ⟨_,q⟩ ?_;exact⟨hz,its',_,hv,q⟩
theorem Inv.Jf(I:Inv X pi σ H s)(hv:Vals ys its)(hz:ys.length≤sizeLine):
  Inv X pi σ (upd H s.heap.objs.size (.lst ys)) { s with heap:=s.heap.push { cls:=.type "list",data:=.seq its.toArray },toks:=t' }:=
 I.laid (fun _ _ q=>cz _ q) (aT _) ⟨hz,its,0,hv,c8 _ rfl⟩
theorem Inv.fresh(I:Inv X pi σ H s):H s.heap.objs.size=none:=I.az.fresh (aT _)
theorem Inv.AJ(I:Inv X pi σ H s)(hH:H l=some (.lst xs)):xs.length≤sizeLine∧∃(its:List Value) (n:Nat),Vals xs its∧xs.length=its.length∧s.heap.get? l=some { cls:=.type "list",data:=.seq its.toArray n }:=by
 obtain⟨z,its,n,r,e⟩:=I.az l _ hH;exact⟨z,its,n,r,r.length,e⟩
theorem Js(h:n≤sizeLine):Builtin.List.listTooLong n=false:=by
 unfold Builtin.List.listTooLong;exact dm (by lia)
end
def gY:V→List V→Hp→VK→Prop:=fun x vs H Q=>∃l xs y,x=.ref l∧vs=[y]∧H l=some (.lst xs)∧xs.length<sizeLine∧Q .ao (upd H l (.lst (xs++[y])))
theorem X3:zi X "list.append" gY:=by
 intro pi s σ H x vs v us Q I rx rv h;obtain⟨l,xs,y,rfl,rfl,hH,hz,q⟩:=h;cases rx;obtain⟨u,rfl,ru⟩:=rv.one;obtain⟨z,its,n,r,hl,e⟩:=I.AJ hH;refine call_meets F.slot_list_append ⟨_,e,rfl⟩ F.entry_list_append (F.args_list_append_2 _ _) (PySem.list_append l its.toArray n u (by rw[dr];lia)) ⟨e,?_⟩;refine⟨.ao,_,I.AI (its':=its++[u]) hH e (by simp) (r.append (.cons ru .nil)) ?_,rfl,q⟩;rw[fN,l9];lia
def QE:V→List V→Hp→VK→Prop:=fun x vs H Q=>∃l xs y,x=.ref l∧vs=[]∧H l=some (.lst xs)∧xs[xs.length-1]?=some y∧Q y (upd H l (.lst xs.dropLast))
theorem OT:zi X "list.pop" QE:=by
 intro pi s σ H x vs v us Q I rx rv h;obtain⟨l,xs,y,rfl,rfl,hH,hy,q⟩:=h;cases rx;have UD:=rv.zero;subst UD;obtain⟨z,its,n,r,hl,e⟩:=I.AJ hH;obtain⟨u,hu,ru⟩:=r.get hy;have Ec:its.toArray[its.toArray.size-1]?=some u:=by
  show its.toArray[its.length-1]?=some u;rw[←Array.getElem?_toList,←hl];exact hu
 refine call_meets F.slot_list_pop ⟨_,e,rfl⟩ F.entry_list_pop (F.args_list_pop_1 _) (MeetsSeq.list_pop_last l its.toArray n u Ec (by rw[dr];lia)) ⟨e,?_⟩;refine⟨y,_,I.AI (its':=its.dropLast) hH e ?_ r.dropLast ?_,ru,q⟩
 ·show its.toArray.eraseIdxIfInBounds (its.toArray.size-1)=its.dropLast.toArray
  rw[dr,List.eraseIdxIfInBounds_toArray,pJ]
 ·rw[List.length_dropLast]
  lia
def Ot:V→List V→Hp→VK→Prop:=fun x vs H Q=>∃l xs i k y,x=.ref l∧vs=[.int i]∧H l=some (.lst xs)∧-(2 ^ 63)≤i∧i<2 ^ 63∧seqIndex? i xs.length=some k∧xs[k]?=some y∧Q y (upd H l (.lst (xs.eraseIdx k)))
theorem Kv:zi X "list.pop" Ot:=by
 intro pi s σ H x vs v us Q I rx rv h;obtain⟨l,xs,i,k,y,rfl,rfl,hH,h1,h2,hk,hy,q⟩:=h;cases rx;obtain⟨u,rfl,ru⟩:=rv.one;obtain⟨t,rfl⟩:=ru;obtain⟨z,its,n,r,hl,e⟩:=I.AJ hH;obtain⟨w,hw,iS⟩:=r.get hy;refine call_meets F.slot_list_pop ⟨_,e,rfl⟩ F.entry_list_pop (F.args_list_pop_2 _ _)
  (MeetsSeq.list_pop_at l its.toArray n i t k w (fitsIndex_both h1 h2) (by rw[dr,←hl];exact hk) (by rw[←Array.getElem?_toList];exact hw) (by rw[dr];lia)) ⟨e,?_⟩
 refine⟨y,_,I.AI (its':=its.eraseIdx k) hH e ?_ (r.eraseIdx k) ?_,iS,q⟩
 ·show its.toArray.eraseIdxIfInBounds k=(its.eraseIdx k).toArray
  rw[List.eraseIdxIfInBounds_toArray]
 ·have:=dZ xs k
  lia
end L2
namespace L2
open PySem PySem.Spec PyProof.Rows
section
variable{cq:Type}[DecidableEq cq]
noncomputable def K4(kvs:List (cq×V))(k:cq):Option V:=(kvs.find? fun kv=>decide (kv.1=k)).map (·.2)
noncomputable def putK(kvs:List (cq×V))(k:cq)(v:V):List (cq×V):=
 if (kvs.any fun kv=>decide (kv.1=k))=true then kvs.map (fun kv=>if kv.1=k then (kv.1,v) else kv) else kvs++[(k,v)]
theorem J7{p:cq×V}{r:List (cq×V)}{k:cq}(e:p.1=k):K4 (p::r) k=some p.2:=by simp[K4,List.find?_cons,e]
theorem HX{p:cq×V}{r:List (cq×V)}{k:cq}(e:¬p.1=k):K4 (p::r) k=K4 r k:=by simp[K4,List.find?_cons,e]
theorem RJ(k:cq):∀kvs:List (cq×V),(kvs.any fun kv=>decide (kv.1=k))=(K4 kvs k).isSome
 | []=>rfl
 | p::r=>by
  rw[List.any_cons]
  by_cases e:p.1=k
  ·simp only[J7 e,dk e,Bool.true_or,Option.isSome_some]
  ·rw[HX e,dm e,Bool.false_or];exact RJ k r
theorem jL(k j:cq)(y:V):∀kvs:List (cq×V),K4 (kvs.map fun kv=>if kv.1=k then (kv.1,y) else kv) j=(K4 kvs j).map fun x=>if j=k then y else x
 | []=>rfl
 | p::r=>by
  have ih:=jL k j y r;rw[ck]
  by_cases h:p.1=k
  ·rw[ag h]
   by_cases e:p.1=j
   ·rw[J7 (p:=(p.1,y)) e,J7 e,i8,ag (e.symm.trans h)]
   ·rw[HX (p:=(p.1,y)) e,HX e,ih]
  ·rw[ai h]
   by_cases e:p.1=j
   ·rw[J7 (p:=p) e,J7 e,i8,ai (fun z=>h (e.trans z))]
   ·rw[HX (p:=p) e,HX e,ih]
theorem d8(k j:cq)(y:V):∀kvs:List (cq×V),K4 kvs k=none→K4 (kvs++[(k,y)]) j=if j=k then some y else K4 kvs j
 | [],_=>by
  by_cases e:k=j
  ·rw[ag e.symm];exact J7 (p:=(k,y)) e
  ·rw[ai (fun z=>e z.symm)];exact HX (p:=(k,y)) e
 | p::r,hn=>by
  rw[List.cons_append];have hk:¬p.1=k:=fun z=>by rw[J7 z]at hn;cases hn
  rw[HX hk]at hn;have ih:=d8 k j y r hn
  by_cases e:p.1=j
  ·rw[J7 e,J7 e,ai (fun z=>hk (e.trans z))]
  ·rw[HX e,HX e,ih]
theorem wM(kvs:List (cq×V))(k j:cq)(y:V):K4 (putK kvs k y) j=if j=k then some y else K4 kvs j:=by
 unfold putK
 by_cases a:(kvs.any fun kv=>decide (kv.1=k))=true
 ·rw[ag a,jL]
  rw[RJ]at a
  by_cases e:j=k
  ·obtain⟨x,hx⟩:=Option.isSome_iff_exists.mp a
   rw[ag e,e,hx,i8,ag rfl]
  ·rw[ai e]
   cases K4 kvs j with
   | none=>rfl
   | some x=>rw[i8,ai e]
 ·rw[ai a]
  refine d8 k j y kvs ?_;rw[RJ]at a;cases q:K4 kvs k with
  | none=>rfl
  | some x=>rw[q]at a;exact(a rfl).elim
theorem RZ(kvs:List (cq×V))(k:cq)(v:V):(putK kvs k v).length≤kvs.length+1:=by
 unfold putK;split
 ·rw[a9];lia
 ·rw[fN,kn,List.length_nil];lia
theorem kS.Eg{o:Option V}{u:Option Value}(r:kS o u):o.isSome=u.isSome:=by
 cases o with
 | none=>cases u with
  | none=>rfl
  | some _=>exact(show False from r).elim
 | some _=>cases u with
  | none=>exact(show False from r).elim
  | some _=>rfl
theorem kS.getD{o:Option V}{u:Option Value}{d:V}{d':Value}(r:kS o u)(rd:RelV d d'):RelV (o.getD d) (u.getD d'):=by
 cases o with
 | none=>cases u with
  | none=>exact rd
  | some _=>exact(show False from r).elim
 | some _=>cases u with
  | none=>exact(show False from r).elim
  | some _=>exact r
theorem KV.val{kvs:List (cq×V)}{vs:List (cq×Value)}(r:KV kvs vs)(k:cq):kS (K4 kvs k) (valueAt vs k):=by
 unfold KV at r
 induction r with
 | nil=>exact True.intro
 | @cons p q ps qs h t ih=>
  obtain⟨h1,h2⟩:=h
  by_cases e:p.1=k
  ·have aI:q.1=k:=h1.symm.trans e
   have b:valueAt (q::qs) k=some q.2:=by simp[valueAt,List.find?_cons,aI]
   rw[J7 e,b];exact h2
  ·have aI:¬q.1=k:=fun z=>e (h1.trans z)
   have b:valueAt (q::qs) k=valueAt qs k:=by simp[valueAt,List.find?_cons,aI]
   rw[HX e,b];exact ih
theorem KV.any{kvs:List (cq×V)}{vs:List (cq×Value)}(r:KV kvs vs)(k:cq):(kvs.any fun kv=>decide (kv.1=k))=vs.any fun kv=>decide (kv.1=k):=by
 unfold KV at r
 induction r with
 | nil=>rfl
 | cons h t ih=>rw[List.any_cons,List.any_cons,ih,h.1]
theorem KV.EA{kvs:List (cq×V)}{vs:List (cq×Value)}(r:KV kvs vs)(k:cq)(ry:RelV y u):
  KV (kvs.map fun kv=>if kv.1=k then (kv.1,y) else kv) (vs.map fun kv=>if kv.1=k then (kv.1,u) else kv):=by
 unfold KV at r ⊢
 induction r with
 | nil=>exact .nil
 | @cons p q ps qs h t ih=>
  rw[ck,ck];refine .cons ?_ ih;obtain⟨h1,h2⟩:=h
  by_cases e:p.1=k
  ·rw[ag e,ag (h1.symm.trans e)];exact⟨h1,ry⟩
  ·rw[ai e,ai (fun z=>e (h1.trans z))];exact⟨h1,h2⟩
theorem KV.put{kvs:List (cq×V)}{vs:List (cq×Value)}(r:KV kvs vs)(k:cq)(ry:RelV y u):KV (putK kvs k y) (stored vs k u):=by
 unfold putK stored;rw[r.any k]
 by_cases e:(vs.any fun kv=>decide (kv.1=k))=true
 ·rw[ag e,ag e];exact r.EA k ry
 ·rw[ai e,ai e];exact Paired.snoc r ⟨rfl,ry⟩
theorem KV.keys{kvs:List (cq×V)}{vs:List (cq×Value)}(r:KV kvs vs):kvs.map (·.1)=vs.map (·.1):=by
 unfold KV at r
 induction r with
 | nil=>rfl
 | cons h t ih=>rw[ck,ck,ih,h.1]
theorem KV.length{kvs:List (cq×V)}{vs:List (cq×Value)}(r:KV kvs vs):kvs.length=vs.length:=Paired.length r
end
theorem aR{k:Key}(r:RelV (kV k) u):(CQ P w).is k u=true:=by
 cases k with
 | inl i=>obtain⟨t,e⟩:=(show ∃t,u=Value.int i t from r);subst e;exact lK P w i t
 | inr x=>obtain⟨t,e⟩:=(show ∃t,u=Value.str x t from r);subst e;exact lJ P w x t
theorem eF{P:Program}{w:World}:∀{ks:List Key} {us:List Value},Vals (ks.map kV) us→ItemsAre (CQ P w) ks us
 | [],_,r=>by rw[List.map_nil]at r;cases r;exact .nil
 | k::ks,_,r=>by
  rw[ck]at r;cases r with
  | cons h t=>exact .cons (aR h) (eF t)
noncomputable abbrev KT (H:Hp):List (List Key×V)→List (List Key×Addr×Value)→Prop:=Paired fun p q=>p.1=q.1∧H q.2.1=some (.tup (p.1.map kV))∧RelV p.2 q.2.2
theorem KT.val{kvs:List (List Key×V)}{xs:List (List Key×Addr×Value)}(r:KT H kvs xs)(k:List Key):kS (K4 kvs k) ((atKey xs k).map (·.2)):=by
 induction r with
 | nil=>exact True.intro
 | @cons p q ps qs h t ih=>
  obtain⟨h1,_,h2⟩:=h
  by_cases e:p.1=k
  ·have aI:q.1=k:=h1.symm.trans e
   have b:atKey (q::qs) k=some q.2:=by simp[atKey,List.find?_cons,aI]
   rw[J7 e,b];exact h2
  ·have aI:¬q.1=k:=fun z=>e (h1.trans z)
   have b:atKey (q::qs) k=atKey qs k:=by simp[atKey,List.find?_cons,aI]
   rw[HX e,b];exact ih
theorem KT.EA{kvs:List (List Key×V)}{xs:List (List Key×Addr×Value)}(r:KT H kvs xs)(k:List Key)(ry:RelV y u):
  KT H (kvs.map fun kv=>if kv.1=k then (kv.1,y) else kv) (xs.map (putAt k u)):=by
 induction r with
 | nil=>exact .nil
 | @cons p q ps qs h t ih=>
  rw[ck,ck];refine .cons ?_ ih;obtain⟨h1,h2,h3⟩:=h;unfold putAt
  by_cases e:p.1=k
  ·rw[ag e,ag (h1.symm.trans e)];exact⟨h1,h2,ry⟩
  ·rw[ai e,ai (fun z=>e (h1.trans z))];exact⟨h1,h2,h3⟩
theorem KT.put{kvs:List (List Key×V)}{xs:List (List Key×Addr×Value)}(r:KT H kvs xs)(k:List Key){b:Addr}(hb:H b=some (.tup (k.map kV)))(ry:RelV y u):
  KT H (putK kvs k y) (storedH xs k b u):=by
 have e:(kvs.any fun kv=>decide (kv.1=k))=(atKey xs k).isSome:=by
  rw[RJ,(r.val k).Eg,Option.isSome_map]
 unfold putK storedH;rw[e]
 by_cases q:(atKey xs k).isSome=true
 ·rw[ag q,ag q];exact r.EA k ry
 ·rw[ai q,ai q];exact Paired.snoc r ⟨rfl,hb,ry⟩
theorem KT.keeps{kvs:List (List Key×V)}{xs:List (List Key×Addr×Value)}(r:KT H kvs xs)(ht:∀b ys,H b=some (.tup ys)→aa b=some (.tup ys)):KT aa kvs xs:=
 Paired.AM r fun _ _ z=>⟨z.1,ht _ _ z.2.1,z.2.2⟩
theorem FD{u:HO}(ok:eg P w H h)(e:Rd H a u):du P w H h a u:=e.ok ok
theorem S5(ok:eg P w H h)(e:Rd H a (.dK kvs)):kvs.length≤sizeLine∧(a==sysModules)=false∧∃vs,KV kvs vs∧h.DictOf (CQ P w) a vs:=
 show du P w H h a (.dK kvs) from FD ok e
theorem FV(ok:eg P w H h)(e:H a=some (.dK kvs)):kvs.length≤sizeLine∧(a==sysModules)=false∧∃vs,KV kvs vs∧h.DictOf (CQ P w) a vs:=S5 ok (.inl e)
theorem aP(ok:eg P w H h)(e:H a=some (.tup (ks.map kV))):(tupleKind (CQ P w)).is h ks a:=by
 obtain⟨_,its,r,o,h1,h2,n,h3⟩:=(show du P w H h a (.tup (ks.map kV)) from ok a _ e)
 exact⟨o,its.toArray,n,h1,h2,h3,by simpa using eF r⟩
theorem eO{kvs:List (List Key×V)}(ok:eg P w H h)(e:Rd H a (.dT kvs)):kvs.length≤sizeLine∧(a==sysModules)=false∧
  ∃xs,KT H kvs xs∧h.DictOfH (tupleKind (CQ P w)) a xs:=by
 obtain⟨z,y,xs,r,o,es,ep,h1,h2,h3,h4,h5⟩:=(show du P w H h a (.dT kvs) from FD ok e)
 refine⟨z,y,xs,r,o,es,ep,h1,h2,h3,h4,fun x hx=>?_,h5⟩;have all:∀{l:List (List Key×V)} {m:List (List Key×Addr×Value)},KT H l m→∀x∈m,(tupleKind (CQ P w)).is h x.1 x.2.1:=by
  intro l m q
  induction q with
  | nil=>intro x hx;exact nomatch hx
  | @cons p q ps qs hq t ih=>
   intro x hx;rcases cg hx with e | hx
   ·subst e
    exact aP ok (by rw[←hq.1];exact hq.2.1)
   ·exact ih x hx
 exact all r x hx
theorem Qq{kvs:List (List Key×V)}(ok:eg P w H h)(e:H a=some (.dT kvs)):kvs.length≤sizeLine∧(a==sysModules)=false∧
  ∃xs,KT H kvs xs∧h.DictOfH (tupleKind (CQ P w)) a xs:=eO ok (.inl e)
def jq(H:Hp)(a:Addr)(y:V)(r:Option V):Prop:=
 (∃kvs k,Rd H a (.dK kvs)∧y=kV k∧r=K4 kvs k)∨∃kvs k b,Rd H a (.dT kvs)∧y=.ref b∧H b=some (.tup (k.map kV))∧r=K4 kvs k
def vx(H:Hp)(a:Addr)(y v:V)(aa:Hp):Prop:=
 (∃kvs k,H a=some (.dK kvs)∧y=kV k∧kvs.length<sizeLine∧aa=upd H a (.dK (putK kvs k v)))∨
 ∃kvs k b,H a=some (.dT kvs)∧y=.ref b∧H b=some (.tup (k.map kV))∧kvs.length<sizeLine∧aa=upd H a (.dT (putK kvs k v))
theorem jq.k{H:Hp}{a:Addr}{kvs:List (Key×V)}{k:Key}(e:H a=some (.dK kvs)):jq H a (kV k) (K4 kvs k):=.inl ⟨kvs,k,.inl e,rfl,rfl⟩
theorem vx.k{H:Hp}{a:Addr}{kvs:List (Key×V)}{k:Key}{v:V}(e:H a=some (.dK kvs))(hl:kvs.length<sizeLine):vx H a (kV k) v (upd H a (.dK (putK kvs k v))):=.inl ⟨kvs,k,e,rfl,hl,rfl⟩
section
variable{v:V}{r:Value}{o:Option V}
theorem Inv.big(I:Inv X pi σ H s):sysModules<s.heap.objs.size:=by
 have h:mainGlobals<s.heap.objs.size:=(I.mod.glob.keeps I.bk).lt;exact Nat.lt_trans (by decide) h
theorem vQ(hu:A.units+1<cLine)(I:Inv X pi σ H s)(g:jq H a y (some v))(ry:RelV y u)(h:∀gk s',Inv X pi σ H s'→RelV v gk→Q gk s'):
  wpAny (model X.prog X.w) A (getItem (.ref a) u) Q E s:=by
 rcases g with ⟨kvs,k,e,ey,l⟩ | ⟨kvs,k,b,e,ey,eb,l⟩
 ·subst ey
  obtain⟨z,hd,vs,rel,dd⟩:=S5 I.az e;obtain⟨gk,hw,iS⟩:=kS.some_of (v:=v) (o:=valueAt vs k) (by rw[l];exact rel.val k);exact wpAny_getItem_of (aR ry) dd.mapOf hw (h gk _ (I.tok _) iS)
 ·subst ey
  cases (show u=Value.ref b from ry);obtain⟨z,hd,xs,rel,dd⟩:=eO I.az e;obtain⟨gk,hw,iS⟩:=kS.some_of (v:=v) (o:=(atKey xs k).map (·.2)) (by rw[l];exact rel.val k);obtain⟨p,hp,DV⟩:=b5 hw;refine wpAny_getItem_heap (tupleKind_room_in1 hu) (aP I.az eb) dd hp ?_;rw[DV];exact h gk _ (I.tok _) iS
theorem Nm(hu:A.units+1<cLine)(I:Inv X pi σ H s)(g:jq H a y o)(ry:RelV y u)(h:∀s',Inv X pi σ H s'→Q (.bool (!o.isSome)) s'):
  wpAny (model X.prog X.w) A (compareOp .NotIn u (.ref a)) Q E s:=by
 rcases g with ⟨kvs,k,e,ey,l⟩ | ⟨kvs,k,b,e,ey,eb,l⟩
 ·subst ey
  obtain⟨z,hd,vs,rel,dd⟩:=S5 I.az e;refine wpAny_notIn_of (aR ry) hd dd.mapOf ?_;rw[←(rel.val k).Eg,←l];exact h _ (I.tok _)
 ·subst ey
  cases (show u=Value.ref b from ry);obtain⟨z,hd,xs,rel,dd⟩:=eO I.az e;refine wpAny_notIn_heap (tupleKind_room_in1 hu) (aP I.az eb) hd dd ?_;have q:=(rel.val k).Eg;rw[Option.isSome_map]at q;rw[←q,←l];exact h _ (I.tok _)
theorem zr{ob:HO}(I:Inv X pi σ H s)(mu:vT (H a))(hs:Heap.SameBut a s.heap h')(he:∃q,h'.get? a=some q)(new:du X.prog X.w (upd H a ob) h' a ob):
  Inv X pi σ (upd H a ob) { s with heap:=h',toks:=t' }:=
 I.write (x:=a) (e:=a) mu (.inl rfl) (fun b q hb z=>(hs.2 b hb).trans z) he new
theorem j4{vs:List (Key×Value)}(z:kvs.length≤sizeLine)(hd:(a==sysModules)=false)(rel:KV kvs vs)(dd:h'.DictOf (CQ P w) a vs):
  du P w aa h' a (.dK kvs):=⟨z,hd,vs,rel,dd⟩
theorem vP{Q:Unit→Shared→Prop}(hu:A.units+1<cLine)(I:Inv X pi σ H s)(g:vx H a y v aa)(ry:RelV y u)(rv:RelV v r)(h:∀s',Inv X pi σ aa s'→Q () s'):
  wpAny (model X.prog X.w) A (setItem (.ref a) u r) Q E s:=by
 rcases g with ⟨kvs,k,e,ey,l,eH⟩ | ⟨kvs,k,b,e,ey,eb,l,eH⟩
 ·subst ey eH
  obtain⟨z,hd,vs,rel,dd⟩:=FV I.az e;have hz:vs.length≤sizeLine:=by rw[←rel.length];exact z
  have hl:(putK kvs k v).length≤sizeLine:=by have:=RZ kvs k v;lia
  refine wpAny_setItem_pairs (hsz:=hz) (aR ry) dd fun h' nI hs=>h _ ?_
  have he:∃q,h'.get? a=some q:=let ⟨q,_,_,hq,_⟩:=nI;⟨q,hq⟩
  exact zr I (by rw[e];exact True.intro) hs he (j4 hl hd (rel.put k rv) nI)
 ·subst ey eH
  cases (show u=Value.ref b from ry);obtain⟨z,hd,xs,rel,dd⟩:=Qq I.az e;have hz:xs.length≤sizeLine:=by rw[←Paired.length rel];exact z
  have hl:(putK kvs k v).length≤sizeLine:=by have:=RZ kvs k v;lia
  refine wpAny_setItem_heap (hsz:=hz) (tupleKind_room_in1 hu) (aP I.az eb) dd fun h' nI hs=>h _ ?_
  obtain⟨q,es,ep,hq,h2,h3,h4,_,h5⟩:=nI;refine zr I (by rw[e];exact True.intro) hs ⟨q,hq⟩ ⟨hl,hd,_,(rel.put k eb rv).keeps fun c ys ec=>?_,q,es,ep,hq,h2,h3,h4,h5⟩;rw[CK (Qg ec e (fun z=>nomatch z))];exact ec
end
section
variable{k:Key}
theorem Qs(I:Inv X pi σ H s)(e:Rd H a (.dK kvs))(h:∀t s',Inv X pi σ H s'→Q (.int kvs.length t) s'):wpAny (model X.prog X.w) A (call (.builtin "len") [.ref a]) Q E s:=by
 obtain⟨z,hd,vs,rel,dd⟩:=S5 I.az e;refine call_len_dict hd dd (by rw[←rel.length];rw[eI]at z;lia) ?_;rw[←rel.length];exact h _ _ (I.tok _)
end
def BD(i:Expr):Prop:=∀ov iv,subscripted i false ov iv=operate [ov,iv] (getItem ov iv)
theorem Ln{env:Env}{value slice:Expr}{id:String}(hl:typeLookup (.type T) "__getitem__" = pure (some (.builtin id)))(hs:BD slice)(h:wpAny (model prog w) A (eval value env) (fun o bc=>wpAny (model prog w) A (eval slice env) (fun i cx=>cx.TypeIs o T∧wpAny (model prog w) A (getItem o i) Q E cx) E bc) E s) :
  wpAny (model prog w) A (eval (.Subscript value slice pos) env) Q E s:=by
 refine Subscript_ (fb h (fun o bc h₁=>fb h₁ (fun i cx qb=>?_) fun _ _ x=>x) fun _ _ x=>x);obtain⟨hT,qb⟩:=qb;unfold subscriptTail;refine ab ?_;rw[getitemInPython_of_ne hT.not_modules];refine ab (wpAny_specialOf hT hl ?_);have fin:wpAny (model prog w) A (subscripted slice false o i) (fun r dC=>wpAny (model prog w) A (letTemporaryGo value o r >>= fun _=>pure r) Q E dC) E cx:=by
  rw[hs o i];exact wpAny_operating (fb qb (fun r dC AE=>ab (wpAny_letTemporaryGo (ah AE))) fun _ _ x=>x)
 first
  | exact ah (ab fin)
  | exact ab (ah (ab fin))
  | exact ab fin
theorem lY{o:Option V}(I:Inv X pi σ H s)(g:jq H a y o):s.TypeIs (.ref a) "dict":=by
 rcases g with ⟨kvs,k,e,_,_⟩ | ⟨kvs,k,b,e,_,_,_⟩
 ·obtain⟨_,_,vs,_,dd⟩:=S5 I.az e
  exact dd.typeIs
 ·obtain⟨_,_,xs,_,dd⟩:=eO I.az e
  exact dd.typeIs
noncomputable def xO(td ty:TE):TE:=fun σ H Q=>td σ H fun x H1=>ty σ H1 fun y H2=>∃a v,x=.ref a∧jq H2 a y (some v)∧Q v H2
noncomputable def fZ(ty td:TE):TE:=fun σ H Q=>ty σ H fun y H1=>td σ H1 fun x H2=>∃a o,x=.ref a∧jq H2 a y o∧Q (.bl (!o.isSome)) H2
noncomputable def qO(td ty tv:TE):TS:=fun D σ H=>tv σ H fun v H1=>td σ H1 fun x H2=>ty σ H2 fun y H3=>∃a H4,x=.ref a∧vx H3 a y v H4∧D.nx σ H4
section
variable{i value:Expr}{WN:Pos}{ty tv:TE}
theorem qZ(hu:X.A.units+1<cLine)(ho:PE X o td)(hi:PE X i ty)(hs:BD i):PE X (.Subscript o i pos) (xO td ty):=by
 intro pi s σ H Q I h;refine Ln PySem.F.slot_dict_getitem.lookup hs (a8 (ho pi s σ H _ I h) fun u s1 ⟨x,H1,I1,rx,q1⟩=>a8 (hi pi s1 σ H1 _ I1 q1) fun iv s2 af=>?_);obtain⟨y,H2,I2,ry,a,v,ex,g,q2⟩:=af;subst ex;obtain rfl:u=Value.ref a:=rx;exact⟨lY I2 g,vQ hu I2 g ry fun gk s3 I3 iS=>⟨v,H2,I3,iS,q2⟩⟩
theorem dU(hu:X.A.units+1<cLine)(hi:PE X i ty)(ho:PE X o td):PC X .NotIn i o (fZ ty td):=by
 intro pi s σ H Q I h;refine a8 (hi pi s σ H _ I h) fun iv s1 ⟨y,H1,I1,ry,q1⟩=>a8 (ho pi s1 σ H1 _ I1 q1) fun u s2 af=>?_
 obtain⟨x,H2,I2,rx,a,ov,ex,g,q2⟩:=af;subst ex;obtain rfl:u=Value.ref a:=rx;exact Nm hu I2 g ry fun s3 I3=>⟨.bl (!ov.isSome),H2,I3,rfl,q2⟩
theorem qW(hu:X.A.units+1<cLine)(ho:PE X o td)(hi:PE X i ty)(hv:PE X value tv)(hs:swapsWith value (some (.Subscript o i pos')) pos.line X.env=pure false):
  PS X (.Assign [.Subscript o i pos'] value pos) (qO td ty tv):=by
 intro pi s σ H D I h;refine wpAny_Assign_Subscript (a8 (hv pi s σ H _ I h) fun r s1 ⟨v,H1,I1,rv,q1⟩=>a8 (ho pi s1 σ H1 _ I1 q1) fun u s2 ⟨x,H2,I2,rx,q2⟩=>a8 (hi pi s2 σ H2 _ I2 q2) fun iv s3 af=>?_) hs;obtain⟨y,H3,I3,ry,a,H4,ex,g,q3⟩:=af;subst ex;obtain rfl:u=Value.ref a:=rx;exact vP hu I3 g ry rv fun s4 I4=>⟨σ,H4,I4,q3⟩
end
theorem K0(h:Heap)(hb:sysModules<h.objs.size):du P w H (h.push { cls:=.type "dict",data:=.dict #[] }) h.objs.size (.dK []):=
 ⟨eM _,beq_eq_false_iff_ne.mpr (Ne.symm (b0 hb)),[],.nil,Heap.DictOf.new h⟩
theorem KW(h:Heap)(hb:sysModules<h.objs.size):du P w H (h.push { cls:=.type "dict",data:=.dict #[] }) h.objs.size (.dT []):=
 ⟨eM _,beq_eq_false_iff_ne.mpr (Ne.symm (b0 hb)),[],.nil,_,#[],0,c8 _ rfl,⟨rfl,rfl,rfl⟩,rfl,rfl,nB⟩
noncomputable def xK:TE:=fun _ H Q=>∀p,H p=none→Q (.ref p) (upd H p (.dK []))
theorem kJ:PE X (.Dict [] [] pos) xK:=fun pi s σ H Q I h=>
 wpAny_Dict_empty ⟨.ref s.heap.objs.size,_,I.laid (a:=s.heap.objs.size) (o:=.dK []) (t':=s.toks) (fun _ _ q=>cz _ q) (aT _) (K0 s.heap I.big),rfl,h _ (I.az.fresh (aT _))⟩
noncomputable def JN(kvs more:List (Key×V)):List (Key×V):=more.foldl (fun acc kv=>putK acc kv.1 kv.2) kvs
theorem KV.merge:∀{more:List (Key×V)} {rs:List (Key×Value)} {kvs:List (Key×V)} {vs:List (Key×Value)},KV more rs→KV kvs vs→KV (JN kvs more) (merged vs rs):=by
 intro more rs kvs vs r;unfold KV at r
 induction r generalizing kvs vs with
 | nil=>intro q;exact q
 | @cons p q ps qs h t ih=>
  intro r0;have e:KV (putK kvs p.1 p.2) (stored vs q.1 q.2):=by
   have:=r0.put p.1 h.2;rw[←h.1];exact this
  exact ih e
theorem KZ:∀(more kvs:List (Key×V)),(JN kvs more).length≤kvs.length+more.length
 | [],kvs=>by show kvs.length≤kvs.length+0;lia
 | p::r,kvs=>by
  have h1:=KZ r (putK kvs p.1 p.2);have h2:=RZ kvs p.1 p.2;show (JN (putK kvs p.1 p.2) r).length≤_;rw[kn];lia
structure M1(X:Cx)(o:Expr)(m:Str)(apos:Pos)(e:Expr)(bS:Pos):Prop where
 base:attributeBase o m X.env (eval o X.env)=eval o X.env
 CS:((backTo bS (starEach [e] X.env)).all (fun x=>!x.1)&&(backToKw bS (keywordEach [] X.env)).all (fun x=>x.1.isSome)
  &&decide (([e]:List Expr).length+([]:List Keyword).length+(if ([]:List Keyword).isEmpty then 0 else 1)<30))=true
 line:(apos.endLine==bS.line)=true
 trees:backTo bS (starEach [e] X.env)=[(false,eval e X.env)]
structure M2(X:Cx)(o:Expr)(m:Str)(apos:Pos)(e f:Expr)(bS:Pos):Prop where
 base:attributeBase o m X.env (eval o X.env)=eval o X.env
 CS:((backTo bS (starEach [e,f] X.env)).all (fun x=>!x.1)&&(backToKw bS (keywordEach [] X.env)).all (fun x=>x.1.isSome)
  &&decide (([e,f]:List Expr).length+([]:List Keyword).length+(if ([]:List Keyword).isEmpty then 0 else 1)<30))=true
 line:(apos.endLine==bS.line)=true
 trees:backTo bS (starEach [e,f] X.env)=[(false,eval e X.env),(false,eval f X.env)]
def BO(H:Hp)(a:Addr):Prop:=(∃kvs,Rd H a (.dK kvs))∨∃kvs,Rd H a (.dT kvs)
theorem pB(I:Inv X pi σ H s)(d:BO H a):
  s.TypeIs (.ref a) "dict"∧(∀b,Value.ref a=.ref b→∃ob,s.heap.get? b=some ob∧ob.dict=none)∧(a==sysModules)=false:=by
 rcases d with ⟨kvs,e⟩ | ⟨kvs,e⟩
 ·obtain⟨_,hd,vs,_,dd⟩:=S5 I.az e
  refine⟨dd.typeIs,fun b q=>?_,hd⟩;cases q;obtain⟨ob,_,_,h1,h2,_⟩:=dd;exact⟨ob,h1,h2.2.1⟩
 ·obtain⟨_,hd,xs,_,dd⟩:=eO I.az e
  refine⟨dd.typeIs,fun b q=>?_,hd⟩;cases q;obtain⟨ob,_,_,h1,h2,_⟩:=dd;exact⟨ob,h1,h2.2.1⟩
section
variable{d:V}{r:Value}{o:Option V}
theorem Pm(hu:A.units+1<cLine)(I:Inv X pi σ H s)(g:jq H a y o)(ry:RelV y u)(rd:RelV d r)(h:∀gk s',Inv X pi σ H s'→RelV (o.getD d) gk→Q gk s'):
  wpAny (model X.prog X.w) A (call (.builtin "dict.get") [.ref a,u,r]) Q E s:=by
 rcases g with ⟨kvs,k,e,ey,l⟩ | ⟨kvs,k,b,e,ey,eb,l⟩
 ·subst ey
  obtain⟨z,hd,vs,rel,dd⟩:=S5 I.az e;refine call_meetsIn PySem.F.slot_dict_get dd.typeIs PySem.F.entry_dict_get (PySem.F.args_dict_get_3 _ _ _) (meets_dict_get_default (CQ X.prog X.w) a (aR ry) hd r) ⟨_,dd.mapOf,h _ _ (I.tok _) ?_⟩;rw[l];exact(rel.val k).getD rd
 ·subst ey
  cases (show u=Value.ref b from ry);obtain⟨z,hd,xs,rel,dd⟩:=eO I.az e;refine call_meetsIn PySem.F.slot_dict_get dd.typeIs PySem.F.entry_dict_get (PySem.F.args_dict_get_3 _ _ _) (meetsH_dict_get_default (tupleKind (CQ X.prog X.w)) a b hd r) ⟨tupleKind_room_in1 hu,k,xs,aP I.az eb,dd,h _ _ (I.tok _) ?_⟩;rw[l];exact(rel.val k).getD rd
end
noncomputable def NV(td ty tx:TE):TE:=fun σ H Q=>td σ H fun x H1=>∃a,x=.ref a∧BO H1 a∧ty σ H1 fun y H2=>tx σ H2 fun z H3=>∃o,jq H3 a y o∧Q (o.getD z) H3
section
variable{f:Expr}{ty tx:TE}
theorem zT(hu:X.A.units+1<cLine)(ho:PE X o td)(he:PE X e ty)(hf:PE X f tx)(m:M2 X o "get" apos e f bS):PE X (.Call (.Attribute o "get" apos) [e,f] [] bS) (NV td ty tx):=by
 intro pi s σ H Q I h;refine wpAny_Call_method m.base m.CS m.line PySem.F.plainAttrs_dict PySem.F.slot_dict_get PySem.F.type_dict_get (a8 (ho pi s σ H _ I h) fun u s1 af=>?_);obtain⟨x,H1,I1,rx,a,ex,d,q1⟩:=af;subst ex;obtain rfl:u=Value.ref a:=rx;obtain⟨t1,t2,_⟩:=pB I1 d;refine⟨t1,t2,?_⟩;rw[m.trees];refine Calls.callWith_builtin rfl (Calls.evalArgs_plain (qy (a8 (he pi s1 σ H1 _ I1 q1) fun iv s2 ⟨y,H2,I2,ry,q2⟩=>
  qy (a8 (hf pi s2 σ H2 _ I2 q2) fun fv s3 ⟨z,H3,I3,rz,ov,g,q3⟩=>sj ?_))))
 exact Pm hu I3 g ry rz fun gk s4 I4 iS=>⟨_,H3,I4,iS,q3⟩
end
end L2
namespace ni
open PySem PySem.W PySem.Calls PyProof.Rows
theorem YL{P:Params}:∀(ns:List Int) (vs:List Value),WellAll P h vs (ns.map WData.int)→IntsAre vs ns:=by
 intro ns
 induction ns with
 | nil=>
  intro vs w;rw[List.map_nil]at w;cases w;exact .nil
 | cons n ns ih=>
  intro vs w;rw[ck]at w;cases w with
  | cons a b=>
   cases a;exact .cons _ _ (ih _ b)
theorem uN{l:OpenLaw}(hn:l.most=some n){P:Params}{args:List WData}{vals:List Value}(Aw:l.row.toRowW.claim.pre args=true)(xI:WellAll P h vals args) :
  ∃a vs ns,vals=[Value.ref a]∧args=[WData.list (ns.map WData.int)]∧h.get? a=some { cls:=.type "list",data:=.seq vs.toArray }∧IntsAre vs ns∧ns.length≤n:=by
 have Uw:WShape.hasAll [] args [.list .int]=true:=(pre_splitW Aw).1;have hc:l.pre.holds [] { args:=args }=true:=(pre_splitW Aw).2;obtain⟨d,r,rfl,h1,h2⟩:=hasAllW_cons Uw;obtain rfl:=hasAllW_nil h2;obtain⟨xs,rfl,h3⟩:=hasW_list h1;obtain⟨ns,rfl⟩:=items_int h3;have hlen:ns.length≤n:=by
  unfold OpenLaw.pre at hc;have h4:(WTm.not (.lt (.lit (.int (n:Int))) (.len (.arg 0)))).holds [] { args:=[.list (ns.map .int)] }=true:=by
   have h4:=(holds_andW hc).1;rw[hn]at h4;exact h4
  have h5:=condW_of h4 (w_not (w_lt w_lit (w_len_list (w_arg rfl))));rw[a9]at h5;refine Nat.le_of_not_lt fun q=>?_
  have dj:(n:Int)<((ns.length:Nat):Int):=by omega
  first
   | (rw[dk dj]at h5;exact absurd h5 (by decide))
   | (simp at h5;omega)
 cases xI with
 | cons w1 w2=>
  cases w2;cases w1 with
  | list ho Ae=>exact⟨_,_,ns,rfl,rfl,ho,YL ns _ Ae,hlen⟩
theorem uO(l:OpenLaw)(args:List WData):l.row.toRowW.claim.post args (.bool true) args=true:=
 postW_of (r:=l.row.toRowW) (X:=(true==true))
  (show WShape.has [] (.bool true) .bool=true by first | rfl | decide | simp[WShape.has,WShape.arms,WShape.armsAll])
  (show (WTm.eq .res (.lit (.bool true))).value [] { args:=args,res:=some (.bool true),after:=args }=some (.bool (true==true)) from w_eq_bool (w_res rfl) w_lit) rfl
theorem Rn{l:OpenLaw}{q:Program}{d:DefRec}(hn:l.most=some n)(xo:d.params.defaults=[])(call:∀(w:World) (b7 bc:Shared) (mg mb:Str→Option Value) (fa:Addr) (o:Obj) (pm cd doc:Value) (a:Addr) (vs:List Value) (ns:List Int),
   Ground q loose [] XP w b7 mg mb bc.heap→YP w bc.heap→
   bc.heap.get? fa=some o→o.data=.func (docDef d.name d.params d.body d.scope pm cd doc)→bc.heap.CodeRec cd d.name→mg d.name=some (.ref fa)→
   bc.heap.get? a=some { cls:=.type "list",data:=.seq vs.toArray }→IntsAre vs ns→ns.length≤n→bc.gens=#[]→
   codeAny (model l.prog w) callerA (.call (.ref fa) ⟨[.ref a],[]⟩) (fun r s'=>r=.ok (.ret (.bool true))∧OldK bc.heap s'.heap∧s'.os=bc.os∧AllBare s'.gens) bc) :
  WalkO q loose XP YP l.row.toRowW d [] (fun f vs=>PySem.call f vs):=by
 intro w b7 bc mg mb G Y fa o pm cd doc dV kV ho hd jj hD hmg hg args vals as Aw q5 Yt xI Yk;obtain rfl:dV=.none:=Dflts.none hD xo;obtain rfl:kV=.none:=Dflts.noKw hD;obtain⟨a,vs,ns,rfl,rfl,DU,hints,hlen⟩:=uN hn Aw xI;refine enter_call (wz (call w b7 bc mg mb fa o pm cd doc a vs ns G Y ho (fd_plain hd) jj hmg DU hints hlen hg) fun r s' hq=>?_);obtain⟨rfl,h2,h3,h4⟩:=hq;exact⟨.inl ⟨.bool true,.bool true,[],rfl,fun _=>rfl,.bool true,uO l _,fun _=>⟨List.Pairwise.nil,fun _ hm=>(nomatch hm)⟩⟩,h2,h3,h4⟩
section
variable{K:Frag}
noncomputable def AQ(h:Heap):Heap:={ h with objs:=#[] }
theorem yi(h:Heap)(b:Addr):(AQ h).get? b=none:=by
 cases e:(AQ h).get? b with
 | none=>rfl
 | some o=>exact absurd (bg e) (o5 _)
theorem C0{L:Addr}{m:Str→Option Value}(n:h.Ns L m):Fr (AQ h) L h m:=
 ⟨n,fun b o e=>(by rw[yi]at e;cases e),eM _⟩
end
end ni
namespace L2
open PySem PySem.Spec PyProof.Rows
theorem u9{vs:List Value}(h:IntsAre vs ns):Vals (ns.map V.int) vs:=by
 induction h with
 | nil=>exact .nil
 | cons n t h ih=>exact .cons ⟨t,rfl⟩ ih
def zk(H:Hp):Prop:=∀b,H b=none∨∃o xs,H b=some (.bt o (.lst xs))
theorem Kz{mb:Str→Option Value}{CX:kR}{k:Nat}{fa:Addr}{sp:Sp}{bc:Shared}{vs:List Value}(KX:K.In bc.heap)(rg:bc.heap.Ns mainGlobals mg)(hb:bc.heap.Ns builtinsNs mb)(SF:∀x:Str,x≠"__name__"→mb x=bootBuiltins x)(TK:bc.heap.NoLimit)(hg:bc.gens=#[])(ha:bc.heap.get? a=some { cls:=.type "list",data:=.seq vs.toArray })(hi:IntsAre vs ns)(hl:ns.length≤sizeLine)(hr:gm k callerA)(F:∀base:Heap,K.In base→base.Ns mainGlobals mg→iA P w K mg base CX k fa fd [x] sp)(SI:∀(s:Shared) (u:Value),BindsTo s fd ⟨[u],[]⟩ [(x,u)])(rh:∀H:Hp,zk H→c6 K H a (ns.map V.int)→sp [.ref a] H (fun v _=>v=.bl true) fun _ _ _=>False)(C5:∀H e s',CX [] H bc (fun _ _ _=>False) e s'→False) :
  codeAny (model P w) callerA (.call (.ref fa) ⟨[.ref a],[]⟩) (fun r s'=>r=.ok (.ret (.bool true))∧OldK bc.heap s'.heap∧s'.os=bc.os∧AllBare s'.gens) bc:=by
 have rv:=u9 hi;have UX:=hi.length;have core:∀H:Hp,zk H→c6 K H a (ns.map V.int)→eg P w H bc.heap→(∀b,H b≠none→b=a)→(H a≠none→K.lookup a=none)→
   codeAny (model P w) callerA (.call (.ref fa) ⟨[.ref a],[]⟩) (fun r s'=>r=.ok (.ret (.bool true))∧OldK bc.heap s'.heap∧s'.os=bc.os∧AllBare s'.gens) bc:=by
  intro H hO hS az hA hK;have Hl:∀{b:Addr} {o:Obj},bc.heap.get? b=some o→H b=none→(iM bc.heap H).get? b=some o:=fun e n=>KI e n
  have yh:∀{b:Addr} {o:Obj} {es:Array DictEntry} {ep:Nat},bc.heap.get? b=some o→o.data=.dict es ep→H b=none:=fun {b o es ep} e d=>by
   cases q:H b with
   | none=>rfl
   | some u=>
    have aI:b=a:=hA b (by rw[q];simp);subst aI;rw[ha]at e;cases e;have d':Data.seq vs.toArray _=Data.dict es ep:=d;cases d'
  have AR:∀{b:Addr} {m:Str→Option Value},bc.heap.Ns b m→(iM bc.heap H).Ns b m:=fun {b m} ⟨o,es,ep,e,d,r⟩=>⟨o,es,ep,Hl e (yh e d),d,r⟩
  have HQ:K.In (iM bc.heap H):=fun b o e=>Hl (KX b o e) (by
   cases q:H b with
   | none=>rfl
   | some u=>
    have aI:b=a:=hA b (by rw[q];simp);subst aI;rw[hK (by rw[q];simp)]at e;cases e)
  have hM:Mod K mg (iM bc.heap H):=⟨HQ,AR rg,⟨mb,AR hb,SF⟩,let ⟨mc,h1,h2⟩:=TK;⟨mc,AR h1,h2⟩⟩
  have e0:zc P w K mg (iM bc.heap H) callerA [] bc H:=⟨rfl,hM,fun b o e=>Mw e,Nat.le_of_eq (vG _ _),trivial,fun b hb=>absurd (show b∈([]:List Addr) from hb) (by simp),az,.of_eq hg⟩
  refine wz ((F _ HQ (AR rg)).run callerA [] bc H ⟨[.ref a],[]⟩ [.ref a] [.ref a] _ _ hr e0 (SI bc (.ref a)) (.cons rfl .nil) (rh H hO hS)) fun r s' h=>?_
  cases r with
  | error e=>exact(C5 H e s' h).elim
  | ok fl=>
   cases fl with
   | next=>exact False.elim h
   | brk=>exact False.elim h
   | cont=>exact False.elim h
   | ret u=>
    obtain⟨v,aa,os,bare,un,Uc,cn,q⟩:=h;have dj:v=.bl true:=q;subst dj;obtain rfl:u=Value.bool true:=cn;refine⟨rfl,OldK.of_keep fun b o e=>?_,os,bare⟩;cases q:H b with
    | none=>exact un.keep b o e q (by intro z;exact absurd (show b∈([]:List Addr) from z) (by simp)) (by simp)
    | some u=>
     rcases hO b with z | ⟨ob,xs,z⟩
     ·rw[q]at z;cases z
     ·have z2:=un.l3 b ob _ z
      obtain⟨e1,_⟩:=az b _ z;obtain⟨e2,_⟩:=Uc b _ z2;rw[e]at e1;cases e1;exact e2
 cases hk:K.lookup a with
 | some o=>
  have e:=KX a o hk;rw[ha]at e;cases e;refine core (fun _=>none) (fun _=>.inl rfl) (.inr ⟨_,vs.toArray,_,hk,rfl,rfl,rfl,by rw[dr,UX];exact hl,by simpa using rv⟩) (fun b u z=>by have cp:(none:Option HO)=some u:=z;cases cp) (fun b z=>absurd rfl z) fun z=>absurd rfl z
 | none=>
  refine core (fun b=>if b=a then some (.bt { cls:=.type "list",data:=.seq vs.toArray } (.lst (ns.map V.int))) else none) (fun b=>?_) (.inl (.inr ⟨{ cls:=.type "list",data:=.seq vs.toArray },ag rfl⟩)) (fun b u z=>?_) (fun b z=>?_) fun _=>hk
  ·by_cases hb:b=a
   ·exact .inr ⟨_,_,ag hb⟩
   ·exact .inl (ai hb)
  ·by_cases hb:b=a
   ·have cp:=(ag hb).symm.trans z
    cases cp;subst hb;exact⟨ha,by rw[a9];exact hl,vs,_,rv,ha⟩
   ·have cp:=(ai hb).symm.trans z
    cases cp
  ·by_cases hb:b=a
   ·exact hb
   ·exact absurd (ai hb) z
end L2
namespace L2
open PySem PySem.Spec PyProof.Rows
theorem WO{l:PySem.W.OpenLaw}{k:Nat}{q:Program}{d:DefRec}{K:Params→p4}{CX:World→kR}{sp:World→Sp}(hn:l.most=some n)(DI:n≤sizeLine)(xo:d.params.defaults=[])(hr:gm k callerA)(hY:∀(w:World) (h:Heap),YP w h→(K w.params).In h)(F:∀(w:World) (mg:Str→Option Value) (fa:Addr) (h:Heap),(K w.params).In h→h.Ns mainGlobals mg→mg d.name=some (.ref fa)→
   ∃fd:FuncData,(∀(s:Shared) (u:Value),BindsTo s fd ⟨[u],[]⟩ [(x,u)])∧
    ∀base:Heap,(K w.params).In base→base.Ns mainGlobals mg→iA l.prog w (K w.params) mg base (CX w) k fa fd [x] (sp w))(rh:∀(w:World) (H:Hp) (a:Addr) (ns:List Int),ns.length≤n→zk H→c6 (K w.params) H a (ns.map V.int)→sp w [.ref a] H (fun v _=>v=.bl true) fun _ _ _=>False)(C5:∀(w:World) (H:Hp) (s:Shared) (e:Value) (s':Shared),CX w [] H s (fun _ _ _=>False) e s'→False) :
  PySem.W.WalkO q loose XP YP l.row.toRowW d [] (fun f vs=>PySem.call f vs):=by
 refine ni.Rn hn xo fun w b7 bc mg mb fa o pm cd doc a vs ns G Y ho hd jj hmg DU hints hlen hg=>?_
 have KX:=hY w _ Y;obtain⟨fd,hb,hF⟩:=F w mg fa _ KX G.T.g hmg;exact Kz KX G.T.g G.T.b G.T.builtins G.T.nolimit hg DU hints (eR hlen DI) hr hF hb (fun H hO hS=>rh w H a ns hlen hO hS) fun H e s'=>C5 w H bc e s'
end L2
namespace L2
open PySem PySem.Spec PyProof.Rows
noncomputable def N7(s:Stmt):Arguments:=match s with
 | .FunctionDef _ a _ _ _ _ _ _ _ _=>a
 | _=>{ posonlyargs:=[],args:=[],vararg:=none,kwonlyargs:=[],kw_defaults:=[],kwarg:=none,defaults:=[] }
noncomputable def JZ(s:Stmt):List Stmt:=match s with
 | .FunctionDef _ _ b _ _ _ _ _ _ _=>b
 | _=>[]
noncomputable def GQ(s:Stmt):Scope:=match s with
 | .FunctionDef _ _ _ _ _ _ sc _ _ _=>sc
 | _=>{ kind:=.function,names:=[],isGenerator:=false,isCoroutine:=false }
noncomputable abbrev jo:kR:=fun _ _ _ _ _ _=>False
noncomputable abbrev E0:XK:=fun _ _ _=>False
theorem Qa:Passes jo X E0:=fun _ _ _ _ _ _ _ h=>h.elim
structure r6(K:p4)(x qual:Str)(st:Stmt)(f:Addr)(fd:FuncData):Prop where
 ex:∃(oc:Value) (od:Option Addr) (kV doc pm:Value) (an:Option Addr) (dz ct:Value) (qc:Array (Option Value)),
  fd=PySem.W.fnOf x qual (N7 st) (JZ st) (GQ st) .none kV doc pm an dz ct∧K.lookup f=some ⟨oc,od,.func fd,qc⟩∧PySem.W.codeIn K dz qual=true
 kp:PySem.W.keepIn K (.ref f)=true
theorem r6.ok{ps:List Str}{k:Nat}{sp:Sp}(F:r6 K x qual st f fd)(S:W4 N ps (GQ st))(len:∀vs H Q E,sp vs H Q E→vs.length=ps.length)(me:∀(dz:Value) (A:Around) (outer:List Env) (s:Shared) (H:Hp) (vs:List V) (Q:VK) (E:XK),gm k (A.deeper (envOfC qual (GQ st) s.heap.objs.size f dz))→sp vs H Q E→
   ∃t,eC (m9 jo P w K mg base N qual (GQ st) f dz A outer s H E).vn (JZ st) t∧t { nx:=fun _ aa=>Q .ao aa,rt:=Q } (start N vs) H):iA P w K mg base jo (k+1) f fd ps sp:=by
 obtain⟨oc,od,kV,doc,pm,an,dz,ct,qc,rfl,lk,jj⟩:=F.ex;refine Qp lk jj S len fun A outer s H vs Q E hr rh=>?_
 obtain⟨t,h,q⟩:=me dz A outer s H vs Q E hr rh;exact⟨t,h.vn,q⟩
theorem r6.binds{ps:List Str}(F:r6 K x qual st f fd)(h:∀(kV doc pm:Value) (an:Option Addr) (dz ct:Value) (us:List Value),us.length=ps.length→bindArgs (PySem.W.fnOf x qual (N7 st) (JZ st) (GQ st) .none kV doc pm an dz ct) ⟨us,[]⟩=pure (ps.zip us)):Binds K fd ps []:=by
 obtain⟨oc,od,kV,doc,pm,an,dz,ct,qc,rfl,lk,jj⟩:=F.ex;exact .all (h kV doc pm an dz ct)
theorem pF{oc:Value}{od an:Option Addr}{kV doc pm dz ct:Value}(l:K.lookup f=some ⟨oc,od,.func (PySem.W.fnOf x qual (N7 st) (JZ st) (GQ st) .none kV doc pm an dz ct),qc⟩)(c:PySem.W.codeIn K dz qual=true)(k:PySem.W.keepIn K (.ref f)=true):r6 K x qual st f (PySem.W.fnOf x qual (N7 st) (JZ st) (GQ st) .none kV doc pm an dz ct):=⟨⟨oc,od,kV,doc,pm,an,dz,ct,qc,rfl,l,c⟩,k⟩
theorem PB{k:Nat}(hr:gm k A):A.units+1<cLine:=uf (Nat.add_le_add_left (by decide:1≤64) _) hr.units
theorem pv(i:Nat)(hN:X.N[i]?=some x:=by rfl)(hv:zm X.env.scope x:=by first | exact Or.inl rfl | exact Or.inr (Or.inl rfl) | exact Or.inr (Or.inr rfl))(hd:(x==("__debug__" : Str))=false:=by decide)(jj:(x==("__classdict__" : Str))=false:=by decide):PE X (.Name x pos) (R7 i):=O2 hN hv hd jj
def r9(H aa:Hp):Prop:=∀b o,H b=some o→aa b=some o
theorem r9.refl(H:Hp):r9 H H:=fun _ _ h=>h
section
variable{cq:Type}[DecidableEq cq]
end
end L2
namespace L2
open PySem PySem.Spec PyProof.Rows
noncomputable def PJ(cells:List (Str×Addr)):List (Str×NameKind)→List (Str×Addr)→List (Str×Addr)
 | [],acc=>acc
 | (n,k)::r,acc=>PJ cells r (if k==.free then (match cells.lookup n with | some c=>(n,c)::acc | none=>acc) else acc)
theorem X8{cells:List (Str×Addr)}:∀{names:List (Str×NameKind)} {acc:List (Str×Addr)} {x:Str} {c:Addr},(∀x c,acc.lookup x=some c→cells.lookup x=some c)→
  (PJ cells names acc).lookup x=some c→cells.lookup x=some c
 | [],acc,x,c,h,e=>h x c e
 | (n,k)::r,acc,x,c,h,e=>by
  refine X8 (names:=r) (fun y d q=>?_) e
  by_cases hk:(k==NameKind.free)=true
  ·rw[ag hk]at q
   cases hl:cells.lookup n with
   | none=>rw[hl]at q;exact h y d q
   | some cw=>
    rw[hl]at q;simp only[List.lookup_cons]at q;cases hy:y==n with
    | true=>
     rw[hy]at q;have:y=n:=by simpa using hy
     subst this;cases q;exact hl
    | false=>rw[hy]at q;exact h y d q
  ·rw[ai hk]at q
   exact h y d q
theorem bH{cells:List (Str×Addr)}:∀{names:List (Str×NameKind)} {acc:List (Str×Addr)} {x:Str},(acc.lookup x).isSome=true→((PJ cells names acc).lookup x).isSome=true
 | [],_,_,h=>h
 | (n,k)::r,acc,x,h=>by
  refine bH (names:=r) ?_;split
  ·split
   ·simp only[List.lookup_cons]
    cases hx:x==n with
    | true=>rfl
    | false=>exact h
   ·exact h
  ·exact h
theorem eU{cells:List (Str×Addr)}:∀{names:List (Str×NameKind)} {acc:List (Str×Addr)} {x:Str},(x,NameKind.free)∈names→(cells.lookup x).isSome=true→((PJ cells names acc).lookup x).isSome=true
 | [],_,_,h,_=>nomatch h
 | (n,k)::r,acc,x,h,hc=>by
  rcases cg h with e | h
  ·cases e
   refine bH (names:=r) ?_;rw[ag (by rfl)];cases hl:cells.lookup n with
   | none=>rw[hl]at hc;cases hc
   | some c=>simp[List.lookup_cons]
  ·exact eU (names:=r) h hc
theorem TY{env:Env}(h:∀y∈scope.names,y.2=.free→(env.cells.lookup y.1).isSome=true):closureFor scope env=pure (PJ env.cells scope.names []):=by
 have go:∀(names:List (Str×NameKind)) (acc:List (Str×Addr)),(∀y∈names,y.2=.free→(env.cells.lookup y.1).isSome=true)→
   (forIn names acc (fun(x:Str×NameKind) (cs:List (Str×Addr))=>match x with
    | (name,kind)=>if (kind==NameKind.free)=true then (do let c ←cellOf env name;pure (ForInStep.yield ((name,c)::cs)):Sem _) else pure (ForInStep.yield cs)):Sem _)=pure (PJ env.cells names acc):=by
  intro names
  induction names with
  | nil=>intro acc _;rfl
  | cons y r ih=>
   intro acc hy;obtain⟨n,k⟩:=y;rw[List.forIn_cons]
   by_cases hk:(k==NameKind.free)=true
   ·have hs:=hy (n,k) bX (by simpa using hk)
    obtain⟨c,hc⟩:=Option.isSome_iff_exists.mp hs;have hc:env.cells.lookup n=some c:=hc;have e:cellOf env n=pure c:=by unfold cellOf;rw[hc]
    have e2:=ih ((n,c)::acc) fun z hz=>hy z (b8 _ hz)
    simp only[hk,if_true,e,PJ,hc];exact e2
   ·have e2:=ih acc fun z hz=>hy z (b8 _ hz)
    simp only[hk,PJ];exact e2
 unfold closureFor;have g:=go scope.names [] h;exact(congrArg (fun m=>m >>= fun cs=>(pure cs:Sem _)) g).trans rfl
noncomputable abbrev Fm (X:Cx) (scope:Scope) (C:Addr):Env:=compEnvC scope (PJ X.env.cells scope.names []) C X.env
noncomputable abbrev gd (X:Cx) (scope:Scope) (M own:List Str) (C:Addr) (b7:Shared) (dq:Hp) (ex:List Addr):Cx where
 prog:=X.prog
 w:=X.w
 K:=X.K
 mg:=X.mg
 base:=X.base
 A:=X.A
 N:=M++own
 b7:=b7
 dq:=dq
 env:=Fm X scope C
 outer:=X.stack
 stack:=X.stack
 ex:=ex
 fn:=fun _=>false
 calm:=X.calm
 pn:=[]
 xe:=fun _ _=>False
structure ij(X:Cx)(scope:Scope)(M own:List Str):Prop where
 kind:scope.kind=.function
 fr:(scope.names.all fun y=>y.2 != .free||X.env.kindOf y.1==some .cell)=true
 cell:(scope.names.all fun y=>y.2 != .cell)=true
 nm:(scope.names.all fun y=>y.2 != .local||scope.names.lookup y.1==some .local)=true
 apart:(M.all fun x=>scope.names.lookup x != some .local)=true
 XY:X.env.scope.kind=.function
 Jl:M=X.N∨(M.length=X.N.length∧((M.zip X.N).all fun p=>decide (p.1=p.2)||scope.names.all fun y=>decide (y.1≠p.1))=true)
theorem ij.len(B:ij X scope M own):M.length=X.N.length:=by
 rcases B.Jl with h | h
 ·rw[h]
 ·exact h.1
theorem ij.same{X:Cx}{scope:Scope}{M own:List Str}(B:ij X scope M own){i:Nat}{x:Str}(e:M[i]?=some x){k:NameKind}(hx:(x,k)∈scope.names):X.N[i]?=some x:=by
 rcases B.Jl with h | ⟨hl,h⟩
 ·rw[←h];exact e
 ·have hi:=(List.getElem?_eq_some_iff.mp e).1
  have Il:i<X.N.length:=by lia
  have hz:(x,X.N[i])∈M.zip X.N:=by
   have e2:(M.zip X.N)[i]'(by rw[List.length_zip];lia)=(x,X.N[i]):=by
    rw[List.getElem_zip,(List.getElem?_eq_some_iff.mp e).2]
   rw[←e2];exact List.getElem_mem _
  have:=lL h _ hz;simp only[Bool.or_eq_true,decide_eq_true_eq]at this;rcases this with z | z
  ·rw[fo Il,←z]
  ·exact absurd rfl (gq (lL z (x,k) hx))
theorem ij.CY(B:ij X scope M own):∀y∈scope.names,y.2=.free→X.env.kindOf y.1=some .cell:=fun y hy e=>by
 have:=lL B.fr y hy;rw[e]at this;simpa using this
theorem ij.Hq(B:ij X scope M own):∀y∈scope.names,y.2≠.cell:=fun y hy e=>by
 have:=lL B.cell y hy;rw[e]at this;simp at this
theorem ij.Ew(B:ij X scope M own):∀y∈scope.names,y.2=.local→scope.names.lookup y.1=some .local:=fun y hy e=>by
 have:=lL B.nm y hy;rw[e]at this;simpa using this
theorem MN{X:Cx}{scope:Scope}{M own:List Str}(B:ij X scope M own):∀{names:List (Str×NameKind)} {x:Str},(∀y∈names,y∈scope.names)→
  ((names.map fun(n,k)=>if (k==NameKind.free&&X.env.scope.kind==.function&&X.env.kindOf n==some .cell) then (n,NameKind.cell) else (n,k)).lookup x=some .cell∨
   (names.map fun(n,k)=>if (k==NameKind.free&&X.env.scope.kind==.function&&X.env.kindOf n==some .cell) then (n,NameKind.cell) else (n,k)).lookup x=some .free)→(x,NameKind.free)∈names∧X.env.kindOf x=some .cell
 | [],x,_,h=>by simp at h
 | (n,k)::r,x,hs,h=>by
  have ih:=@MN X scope M own B r x (fun y hy=>hs y (b8 _ hy));have hn:=hs (n,k) bX;simp only[ck]at h
  by_cases hx:(x==n)=true
  ·have e:x=n:=by simpa using hx
   subst e
   by_cases hk:k=.free
   ·subst hk
    exact⟨bX,B.CY _ hn rfl⟩
   ·have hc:=B.Hq _ hn
    have Tx:(k==NameKind.free)=false:=by simpa using hk
    simp only[Tx,Bool.false_and,Bool.false_eq_true,if_false,List.lookup_cons,beq_self_eq_true]at h;rcases h with h | h
    ·cases h;exact absurd rfl hc
    ·cases h;exact absurd rfl hk
  ·have kK:(x==n)=false:=by simpa using hx
   have key:∀kk:NameKind,(List.lookup x ((if (k==NameKind.free&&X.env.scope.kind==.function&&X.env.kindOf n==some .cell)=true then (n,NameKind.cell) else (n,k))::(r.map fun(n,k)=>if (k==NameKind.free&&X.env.scope.kind==.function&&X.env.kindOf n==some .cell) then (n,NameKind.cell) else (n,k)))=some kk)→
     (r.map fun(n,k)=>if (k==NameKind.free&&X.env.scope.kind==.function&&X.env.kindOf n==some .cell) then (n,NameKind.cell) else (n,k)).lookup x=some kk:=by
    intro kk q;split at q<;>simpa only [List.lookup_cons,kK] using q
   have:=ih (h.imp (key _) (key _));exact⟨b8 _ this.1,this.2⟩
theorem Q7{X:Cx}{scope:Scope}{M own:List Str}(B:ij X scope M own):∀{names:List (Str×NameKind)} {x:Str},(∀y∈names,y∈scope.names)→
  (names.map fun(n,k)=>if (k==NameKind.free&&X.env.scope.kind==.function&&X.env.kindOf n==some .cell) then (n,NameKind.cell) else (n,k)).lookup x=some .local→scope.names.lookup x=some .local
 | [],x,_,h=>by simp at h
 | (n,k)::r,x,hs,h=>by
  have ih:=@Q7 X scope M own B r x (fun y hy=>hs y (b8 _ hy));have hn:=hs (n,k) bX;simp only[ck]at h
  by_cases hx:(x==n)=true
  ·have e:x=n:=by simpa using hx
   subst e;split at h
   ·simp only[List.lookup_cons,beq_self_eq_true]at h
    cases h
   ·simp only[List.lookup_cons,beq_self_eq_true]at h
    cases h;exact B.Ew _ hn rfl
  ·have kK:(x==n)=false:=by simpa using hx
   refine ih ?_;split at h<;>simpa only [List.lookup_cons,kK] using h
theorem wD(B:ij X scope M own)(I:Inv X pi σ H s)(hf:∀b∈fp,RB X pi H b)(Th:∀b∈fp,∃o,s.heap.get? b=some o)(hn:h'.Ns s.heap.objs.size (fun _=>none))(hk:∀b o,s.heap.get? b=some o→h'.get? b=some o) :
  Inv (gd X scope M own s.heap.objs.size s H fp) [] (σ++List.replicate own.length none) H { s with heap:=h',toks:=t' }:=by
 have cm:∀x c,(PJ X.env.cells scope.names []).lookup x=some c→X.env.cells.lookup x=some c:=fun x c e=>X8 (names:=scope.names) (acc:=[]) (fun _ _ z=>by simp at z) e
 have Ik:∀x,(x,NameKind.free)∈scope.names→X.env.kindOf x=some .cell→∃c,(PJ X.env.cells scope.names []).lookup x=some c:=fun x hx hk=>by
  obtain⟨c,e⟩:=I.ok.has x (.inl hk);exact Option.isSome_iff_exists.mp (eU hx (by rw[e];rfl))
 have zy:∀b∈fp,b<s.heap.objs.size:=fun b hb=>let ⟨o,e⟩:=Th b hb;bg e
 refine⟨⟨I.mod,B.kind,I.ok.glob,I.ok.blt,aT _,fun x y c h1 h2=>I.ok.inj x y c (cm x c h1) (cm y c h2),fun x hx=>?_,fun x c hf _=>absurd hf dE,I.ok.hd,I.ok.frames,.inl rfl,fun b hb=>⟨b0 (zy b hb),fun x c e=>(hf b hb).2.2.2.2.1 x c (cm x c e)⟩,
   I.bs,eR I.ok.qp I.sz,fun b o e hb=>?_,fun b hb z=>?_,I.stack,I.Ke⟩,rfl,I.bare,Un.kept hk,⟨_,hn,fun i x v e1 e2 e3=>?_⟩,fun x c e=>?_,I.az.fresh (aT _),fun x c e=>I.k7 x c (cm x c e),fun p hp=>absurd (show p∈([]:List (Addr×Obj)) from hp) (by simp),I.az.kept hk,?_⟩
 ·have q:=MN B (names:=scope.names) (x:=x) (fun _ z=>z) hx
  exact Ik x q.1 q.2
 ·rcases(hf b hb).2.2.2.1 with z | z
  ·exact I.ok.yj b o e z
  ·exact absurd (g6 (bg e) (eR I.ok.qp z)) (gp _)
 ·rcases cg (I.A4 b z) with e | e
  ·exact(hf b hb).2.1 e
  ·exact(hf b hb).2.2.1 e
 ·have hi:i<σ.length:=by
   by_cases hi:i<σ.length
   ·exact hi
   ·rw[so (Nat.le_of_not_lt hi),List.getElem?_replicate]at e2
    split at e2<;>cases e2
  rw[ko hi]at e2;rw[ko (by rw[B.len,←I.len];exact hi)]at e1;obtain⟨m,hm,hl⟩:=I.loc;have nl:scope.names.lookup x≠some .local:=by
   have:=lL B.apart x (jw e1);simpa using this
  have q:(x,NameKind.free)∈scope.names∧X.env.kindOf x=some .cell:=by
   rcases e3 with e3 | e3 | e3
   ·exact absurd (Q7 B (names:=scope.names) (fun _ z=>z) e3) nl
   ·exact MN B (names:=scope.names) (fun _ z=>z) (.inl e3)
   ·exact MN B (names:=scope.names) (fun _ z=>z) (.inr e3)
  obtain⟨u,r,lk⟩:=hl i x v (B.same e1 q.1) e2 (.inr (.inl q.2));refine⟨u,r,?_⟩;rcases lk with ⟨k1,_⟩ | ⟨_,c,ec,z⟩
  ·rw[q.2]at k1;cases k1
  ·obtain⟨cw,Hv⟩:=Ik x q.1 q.2
   have:cw=c:=by
    have:=cm x cw Hv;rw[ec]at this;exact(cE this).symm
   subst this;refine .inr ⟨?_,cw,Hv,?_⟩
   ·rcases e3 with e3 | e3 | e3
    ·exact absurd (Q7 B (names:=scope.names) (fun _ z=>z) e3) nl
    ·exact .inl e3
    ·exact .inr e3
   ·obtain⟨o,ho,hd⟩:=z
    exact⟨o,hk _ _ ho,hd⟩
 ·obtain⟨v,o,ho,hd⟩:=I.cell x c (cm x c e)
  exact⟨v,o,hk _ _ ho,hd⟩
 ·show (σ++List.replicate own.length none).length=(M++own).length
  rw[fN,fN,List.length_replicate,I.len,B.len]
theorem NA(I:Inv X pi σ H s)(hf:∀b∈fp,RB X pi H b){σ':St}{s':Shared}{ma:Heap}(J:Inv (gd X scope M own s.heap.objs.size s H fp) [] σ' aa s')(hs:Heap.SameBut s.heap.objs.size s'.heap ma):Inv X pi σ aa { s' with heap:=ma }:=by
 have hC:aa s.heap.objs.size=none:=J.free;have az:eg X.prog X.w aa ma:=fun b u e=>(J.az b u e).kb (fun c v hc q=>(hs.2 c ?_).trans q) (fun _ q=>q) fun _ _ q=>q
 ·refine I.Rq (s':={ s' with heap:=ma }) (ch:=fp) J.os ⟨fun b o e n hb hx=>?_,fun b o e n hb hx=>?_,J.base.free,fun b o e hx=>?_,J.base.lq,J.base.l3,J.base.oj⟩ az J.bare fun b hb=>?_
  ·exact(hs.2 b (b0 (bg e))).trans (J.base.keep b o e n hb hx)
  ·obtain⟨sl,q⟩:=J.base.slot b o e n hb hx
   exact⟨sl,(hs.2 b (b0 (bg e))).trans q⟩
  ·obtain⟨bP,q⟩:=J.base.there b o e hx
   exact⟨bP,(hs.2 b (b0 (bg e))).trans q⟩
  ·obtain⟨_,f1,_,f3,f4,f5⟩:=hf b hb
   exact⟨f3,f1,f4,f5⟩
 ·intro z
  subst z;rcases hc with z | z
  ·rw[←z,hC]at e;cases e
  ·rw[hC]at z;cases z
def oC(X:Cx)(ifs:List Expr)(t:TT):Prop:=
 ∀(pi:List (Addr×Obj)) (s:Shared) (σ:St) (H:Hp) (Q:Bool→Hp→Prop),Inv X pi σ H s→t σ H Q→
  wpAny (model X.prog X.w) X.A (forIn ifs true fun c r=>if r=true then do let ok ←isTrue c X.env (eval c X.env);pure (ForInStep.yield ok) else pure (ForInStep.yield r)) (TP X pi σ Q) X.xe s
noncomputable def Qw:TT:=fun _ H Q=>Q true H
theorem L3:oC X [] Qw:=fun _ _ _ H _ I h=>wpAny_tests_nil ⟨H,I,h⟩
theorem L1{t:TT}(h:PT X c t):oC X [c] t:=fun pi s σ H Q I hw=>wpAny_tests_one (h pi s σ H Q I hw)
theorem j6{elt target:Expr}{it acc:Value}{env:Env}(I:Nat→Shared→Prop)(turn:∀n s,I n s→wpAny (model prog w) A (pyNext it) (fun r bc=>match r with
   | none=>R (.ok .next) bc
   | some v=>wpAny (model prog w) A (letOwnedTupleGo target it v) (fun _ bc=>wpAny (model prog w) A (assign target env v) (fun _ cx=>
     wpAny (model prog w) A (forIn ifs true fun c r=>if r=true then do let ok ←isTrue c env (eval c env);pure (ForInStep.yield ok) else pure (ForInStep.yield r)) (fun ok dC=>
      if ok=true then wpAny (model prog w) A (eval elt env) (fun x A6=>
       wpAny (model prog w) A (call (.builtin "list.append") [acc,x]) (fun _ Kg=>∃m,m<n∧I m Kg) (fun _ _=>False) A6) (fun _ _=>False) dC
      else ∃m,m<n∧I m dC) (fun _ _=>False) cx) (fun _ _=>False) bc) (fun _ _=>False) bc) (fun _ _=>False) s)(n:Nat)(h:I n s) :
  codeAny (model prog w) A (.compLoop (.ListComp elt [⟨target,iter,ifs,0⟩] scope pos) 0 it acc env) R s:=by
 refine codeAny_loop rfl I (fun n s hI=>?_) n h;show wpAny _ A ((compTurn (.ListComp elt [⟨target,iter,ifs,0⟩] scope pos) 0 it acc env).onRaise (fun x=>do noteFrame x env;theTreesLotGoes x)) _ _ s;refine wpAny_noted ?_;rw[compTurn_list];refine ab (wpAny_standAt (ab (fb (turn n s hI) (fun r bc h₁=>?_) fun _ _ h'=>h'.elim)));cases r with
 | none=>exact ah h₁
 | some v=>
  refine ab (fb h₁ (fun _ bc h₁=>?_) fun _ _ h'=>h'.elim);refine ab (fb h₁ (fun _ cx qb=>ab (fb qb (fun ok dC AE=>?_) fun _ _ h'=>h'.elim)) fun _ _ h'=>h'.elim);cases ok with
  | false=>exact ah ⟨rfl,AE⟩
  | true=>
   exact ab (ab (fb AE (fun x A6 UO=>ab (fb UO (fun _ Kg UP=>ah (ah ⟨rfl,UP⟩)) fun _ _ h'=>h'.elim)) fun _ _ h'=>h'.elim))
noncomputable def jM(wi:TI)(k:Nat)(g:TG)(tt:TT)(te:TE):TE:=fun σ H Q=>wi σ H fun J H1=>∀D,H1 D=none→∃W:Nat→Nat→St→Hp→Prop,
 (∃m,W 0 m (σ++List.replicate k none) (upd H1 D (.lst [])))∧∀i m σ' aa,W i m σ' aa→
  (J.stop i aa∧Q (.ref D) aa)∨(J.go i aa∧∀x H2,J.yB i aa x H2→g x σ' H2 fun hX H3=>tt hX H3 fun c H4=>
   if c=true then te hX H4 fun y H5=>∃ys,H5 D=some (.lst ys)∧ys.length<sizeLine∧∃ae,ae<m∧W (i+1) ae hX (upd H5 D (.lst (ys++[y])))
   else ∃ae,ae<m∧W (i+1) ae hX H4)
section
variable{elt:Expr}{g:TG}{tt:TT}
theorem tL(B:ij X scope M own)(hc:X.calm=true)(hg:∀C b7 dq ex,PG (gd X scope M own C b7 dq ex) tg g)(ht:∀C b7 dq ex,oC (gd X scope M own C b7 dq ex) ifs tt)(he:∀C b7 dq ex,PE (gd X scope M own C b7 dq ex) elt te){H2:Hp}{cx:Shared}{tn:Nat→Heap→Prop}{J:It}{Q:VK}(I2:Inv X pi σ H2 cx)(T:Turn X.prog X.w X.K tg J fp it tn)(st:tn 0 cx.heap)(f2:∀b∈fp,RB X pi H2 b)(q2:∀D,H2 D=none→∃W:Nat→Nat→St→Hp→Prop,
   (∃m,W 0 m (σ++List.replicate own.length none) (upd H2 D (.lst [])))∧∀i m σ' aa,W i m σ' aa→
    (J.stop i aa∧Q (.ref D) aa)∨(J.go i aa∧∀x H2,J.yB i aa x H2→g x σ' H2 fun hX H3=>tt hX H3 fun c H4=>
     if c=true then te hX H4 fun y H5=>∃ys,H5 D=some (.lst ys)∧ys.length<sizeLine∧∃ae,ae<m∧W (i+1) ae hX (upd H5 D (.lst (ys++[y])))
     else ∃ae,ae<m∧W (i+1) ae hX H4))(hR:∀D C aa s' m,s'.heap.Ns C m→(∀ma,Heap.SameBut C s'.heap ma→Inv X pi σ aa { s' with heap:=ma })→C≠X.env.locals→(∀x c,X.env.cells.lookup x=some c→c≠C)→cx.heap.objs.size<C→aa C=none→Q (.ref D) aa→RR (.ref D) C (.ok .next) s') :
  wpAny (model X.prog X.w) X.A (newList []) (fun acc dC=>wpAny (model X.prog X.w) X.A (newFunctionEnv scope X.env.globals (PJ X.env.cells scope.names []) [] X.env.qual none .none (some X.env)) (fun Hr A6=>
   codeAny (model X.prog X.w) X.A (.compStart (.ListComp elt [⟨tg,iter,ifs,0⟩] scope pos) 0 (.ref it) acc { Hr with scope:=relabel scope X.env }) (RR acc Hr.locals) A6) E dC) E cx:=by
 have I3:=I2.Jf (ys:=[]) (its:=[]) (t':=cx.toks) .nil (by simp);refine iL (wpAny_newFunctionEnv B.Hq (by intro y hy;simp at hy) (fun h₁ Ua Uu=>?_) B.kind);have Ti:H2 cx.heap.objs.size=none:=I2.fresh;obtain⟨W,⟨m0,w0⟩,turn⟩:=q2 cx.heap.objs.size Ti;generalize Ur:({ cx with heap:=cx.heap.push { cls:=.type "list",data:=.seq ([]:List Value).toArray },toks:=cx.toks }:Shared)=dC at I3;have e3:dC.heap=cx.heap.push { cls:=.type "list",data:=.seq ([]:List Value).toArray }:=by rw[←Ur]
 have k3:∀b o,cx.heap.get? b=some o→dC.heap.get? b=some o:=fun b o e=>by rw[e3];exact cz _ e
 have f3:∀b∈fp,RB X pi (upd H2 cx.heap.objs.size (.lst [])) b:=fun b hb=>by
  obtain⟨o,e,_⟩:=T.obj 0 _ st b hb;refine⟨?_,(f2 b hb).2⟩;rw[CK (b0 (bg e))];exact(f2 b hb).1
 have HE:∀b∈fp,∃o,dC.heap.get? b=some o:=fun b hb=>by
  obtain⟨o,e,_⟩:=T.obj 0 _ st b hb;exact⟨o,k3 b o e⟩
 have k4:∀b o,dC.heap.get? b=some o→h₁.get? b=some o:=fun b o e=>by
  have hb:b<dC.heap.objs.size:=bg e;have q:(dC.heap.push { cls:=.type (if (some X.env).isSome then "dict" else "frame"),data:=.dict #[] }).get? b=some o:=cz _ e;have Ut:Heap.SameBut dC.heap.objs.size (dC.heap.push { cls:=.type (if (some X.env).isSome then "dict" else "frame"),data:=.dict #[] }) h₁:=by rw[e3];exact Uu
  exact(Ut.2 b (b0 hb)).trans q
 have Ar:h₁.Ns dC.heap.objs.size (fun _=>none):=by
  rw[e3];exact Ua
 have J4:=wD (own:=own) (t':=dC.toks+([]:List (Str×Value)).length) B I3 f3 HE Ar k4;have Kj:tn 0 h₁:=T.keep 0 _ _ st fun b _ o e=>k4 b o (k3 b o e)
 have t7:∀{aa:Hp},(∀b∈fp,aa b=none)→∀b∈fp,RB (gd X scope M own dC.heap.objs.size dC (upd H2 cx.heap.objs.size (.lst [])) fp) [] aa b:=fun {aa} hn b hb=>by
  obtain⟨_,g1,g2,g3,g4,g5⟩:=f3 b hb;obtain⟨o,e⟩:=HE b hb;refine⟨hn b hb,b0 (bg e),fun z=>?_,.inl hb,fun x c e=>g4 x c (X8 (names:=scope.names) (acc:=[]) (fun _ _ z=>by simp at z) e),fun p hp=>absurd (show p∈([]:List (Addr×Obj)) from hp) (by simp)⟩;rcases cg (I3.A4 b z) with e | e
  ·exact g1 e
  ·exact g2 e
 have loop:∀s4:Shared,s4={ dC with heap:=h₁,toks:=dC.toks+([]:List (Str×Value)).length }→
   codeAny (model X.prog X.w) X.A (.compLoop (.ListComp elt [⟨tg,iter,ifs,0⟩] scope pos) 0 (.ref it) (.ref cx.heap.objs.size) (Fm X scope dC.heap.objs.size)) (RR (.ref cx.heap.objs.size) dC.heap.objs.size) s4:=by
  rintro s4 rfl;refine j6 (fun n s'=>∃i σ' aa,Inv (gd X scope M own dC.heap.objs.size dC (upd H2 cx.heap.objs.size (.lst [])) fp) [] σ' aa s'∧tn i s'.heap∧(∀b∈fp,aa b=none)∧W i n σ' aa) ?_ m0
   ⟨0,_,_,J4,Kj,fun b hb=>(f3 b hb).1,w0⟩
  rintro n s5 ⟨i,Bd,H5,I5,vq,zD,w5⟩;rcases turn i n Bd H5 w5 with ⟨stop,qn⟩ | ⟨go,step⟩
  ·refine a8 (T.done (gd X scope M own dC.heap.objs.size dC (upd H2 cx.heap.objs.size (.lst [])) fp) rfl rfl rfl hc i [] s5 Bd H5 _ I5 (t7 zD) vq stop) fun r s6 af=>?_
   obtain⟨hr,I6⟩:=af;subst hr;obtain⟨m6,n6,_⟩:=I6.loc;refine hR _ _ H5 s6 m6 n6 (fun ma hs=>NA I3 f3 I6 hs) (i7 I3.lt) (fun x c e=>?_) (by rw[e3,kq];exact sf _) I6.free qn;obtain⟨v,z⟩:=I3.cell x c e;exact b0 z.lt
  ·refine a8 (T.item (gd X scope M own dC.heap.objs.size dC (upd H2 cx.heap.objs.size (.lst [])) fp) rfl rfl rfl hc i [] s5 Bd H5 _ I5 (t7 zD) vq go) fun r s6 af=>?_
   obtain⟨u,hr,h6⟩:=af;subst hr;refine a8 h6 fun _ s7 af=>?_
   obtain⟨x,H7,I7,r7,y7,EF,RS⟩:=af;have Rg:=I7.pinned (t7 RS) (T.obj _ _ EF);refine a8 (hg _ _ _ _ _ s7 Bd H7 x u _ Rg r7 (step x H7 y7)) fun _ s8 af=>?_
   obtain⟨ua,H8,I8,q8⟩:=af;refine a8 (ht _ _ _ _ _ s8 ua H8 _ I8 q8) fun c s9 af=>?_
   obtain⟨H9,I9,q9⟩:=af;have again:∀{vp:Shared} {ud:Hp},Inv (gd X scope M own dC.heap.objs.size dC (upd H2 cx.heap.objs.size (.lst [])) fp) ([]++aF fp s7.heap) ua ud vp→(∃ae,ae<n∧W (i+1) ae ua ud)→
     ∃m,m<n∧∃i σ' aa,Inv (gd X scope M own dC.heap.objs.size dC (upd H2 cx.heap.objs.size (.lst [])) fp) [] σ' aa vp∧tn i vp.heap∧(∀b∈fp,aa b=none)∧W i m σ' aa:=fun {vp ud} vS af=>by
    obtain⟨ae,hm,EM⟩:=af;refine⟨ae,hm,i+1,ua,ud,vS.Bb,T.keep _ _ _ EF fun b hb o e=>(vS.pin (b,o) (eQ _ (eQ _ (QM hb e)))).1,fun b hb=>?_,EM⟩;obtain⟨o,e,d⟩:=T.obj _ _ EF b hb;exact(vS.pin (b,o) (eQ _ (eQ _ (QM hb e)))).2.1
   cases c with
   | false=>
    rw[ai dE]at q9 ⊢;exact again I9 q9
   | true=>
    rw[ag rfl]at q9 ⊢;refine a8 (he _ _ _ _ _ s9 ua H9 _ I9 q9) fun y vp af=>?_
    obtain⟨z,ud,vS,VW,VU⟩:=af;obtain⟨ys,eD,hz,ae,hm,EM⟩:=VU;refine a8 (X3 _ vp ua ud (.ref cx.heap.objs.size) [z] (.ref cx.heap.objs.size) [y] (fun _ GA=>W (i+1) ae ua GA) vS rfl (.cons VW .nil) ⟨_,ys,z,rfl,rfl,eD,hz,EM⟩) fun _ YV af=>?_
    obtain⟨_,GA,Rc,_,VV⟩:=af;exact again Rc ⟨ae,hm,VV⟩
 exact codeAny_compStart_list (loop _ rfl) (T.self _ 0 _ _ _ Kj (loop _ rfl))
theorem Mh(B:ij X scope M own)(hc:X.calm=true)(hi:PI X tg iter wi)(hg:∀C b7 dq ex,PG (gd X scope M own C b7 dq ex) tg g)(ht:∀C b7 dq ex,oC (gd X scope M own C b7 dq ex) ifs tt)(he:∀C b7 dq ex,PE (gd X scope M own C b7 dq ex) elt te)(hs:∀x,foldedSetIterable iter X.env x=pure x:=by intro _;rfl):PE X (.ListComp elt [⟨tg,iter,ifs,0⟩] scope pos) (jM wi own.length g tt te):=by
 intro pi s σ H Q I h;rw[eval_ListComp];have Dm:closureFor scope X.env=pure (PJ X.env.cells scope.names []):=TY fun y hy e=>by
  obtain⟨c,q⟩:=I.ok.has y.1 (.inl (B.CY y hy e));rw[q];rfl
 refine wpAny_comprehension_free (use:=none) rfl hs Dm B.kind B.Ew (fb (hi pi s σ H _ I h) (fun xv bc h₁=>fb h₁ (fun AH cx qb=>?_) fun _ _ e=>e) fun _ _ e=>e);obtain⟨it,fp,tn,J,H2,rfl,I2,T,st,f2,q2⟩:=qb;refine tL (RR:=fun acc C=>compPost (model X.prog X.w) X.A X.xe none (EP X pi σ Q) acc C) B hc hg ht he I2 T st f2 q2 fun D C aa s' m hn hI _ _ _ _ q=>?_
 exact⟨m,hn,fun ma D6=>⟨.ref D,aa,hI ma D6,rfl,q⟩⟩
theorem L5{y:Str}{py yu:Pos}(hN:X.N.Nodup)(Dy:X.N[i]?=some y)(hy:X.env.scope.names.lookup y=some .local)(B:ij X scope M own)(hc:X.calm=true)(hi:PI X tg iter wi)(hg:∀C b7 dq ex,PG (gd X scope M own C b7 dq ex) tg g)(ht:∀C b7 dq ex,oC (gd X scope M own C b7 dq ex) ifs tt)(he:∀C b7 dq ex,PE (gd X scope M own C b7 dq ex) elt te)(D7:swapsWith (.ListComp elt [⟨tg,iter,ifs,0⟩] scope pos) (some (.Name y py)) yu.line X.env=pure true:=by rfl)(hs:∀x,foldedSetIterable iter X.env x=pure x:=by intro _;rfl):PS X (.Assign [.Name y py] (.ListComp elt [⟨tg,iter,ifs,0⟩] scope pos) yu) (y0 (jM wi own.length g tt te) (aW i)):=by
 intro pi s σ H D I h;have Dm:closureFor scope X.env=pure (PJ X.env.cells scope.names []):=TY fun y hy e=>by
  obtain⟨c,q⟩:=I.ok.has y.1 (.inl (B.CY y hy e));rw[q];rfl
 rw[exec_Assign_Name_used _ _ _ _ D7];refine ab (wpAny_standAt (ab ?_));show wpAny _ X.A (do let _ ←comprehension (.ListComp elt [⟨tg,iter,ifs,0⟩] scope pos) scope X.env _ (newList []) false (eval iter X.env) (some (assign (.Name y py) X.env))) _ _ s;refine ab (fb (wpAny_comprehension_free (use:=some (assign (.Name y py) X.env)) (Q:=fun _ s'=>SP X pi D .next s') rfl hs Dm B.kind B.Ew
  (fb (hi pi s σ H _ I h) (fun xv bc h₁=>fb h₁ (fun AH cx qb=>?_) fun _ _ e=>e) fun _ _ e=>e)) (fun _ s' hq=>ah (ah hq)) fun _ _ e=>e)
 obtain⟨it,fp,tn,J,H2,rfl,I2,T,st,f2,q2⟩:=qb;refine tL (Q:=fun x H1=>aW i x σ H1 D.nx) (RR:=fun acc C=>compPost (model X.prog X.w) X.A X.xe (some (assign (.Name y py) X.env)) (fun _ s'=>SP X pi D .next s') acc C) B hc hg ht he I2 T st f2 q2 fun L C aa s' m hn hI HK HL bx uz q=>?_
 show wpAny _ X.A (assign (.Name y py) X.env (.ref L)) _ _ _;have h9:=hI s'.heap (.refl ..);refine wpAny_assign_Name (dH h9 hN Dy (.inl hy) (v:=.ref L) rfl (fun yo Rb Us=>?_) (.inr hy));obtain⟨a,sb,ha⟩:=Us;have Sz:C≠a:=by
  rcases ha with e | e
  ·rw[e];exact HK
  ·exact fun z=>HL y a e z.symm
 refine⟨m,hn.sameBut sb Sz,fun ma D6=>⟨_,aa,?_,q⟩⟩;refine Rb.turned (it:=C) (t':=yo.toks) (fun b o hb e=>(D6.2 b hb).trans e) uz HK (.inr ?_) HL fun p hp z=>?_
 ·exact eR I2.sz (nz bx)
 ·have:=(I2.pin p hp).1
  rw[z]at this;exact absurd (bg this) (Nat.not_lt.mpr (nz bx))
end
theorem nZ{ys:List Str}:∀{us:List Value},Vals (ys.map V.str) us→StrsAre us ys:=by
 induction ys with
 | nil=>intro us r;cases r;exact .nil
 | cons y ys ih=>
  intro us r;cases r with
  | cons r t=>
   obtain⟨tk,rfl⟩:=r;exact .cons y tk (ih t)
theorem u6{vs:List Value}{ss:List Str}(h:StrsAre vs ss):Vals (ss.map V.str) vs:=by
 induction h with
 | nil=>exact .nil
 | cons x t h ih=>exact .cons ⟨t,rfl⟩ ih
def rJoin(K:p4):V→List V→Hp→VK→Prop:=fun x vs H Q=>∃sep a ys,x=.str sep∧vs=[.ref a]∧c6 K H a (ys.map V.str)∧(ys.map (·.length)).sum+ys.length*sep.length≤16777216∧Q (.str (Txt.join sep ys)) H
theorem My:zj X "str.join" (rJoin X.K):=by
 intro pi s σ H x vs v us Q I rx rv h;obtain⟨sep,a,ys,rfl,rfl,hq,az,q⟩:=h;obtain⟨t,rfl⟩:=rx;obtain⟨u,rfl,ru⟩:=rv.one;cases ru;obtain⟨its,r,p,hz⟩:=I.list hq;refine join_list p.isList (ys:=ys) (by simpa using nZ r) az fun t' k=>⟨.str _,H,I.tok k,⟨t',rfl⟩,q⟩
def Bw:V→Option Int→Option Int→Hp→VK→Prop:=fun x lo hi H Q=>∃z,x=.str z∧z.length≤sizeLine∧Q (.str (StrLaws.sliceText z lo hi)) H
theorem part_of{v:Value}{o:Option Int}(p:IsPart v o):∃q:Option (Int×Tok),v=partValue q∧q.map (·.1)=o:=by
 cases p with
 | none=>exact⟨none,rfl,rfl⟩
 | int i t=>exact⟨some (i,t),rfl,rfl⟩
theorem N4:oI X Bw:=by
 intro pi s σ H x v vl vu lo hi sl Q I rx hs pl pu h;obtain⟨z,rfl,hz,q⟩:=h;obtain⟨t,rfl⟩:=rx;obtain⟨ql,rfl,el⟩:=part_of pl;obtain⟨qu,rfl,eu⟩:=part_of pu;refine⟨"str",_,F.slot_str_getitem.lookup,typeIs_str s z t,?_⟩;refine wpAny_getItem_str_slice (l:=ql) (u:=qu) (st:=none) ?_ (by rfl) ?_
 ·obtain⟨o,ho,hc,hd⟩:=hs
  exact⟨o,ho,hc,hd⟩
 ·unfold sliceMade
  have e:StrLaws.sliceText z lo hi=if (((none:Option (Int×Tok)).map (·.1)).getD 1==1&&(slicePicked z ql qu none).length==z.length)=true then z else ⟨((slicePicked z ql qu none).filterMap (z.cps[·]?)).toArray⟩:=by
   unfold StrLaws.sliceText slicePicked;rw[el,eu];rfl
  rw[e]at q;split
  ·rename_i c
   rw[ag c]at q;exact⟨.str z,H,I,⟨t,rfl⟩,q⟩
  ·rename_i c
   rw[ai c]at q;refine⟨?_,.str _,H,I.tok _,⟨_,rfl⟩,q⟩;show (List.filterMap _ (slicePicked z ql qu none)).toArray.size≤sizeLine;rw[dr];exact eR (eR (List.length_filterMap_le _ _) (sliceIndices_le _ _ _)) hz
def Ou(K:p4):V→List V→Hp→VK→Prop:=fun x vs H Q=>∃a xs y,x=.ref a∧vs=[y]∧c6 K H a xs∧R3 y=true∧xs.all R3=true∧xs.length<1000∧
 tF y xs=true∧∀j:Nat,j<xs.length→(∃z,xs[j]?=some z∧fI z y=true)→(∀i z,i<j→xs[i]?=some z→fI z y=false)→Q (.int j) H
theorem eN{α:Type}(e:α→Bool):∀l:List α,l.any e=true→∃j,∃h:j<l.length,e l[j]=true∧∀m (hm:m<l.length),m<j→e l[m]=false
 | [],h=>by simp at h
 | a::r,h=>by
  by_cases ha:e a=true
  ·exact⟨0,by simp,by simpa using ha,fun m _ hm=>absurd hm (o5 _)⟩
  ·have hr:r.any e=true:=by
    rw[List.any_cons,Bool.or_eq_true]at h;exact h.resolve_left ha
   obtain⟨j,hj,h1,h2⟩:=eN e r hr;refine⟨j+1,by simpa using hj,by simpa using h1,fun m hm bx=>?_⟩;cases m with
   | zero=>simpa using ha
   | succ m=>simpa using h2 m (by simpa using hm) (by lia)
theorem Kw:zj X "list.index" (Ou X.K):=by
 intro pi s σ H x vs v us Q I rx rv h;obtain⟨a,xs,y,rfl,rfl,hq,fy,fx,hn,jS,q⟩:=h;cases rx;obtain⟨u,rfl,ru⟩:=rv.one;obtain⟨its,r,⟨o,n,ho,hc,hd,fA⟩,hz⟩:=I.list hq;have hl:=r.length;have SD:its.any (k6 y)=true:=by rw[jH r fx];exact jS
 obtain⟨j,hj,h1,h2⟩:=eN (k6 y) its SD;obtain⟨oc,od,YO,qc⟩:=o;simp only at hc hd fA;subst hc hd fA;have hs:its.toArray.size=its.length:=by simp
 refine call_meets F.slot_list_index ⟨_,ho,rfl⟩ F.entry_list_index (F.args_list_index_2 _ _) (SeqAt.list_indexAt a its.toArray n none qc u (k6 y) j (by simpa using hj) (by omega) (by simpa using h1) (fun m hm bx=>by
  have:=h2 m (by simpa using hm) bx;simpa using this)) ⟨ho,fun w hw=>?_,?_⟩
 ·exact aN ru fy r fx w (by simpa using hw)
 ·refine⟨.int j,H,I.tok _,⟨_,rfl⟩,q j (by omega) ?_ fun i z hi tu=>?_⟩
  case refine_2=>
   obtain⟨w,hw,iS⟩:=r.get tu;have Al:i<its.length:=by omega
   have e:its[i]=w:=by
    have:its[i]?=some its[i]:=by simp[Al]
    rw[hw]at this;exact(cE this).symm
   have h3:=h2 i Al hi;rw[e,iY iS (lL fx _ (jw tu))]at h3;exact h3
  have hx:xs[j]?=some xs[j]:=by simp[show j<xs.length by omega]
  obtain⟨w,hw,iS⟩:=r.get hx;refine⟨_,hx,?_⟩;have e:its[j]=w:=by
   have:its[j]?=some its[j]:=by simp[hj]
   rw[hw]at this;exact(cE this).symm
  rw[e,iY iS (lL fx _ (jw hx))]at h1;exact h1
theorem cY(hc:X.calm=true):gb X (.builtin "max") (fun xs H Q=>∃(a:Addr) (ns:List Int),xs=[.ref a]∧c6 X.K H a (ns.map V.int)∧0<ns.length∧∀M,M∈ns→(∀a,a∈ns→a≤M)→Q (.int M) H):=by
 intro pi s σ H xs us Q I r h;obtain⟨a,ns,rfl,hq,hn,q⟩:=h;obtain⟨u,rfl,ru⟩:=vals1 r;cases ru;obtain⟨its,rv,p,hz⟩:=I.list hq;have hi:IntsAre its ns:=intsAre_of rv;obtain⟨xs,e⟩:=hi.allInts.items;have rg:ns=xs.toList.map (·.1):=by rw[←hi.numsOf,←nums_intItems,←e]
 have hsz:0<xs.size:=by
  have h3:=hn;rw[rg,a9,fR]at h3;exact h3
 have pl:=p.isList;rw[e]at pl;refine max_intList (I.ok.hd hc) pl hsz fun v h' tk hv hk=>?_
 obtain⟨t,rfl⟩:=intItems_at hv;obtain⟨h1,h2⟩:=argBest_gt (numAt xs) (xs.size-1);refine⟨.int _,H,I.kept hk,⟨t,rfl⟩,q _ ?_ fun a ha=>?_⟩
 ·rw[rg,numAt_eq];exact getD_mem (by rw[a9,fR];omega)
 ·rw[rg]at ha
  obtain⟨j,hj,rfl⟩:=mem_getD ha;rw[a9,fR]at hj;rw[←numAt_eq];exact h2 j (by omega)
section
variable{p:Addr}{o:HO}
theorem Inv.Kl(I:Inv X pi σ H s)(hf:∀b∈fp,RB X pi H b)(k:∀b ob,b∉fp→s.heap.get? b=some ob→h'.get? b=some ob):Inv X pi σ H { s with heap:=h',toks:=t' }:=by
 refine I.step (g':=s.gens) (d':=s.drawn) (ch:=fp) (fun b hb=>?_) (fun b ob _ _ hc e _=>k b ob hc e) (fun b ob _ _ hc e _=>⟨ob.slots,k b ob hc e⟩) (fun _ _ _ _ n=>n) (fun b ob hc e=>⟨ob,k b ob hc e⟩) (fun _ _ e=>e) (fun _ _ _ e=>e) (fun b ps e=>⟨#[],by rw[e];simp⟩) (fun m hm=>?_) (fun b u e=>?_) I.bare
 ·obtain⟨_,f1,_,f3,f4,f5⟩:=hf b hb
  exact⟨f3,f1,f4,f5⟩
 ·obtain⟨ob,es,ep,ho,r⟩:=hm
  exact⟨ob,es,ep,k _ ob (fun z=>(hf _ z).2.1 rfl) ho,r⟩
 ·refine(I.az b u e).kb (fun c v hc q=>k c v (fun z=>?_) q) (fun _ q=>q) fun _ _ q=>q
  have n:=(hf c z).1;rcases hc with rfl | hc
  ·rw[n]at e;cases e
  ·rw[n]at hc;cases hc
theorem Inv.EI(I:Inv X pi σ H s)(hf:∀b∈fp,RB X pi H b)(k:∀b ob,b∉fp→s.heap.get? b=some ob→h'.get? b=some ob)(hp:s.heap.objs.size≤p)(new:du X.prog X.w (upd H p o) h' p o):
  Inv X pi σ (upd H p o) { s with heap:=h',toks:=t' }:=by
 have hn:=I.az.fresh hp;have up:∀b u,H b=some u→upd H p o b=some u:=fun b u e=>by rw[CK (FZ e hn)];exact e
 refine I.step (g':=s.gens) (d':=s.drawn) (ch:=fp) (fun b hb=>?_) (fun b ob _ _ hc e _=>k b ob hc e) (fun b ob _ _ hc e _=>⟨ob.slots,k b ob hc e⟩)
  (fun b ob _ e n=>by rw[CK (b0 (g6 (bg e) hp))];exact n) (fun b ob hc e=>⟨ob,k b ob hc e⟩) (fun b xs e=>up b _ e) (fun b u xs e=>up b _ e) (fun b ps e=>⟨#[],by rw[up b _ e];simp⟩) (fun m hm=>?_) (fun b u e=>?_) I.bare
 ·obtain⟨_,f1,_,f3,f4,f5⟩:=hf b hb
  exact⟨f3,f1,f4,f5⟩
 ·obtain⟨ob,es,ep,ho,r⟩:=hm
  exact⟨ob,es,ep,k _ ob (fun z=>(hf _ z).2.1 rfl) ho,r⟩
 ·by_cases hb:b=p
  ·subst hb;rw[CT]at e;cases e;exact new
  ·rw[CK hb]at e
   refine(I.az b u e).kb (fun c v hc q=>k c v (fun z=>?_) q) (fun c q=>up c _ q) fun c xs q=>up c _ q
   have n:=(hf c z).1;rcases hc with rfl | hc
   ·rw[n]at e;cases e
   ·rw[n]at hc;cases hc
theorem rH(hf:∀b∈fp,H b=none)(bx:∀b∈fp,b<p):∀b∈fp,upd H p o b=none:=fun b hb=>by
 rw[CK (b0 (bx b hb))];exact hf b hb
end
noncomputable def GB(K:p4)(a:Addr):It:=
 ⟨fun i H=>∃xs x,c6 K H a xs∧xs[i]?=some x,fun i H x aa=>∃p y,H p=none∧x=.ref p∧(∃o:Obj,o.cls=.type "tuple"∧o.dict=none∧aa=upd H p (.bt o (.tup [.int i,y])))∧∀xs,c6 K H a xs→xs[i]?=some y,fun i H=>∃xs,c6 K H a xs∧xs.length≤i⟩
theorem uF{k:Nat}(a e it:Addr)(c9:e≠it):
  Turn P w K (.Tuple elts k pos) (GB K a) [e,it] e (fun i h=>(∃old,IsEnum h e it i old)∧h.IsListIter it a i) where
 mem:=by simp
 obj:=fun i h st b hb=>by
  obtain⟨⟨old,he⟩,o,ho,hc,hd⟩:=st;rcases cg hb with rfl | hb
  ·exact⟨_,he,fun v z=>by cases z⟩
  ·have:b=it:=by simpa using hb
   subst this;exact⟨o,ho,fun v z=>by rw[hd]at z;cases z⟩
 keep:=fun i h h' st k=>⟨let ⟨old,he⟩:=st.1;⟨old,k e (by simp) _ he⟩,st.2.at fun o q=>k it (by simp) o q⟩
 item:=by
  intro X hP hw hK hc i pi s σ H E I hf st hg;subst hP hw hK;obtain⟨xs,x,hq,hx⟩:=hg;obtain⟨its,rv,p,hz⟩:=I.list hq;obtain⟨u,hu,ru⟩:=rv.get hx;obtain⟨⟨old,he⟩,hit⟩:=st;refine wpAny_pyNext_enum_item he hit p.isList (x:=u) (by simpa using hu) c9 fun h1 qS Tt pV dh ku=>⟨_,rfl,?_⟩
  refine wpAny_letOwnedTupleGo_enum (s:={ s with heap:=h1,toks:=s.toks+1 }) qS fun h2 Dv ee=>?_
  have elt:e<s.heap.objs.size:=bg he;have Ef:it<s.heap.objs.size:=by obtain⟨_,q,_⟩:=hit;exact bg q
  have jl:∀b ob,b∉[e,it]→s.heap.get? b=some ob→h2.get? b=some ob:=fun b ob hb q=>by
   have h3:b≠e:=fun z=>hb (by simp[z])
   have h4:b≠it:=fun z=>hb (by simp[z])
   exact ee.extBut b ob h3 (ku b ob h3 h4 q)
  have kH:h2.get? s.heap.objs.size=some { cls:=.type "tuple",data:=.seq #[.int i s.toks,u] }:=ee.extBut _ _ (i7 elt) pV;have I2:Inv X pi σ (upd H s.heap.objs.size (.bt { cls:=.type "tuple",data:=.seq #[.int i s.toks,u] } (.tup [.int i,x]))) { s with heap:=h2,toks:=s.toks+1 }:=
   I.EI (fp:=[e,it]) (o:=.bt { cls:=.type "tuple",data:=.seq #[.int i s.toks,u] } (.tup [.int i,x])) hf jl (aT _) ⟨kH,by show 2≤sizeLine;decide,[.int i s.toks,u],.cons ⟨_,rfl⟩ (.cons ru .nil),⟨_,kH,rfl,_,rfl⟩⟩
  refine⟨.ref s.heap.objs.size,_,I2,rfl,⟨_,x,I.az.fresh (aT _),rfl,⟨_,rfl,rfl,rfl⟩,fun ys hy=>by rw[I.Je hy hq];exact hx⟩,⟨⟨u,?_⟩,?_⟩,?_⟩
  ·exact Dv
  ·exact Tt.extBut ee.extBut (Ne.symm c9)
  ·refine rH (fun b hb=>(hf b hb).1) fun b hb=>?_
   rcases cg hb with rfl | hb
   ·exact elt
   ·have:b=it:=by simpa using hb
    subst this;exact Ef
 done:=by
  intro X hP hw hK hc i pi s σ H E I hf st hg;subst hP hw hK;obtain⟨xs,hq,hx⟩:=hg;obtain⟨its,rv,p,hz⟩:=I.list hq;obtain⟨⟨old,he⟩,hit⟩:=st;have hl:=rv.length;exact wpAny_pyNext_enum_end (I.ok.hd hc) he hit p.isList (by simp;lia) fun h1 eb=>⟨rfl,I.Kl (t':=s.toks) (fp:=[e,it]) hf fun b ob hb q=>eb b ob (fun z=>hb (by simp[z])) q⟩
 self:=fun A i s Q E st h=>let ⟨old,he⟩:=st.1;wpAny_pyIter_enum he h
noncomputable def Ql(K:p4)(ta:TA):TI:=fun σ H R=>ta σ H fun vs H1=>∃a,vs=[.ref a]∧(∃xs,c6 K H1 a xs)∧R (GB K a) H1
theorem Ma{l:Expr}{ta:TA}{pt:Pos}{k:Nat}(hg:Gl X "enumerate")(hm:X.mg "enumerate" = none)(ha:PA X [l] ta)(hs:starEach [l] X.env=[(false,eval l X.env)]:=by rfl):
  PI X (.Tuple elts k pt) (.Call (.Name "enumerate" p) [l] [] pos) (Ql X.K ta):=by
 intro pi s σ H R I h;refine Call_ (M9 I hg hm boot_enumerate (PyProof.Rows.callWith_type1 (a8 (ha pos pi s σ H _ I h) fun us s1 af=>?_) hs rfl));obtain⟨vs,H1,I1,r1,q1⟩:=af;obtain⟨a,rfl,⟨xs,hq⟩,q⟩:=q1;obtain⟨u,rfl,ru⟩:=r1.one;cases ru;obtain⟨its,rv,pl,hz⟩:=I1.list hq;refine call_enumerate_list pl.isList fun h' he hi hsz hk=>?_
 refine wpAny_pyIter_enum he ?_;have I2:Inv X pi σ H1 { s1 with heap:=h' }:=I1.kept (t':=s1.toks) hk;refine⟨_,[s1.heap.objs.size+1,s1.heap.objs.size],_,_,H1,rfl,I2,uF a _ _ (Nat.succ_ne_self _),⟨⟨_,he⟩,hi⟩,fun b hb=>?_,q⟩;have g7:s1.heap.objs.size≤b:=by
  rcases cg hb with rfl | hb
  ·exact qq _
  ·have:b=s1.heap.objs.size:=by simpa using hb
   rw[this];exact aT _
 exact I1.pq g7 (I1.az.fresh g7)
end L2
namespace PySem
open Sem (wp)
open AutoSeq1 (wpAny_loadPart')
namespace F
theorem Wi:typeLookup (.type "tuple") (Str.ofString "__reversed__")=pure none:=by rw[jx,jy];kernel_rfl
theorem JP:typeLookup (.type "tuple") (Str.ofString "__getitem__")=pure (some (.builtin "tuple.__getitem__")):=by rw[jx,jy];kernel_rfl
theorem Wk:isSubtype (.type "tuple") (.type "dict")=pure false:=by rw[isSubtype_type];kernel_rfl
theorem LU:Slot "reversed" "__init__" "object.__init__":=
 .of (owner:="object") (n:="__init__") (by rw[jx,jy];kernel_rfl) (by decide +kernel) (by decide +kernel) (by decide +kernel)
  (by first | exact .inl (by decide +kernel) | exact .inr (by decide +kernel)) (by rw[isSubtype_type];kernel_rfl)
theorem Wf:TypeCalled "reversed" "reversed.__new__" "object.__init__":=
 ⟨by decide +kernel,create_reversed,⟨_,_,mro_reversed⟩,made_reversed,plain_reversed_new,sub_reversed_self,LU⟩
theorem yn:Slot "reversed" "__next__" "reversed.__next__":=
 .of (owner:="reversed") (n:="__next__") (by rw[jx,jy];kernel_rfl) (by decide +kernel) (by decide +kernel) (by decide +kernel)
  (by first | exact .inl (by decide +kernel) | exact .inr (by decide +kernel)) (by rw[isSubtype_type];kernel_rfl)
theorem JS:Slot "reversed" "__iter__" "reversed.__iter__":=
 .of (owner:="reversed") (n:="__iter__") (by rw[jx,jy];kernel_rfl) (by decide +kernel) (by decide +kernel) (by decide +kernel)
  (by first | exact .inl (by decide +kernel) | exact .inr (by decide +kernel)) (by rw[isSubtype_type];kernel_rfl)
theorem JO:entryFor table "reversed.__next__" = some Builtin.«reversed.__next__»:=zI (by kernel_rfl)
theorem Wh:entryFor table "reversed.__iter__" = some Builtin.«dict_keyiterator.__iter__»:=
 entryFor_alias (id':="dict_keyiterator.__iter__") (by kernel_rfl) (by first | rfl | decide +kernel | (unfold String.splitOn;simp +decide [String.splitOnAux])) (by decide +kernel) (by kernel_rfl)
theorem Cv:Manifest.owners.lookup (String.ofList ['d','e','s','r','e','v','e','r'].reverse)=some Manifest.sig_reversed:=by kernel_rfl
theorem JJ(a:Value):argsOk "reversed.__next__" ⟨[a],[]⟩:=by
 unfold argsOk;rw[signature?_of (id:="reversed.__next__") (n:=['_','_','t','x','e','n','_','_']) (o:=['d','e','s','r','e','v','e','r']) (by kernel_rfl) Cv];kernel_rfl
theorem We(a:Value):argsOk "reversed.__iter__" ⟨[a],[]⟩:=by
 unfold argsOk;rw[signature?_of (id:="reversed.__iter__") (n:=['_','_','r','e','t','i','_','_']) (o:=['d','e','s','r','e','v','e','r']) (by kernel_rfl) Cv];kernel_rfl
theorem Wj:typeLookup (.type "reversed") "__len__" = pure none:=by rw[jx,jy];kernel_rfl
theorem EC:typeLookup (.type "reversed") "__length_hint__" = pure (some (.builtin "reversed.__length_hint__")):=by rw[jx,jy];kernel_rfl
end F
noncomputable abbrev kT (h:Heap) (r t:Addr) (i:Int):Prop:=h.get? r=some { cls:=.type "reversed",data:=.fields #[.ref t,rawInt i] }
theorem gM(t:Addr)(xs:Array Value)(hz:xs.size≤sizeLine):
  Meets (Builtin.«reversed.__new__» ⟨[.type "reversed",.ref t],[]⟩) (fun _ R s=>i9 s.heap t xs∧
   R (.ok (.ret (.ref s.heap.objs.size))) { s with heap:=s.heap.push { cls:=.type "reversed",data:=.fields #[.ref t,rawInt ((xs.size:Int)-1)] },toks:=s.toks+1+1 }):=
 .of_wp fun prog w A R s h=>by
  obtain⟨hp,g,d,tk,os⟩:=s;obtain⟨hl,h⟩:=h;have kB:=F.sub_reversed_self;have hT:Shared.TypeIs ⟨hp,g,d,tk,os⟩ (.ref t) "tuple":=hl.typeIs;have h1:=F.Wi;have h2:=F.JP;have h3:=F.Wk;have Aj:((xs.size:Int))<2 ^ 63:=by rw[eI]at hz;lia
  unfold Builtin.«reversed.__new__»
  wp_walk using PyProof.Rows.len_tuple hl Aj
  exact⟨_,rfl,h⟩
theorem LW{t:Addr}(hl:i9 s.heap t xs)(hz:xs.size≤sizeLine)(h:Q (.ref s.heap.objs.size) { s with heap:=s.heap.push { cls:=.type "reversed",data:=.fields #[.ref t,rawInt ((xs.size:Int)-1)] },toks:=s.toks+1+1 }):wpAny (model prog w) A (call (.type "reversed") [.ref t]) Q E s:=
 callType_new F.Wf (by decide) (F.typeCall_reversed_1 _) (F.newCall_reversed_1 _) (fun obj=>F.args_object_init_2 obj _) F.entry_reversed_new (gM t xs hz) ⟨hl,⟨_,c8 _ rfl,rfl⟩,h⟩
theorem gO{r t:Addr}{x:Value}{Q:Option Value→Shared→Prop}(hr:kT s.heap r t (i:Int))(ht:i9 s.heap t xs)(hx:xs[i]?=some x)(hz:xs.size≤sizeLine)(hQ:∀h' tk,kT h' r t ((i:Int)-1)→Heap.SameBut r s.heap h'→Q (some x) { s with heap:=h',toks:=tk }):wpAny (model prog w) A (pyNext (.ref r)) Q E s:=by
 have hT:s.TypeIs (.ref r) "reversed":=⟨_,hr,rfl⟩
 have bx:i<xs.size:=(Array.getElem?_eq_some_iff.mp hx).1;have Aj:((xs.size:Int))<2 ^ 63:=by rw[eI]at hz;lia
 unfold pyNext;refine ab (wpAny_attempt (wpAny_callSpecial?_slot (name:=Str.ofString "__next__") hT F.yn (gn F.yn hT F.JO ?_ (F.JJ _))));unfold Builtin.«reversed.__next__»;refine ab (wpAny_of_eq (a:=(Value.ref r,[])) rfl ?_);refine ab (wpAny_field hr rfl (x:=.ref t) rfl ?_);refine ab (wpAny_field hr rfl (x:=rawInt (i:Int)) rfl ?_);show wpAny _ _ (if (i:Int)<0 then _ else _) _ _ s;rw[ai (by lia)];refine ab (wpAny_specialOf ht.typeIs F.JP ?_);rw[ai (by simp)];refine ab (wpAny_mkInt ?_);refine ab (wpAny_attempt (PyProof.Rows.getItem_tuple (j:=i) ht (by lia) (by lia) (by unfold seqIndex?;simp;lia) hx ?_));refine ab (wpAny_field (s:={ s with toks:=s.toks+1 }) hr rfl (x:=rawInt (i:Int)) rfl ?_);refine ab (wpAny_setField_rec (s:={ s with toks:=s.toks+1 }) hr (by simp) fun h' Ax j0=>ah ⟨x,rfl,ah (hQ h' _ Ax j0)⟩)
theorem RM{Q:Option Value→Shared→Prop}(hh:A.handled=none)(hk:Heap.ExtBut it h s.heap)(hQ:∀h',Heap.ExtBut it h h'→Q none { s with heap:=h' }) :
  wpAny (model prog w) A.in1 (Builtin.SmallTypes.stopIteration:Sem α) (fun _ _=>False)
   (fun e s'=>wpAny (model prog w) A (match (Except.error e:Except Value (Option Value)) with
    | .ok (some v)=>pure (some v)
    | .ok none=>unsupported "iter:the-iterator's-class-has-lost-its-__next__-amid-the-walk"
    | .error e=>do if ←isInstance e (.type "StopIteration") then pure none else throw e) Q E s') s:=by
 unfold Builtin.SmallTypes.stopIteration;refine ab ?_;simp only[newExc,newTuple];refine ab (iL ?_ (by size_fits));refine ab (m:=firstArgMember _ _) (wpAny_of_eq (a:=Value.none) (by first | rfl | (simp only[firstArgMember];rfl)) ?_);refine iL ?_ (by size_fits);simp only[raiseNew];refine ab (wpAny_handled ?_);rw[show A.in1.handled=none from hh];refine ab (ah (wpAny_throw ?_));refine ab (wpAny_isInstance (T:="StopIteration") (b:=true) ⟨_,c8 _ rfl,rfl⟩ isSubtype_stop ?_);exact ah (hQ _ ((hk.push _).push _))
theorem jX{r t:Addr}{Q:Option Value→Shared→Prop}(hh:A.handled=none)(hr:kT s.heap r t (-1))(hQ:∀h',Heap.ExtBut r s.heap h'→Q none { s with heap:=h' }):wpAny (model prog w) A (pyNext (.ref r)) Q E s:=by
 have hT:s.TypeIs (.ref r) "reversed":=⟨_,hr,rfl⟩
 unfold pyNext;refine ab (wpAny_attempt (wpAny_callSpecial?_slot (name:=Str.ofString "__next__") hT F.yn (gn F.yn hT F.JO ?_ (F.JJ _))));unfold Builtin.«reversed.__next__»;refine ab (wpAny_of_eq (a:=(Value.ref r,[])) rfl ?_);refine ab (wpAny_field hr rfl (x:=.ref t) rfl ?_);refine ab (wpAny_field hr rfl (x:=rawInt (-1)) rfl ?_);show wpAny _ _ (if (-1:Int)<0 then _ else _) _ _ s;rw[ag (by decide)];refine ab (jn ?_);refine ab ?_;refine ab (wpAny_setField_rec hr (by simp) fun h1 D4 dh=>?_);refine wpAny_setField_rec (s:={ s with heap:=h1 }) D4 (by simp) fun h2 vc ee=>?_
 refine ab (fb (RM (s:={ s with heap:=h2 }) (h:=s.heap) (it:=r) (Q:=Q) (E:=E) hh (fun b o hb e=>ee.extBut b o hb (dh.extBut b o hb e)) fun h' hk=>hQ h' hk) (fun _ _ f=>f.elim) fun e s' q=>q)
theorem V8{r t:Addr}{i:Int}(hr:kT s.heap r t i)(h:Q (.ref r) s):wpAny (model prog w) A (pyIter (.ref r)) Q E s:=by
 have hT:s.TypeIs (.ref r) "reversed":=⟨_,hr,rfl⟩
 refine wpAny_pyIter_slot hT F.JS (gn F.JS hT F.Wh ?_ (F.We _));show wpAny _ _ (ret (.ref r)) _ _ s;exact ah ⟨_,rfl,"reversed",_,hT,F.yn.lookup,h⟩
theorem Walks.rev(hh:A.handled=none)(r t:Addr)(c9:t≠r)(xs:Array Value)(hz:xs.size≤sizeLine):
  Walks prog w A r [r,t] [r] xs.size (fun i v=>xs[xs.size-1-i]?=some v) (fun i h=>i≤xs.size∧kT h r t ((xs.size:Int)-1-(i:Int))∧i9 h t xs) where
 sub:=fun b hb=>by simp at hb;simp[hb]
 frame:=fun _ _ _ x hk=>⟨x.1,hk r (by simp) _ x.2.1,let ⟨o,e,c⟩:=x.2.2;⟨o,hk t (by simp) _ e,c⟩⟩
 item:=fun i s Q E hi x hQ=>by
  have e:(xs.size:Int)-1-(i:Int)=((xs.size-1-i:Nat):Int):=by omega
  have hr:=x.2.1;rw[e]at hr;have hx:xs[xs.size-1-i]?=some (xs[xs.size-1-i]'(by omega)):=Array.getElem?_eq_getElem (by omega);refine gO hr x.2.2 hx hz fun h' tk Ax j0=>?_
  have e2:((xs.size-1-i:Nat):Int)-1=(xs.size:Int)-1-((i+1:Nat):Int):=by omega
  rw[e2]at Ax;exact hQ _ h' tk hx ⟨hi,Ax,let ⟨o,eo,c⟩:=x.2.2;⟨o,(j0.2 t c9).trans eo,c⟩⟩ fun b o hb eo=>j0.extBut b o (fun h=>hb (by simp[h])) eo
 done:=fun s Q E x hQ=>by
  have e:(xs.size:Int)-1-(xs.size:Int)=-1:=by omega
  have hr:=x.2.1;rw[e]at hr;exact jX hh hr fun h' sA=>hQ h' s.toks fun b o hb eo=>sA b o (fun h=>hb (by simp[h])) eo
 self:=fun _ _ _ _ x hQ=>V8 x.2.1 hQ
end PySem
namespace PySem
open Sem (wp)
open AutoSeq1 (wpAny_loadPart')
namespace F
theorem JU:Slot "reversed" "__length_hint__" "reversed.__length_hint__":=
 .of (owner:="reversed") (n:="__length_hint__") (by rw[jx,jy];kernel_rfl) (by decide +kernel) (by decide +kernel) (by decide +kernel)
  (by first | exact .inl (by decide +kernel) | exact .inr (by decide +kernel)) (by rw[isSubtype_type];kernel_rfl)
theorem Wg:entryFor table "reversed.__length_hint__" = some Builtin.«reversed.__length_hint__»:=zI (by kernel_rfl)
theorem Wd(a:Value):argsOk "reversed.__length_hint__" ⟨[a],[]⟩:=by
 unfold argsOk;rw[signature?_of (id:="reversed.__length_hint__") (n:=['_','_','t','n','i','h','_','h','t','g','n','e','l','_','_']) (o:=['d','e','s','r','e','v','e','r']) (by kernel_rfl) Cv];kernel_rfl
end F
theorem gP{r t:Addr}(hr:kT s.heap r t ((xs.size:Int)-1))(ht:i9 s.heap t xs)(hz:xs.size≤sizeLine)(h:∀u tk,Q (.int xs.size u) { s with toks:=tk }):wpAny (model prog w) A (call (.builtin "reversed.__length_hint__") [.ref r]) Q E s:=by
 have hT:s.TypeIs (.ref r) "reversed":=⟨_,hr,rfl⟩
 have Aj:((xs.size:Int))<2 ^ 63:=by rw[eI]at hz;lia
 refine gn F.JU hT F.Wg ?_ (F.Wd _);unfold Builtin.«reversed.__length_hint__»;refine ab (wpAny_of_eq (a:=Value.ref r) rfl ?_);refine ab (wpAny_field hr rfl (x:=.ref t) rfl ?_);show wpAny _ _ (if (Value.ref t==Value.none)=true then _ else _) _ _ s;rw[ai (show ¬((Value.ref t==Value.none)=true) from dE)];refine ab (PyProof.Rows.len_tuple ht Aj ?_);refine ab (m:=asInt? _) (ah ?_);refine ab (wpAny_field (s:={ s with toks:=s.toks+1+1 }) hr rfl (x:=rawInt ((xs.size:Int)-1)) rfl ?_);show wpAny _ _ (if (xs.size:Int)<(xs.size:Int)-1+1 then _ else _) _ _ _;rw[ai (by lia)];refine ab (wpAny_mkInt (ah ⟨_,rfl,?_⟩));have e:(xs.size:Int)-1+1=xs.size:=by lia
 rw[e];exact h _ _
theorem LV(h:n≤sizeLine):Builtin.List.listFitsIndex (n:Int)=true:=by
 have:=L2.vj;unfold Builtin.List.listFitsIndex;have a:(n:Int)≤(sizeLine:Nat):=by exact_mod_cast h
 have b:((sizeLine:Nat):Int)<2 ^ 63:=by exact_mod_cast this
 generalize ((sizeLine:Nat):Int)=z at a b;simp only[gh,decide_eq_true_eq];constructor<;>lia
theorem EC{r t:Addr}{xs:Array Value}{Q:Bool→Shared→Prop}(hr:kT s.heap r t ((xs.size:Int)-1))(ht:i9 s.heap t xs)(hz:xs.size≤sizeLine)
  (h:∀b tk,Q b { s with toks:=tk }):wpAny (model prog w) A (Builtin.List.listLengthHint (.ref r)) Q E s:=by
 have hT:s.TypeIs (.ref r) "reversed":=⟨_,hr,rfl⟩
 unfold Builtin.List.listLengthHint;refine ab (wpAny_specialOf hT F.Wj ?_);refine ab (wpAny_specialOf hT F.EC ?_);generalize qV:("reversed.__length_hint__" : String)=xS
 wp_delta
 rw[show splitId xS=some ("reversed","__length_hint__") from by subst qV;decide +kernel];subst qV;refine ab (wpAny_isInstance (T:="reversed") (b:=true) hT F.sub_reversed_self ?_);refine wpAny_ite_split (fun fc=>absurd fc (by decide)) (fun _=>?_);refine wpAny_ite_split (fun fc=>absurd fc (by decide +kernel)) (fun _=>?_);refine ab (jn ?_);refine ab (wpAny_of_eq (F.JU.bind _) ?_);refine ab (wpAny_attempt (gP hr ht hz fun u tk=>?_));have ea:asInt? (Value.int (xs.size:Int) u)=pure (some (xs.size:Int)):=rfl;simp only[ea,pure_bind];have hn:¬((xs.size:Int)<0):=by lia
 have e1:((!Builtin.List.listFitsIndex (xs.size:Int))=true)=False:=by
  rw[LV hz];simp
 have e2:(Builtin.List.listTooLong ((xs.size:Int).toNat)=true)=False:=by
  rw[L2.Js (by rw[Int.toNat_natCast];exact hz)];simp
 simp only[e1,e2,hn,if_false];exact ah (h _ _)
theorem LS{r t:Addr}(hh:A.handled=none)(hr:kT s.heap r t ((xs.size:Int)-1))(ht:i9 s.heap t xs)(hz:xs.size≤sizeLine)(hQ:∀h' tk acc c,(∀b o,b≠r→s.heap.get? b=some o→h'.get? b=some o)→h'.get? s.heap.objs.size=some { cls:=.type "list",data:=.seq acc c }→ItemsOf (fun i v=>xs[xs.size-1-i]?=some v) acc xs.size→Q (.ref s.heap.objs.size) { s with heap:=h',toks:=tk }) :
  wpAny (model prog w) A (call (.type "list") [.ref r]) Q E s:=by
 have UA:t≠r:=fun e=>by
  obtain⟨o,eo,co,_⟩:=ht;rw[e,hr]at eo;cases eo;simp at co
 refine callType_codes (Q₁:=fun obj bc=>obj=.ref s.heap.objs.size∧bc={ s with heap:=s.heap.push { cls:=.type "list",data:=.seq #[] } }) F.called_list (F.typeCall_list_1 _) F.entry_list_init (code_list_new _ ⟨rfl,rfl⟩) ?_;rintro obj bc ⟨rfl,rfl⟩;have hS:(s.heap.push { cls:=.type "list",data:=.seq #[] }).get? s.heap.objs.size=some { cls:=.type "list",data:=.seq #[] }:=c8 _ rfl;refine⟨⟨_,hS,rfl⟩,F.args_list_init_2 _ _,?_⟩;generalize hH:s.heap.push { cls:=.type "list",data:=.seq #[] }=H1 at hS;have k1:∀b o,s.heap.get? b=some o→H1.get? b=some o:=fun b o e=>by rw[←hH];exact cz _ e
 have D4:kT H1 r t ((xs.size:Int)-1):=k1 _ _ hr;have pV:i9 H1 t xs:=let ⟨o,e,c⟩:=ht;⟨o,k1 _ _ e,c⟩
 have Ay:s.heap.objs.size≠r:=i7 (bg hr);have D8:t<s.heap.objs.size:=by obtain⟨o,e,_⟩:=ht;exact bg e
 have uu:s.heap.objs.size∉[r,t]:=fun z=>by
  rcases cg z with z | z
  ·exact Ay z
  ·exact absurd (fg z) (i7 D8)
 have W:=(Walks.rev (prog:=prog) (w:=w) (A:=A.in1.in1) hh r t UA xs hz).toS;have loop:∀(h:Heap) (c tk:Nat),kT h r t ((xs.size:Int)-1)→i9 h t xs→h.get? s.heap.objs.size=some { cls:=.type "list",data:=.seq #[] c }→(∀b o,b≠r→s.heap.get? b=some o→h.get? b=some o)→
   codeAny (model prog w) A.in1 (.builtin "list.extend.loop" ⟨[.ref s.heap.objs.size,.ref r,.none],[]⟩) (wants (fun r cx=>r=.none∧Q (.ref s.heap.objs.size) cx) E) { s with heap:=h,toks:=tk }:=by
  intro h c tk a1 a2 a3 a4;refine codeAny_extend_loopS W hz _ uu .none xs.size 0 _ #[] c rfl (eM _) ⟨eM _,by simpa using a1,a2⟩ a3 (ItemsOf.nil _) fun s' gN cw hm md gS=>?_
  rw[Moved.eq_with hm];refine⟨rfl,hQ s'.heap s'.toks gN cw (fun b o hb e=>hm.heap b o (fun z=>?_) (a4 b o hb e)) md gS⟩;rcases cg z with z | z
  ·exact absurd (bg e) (by rw[z];exact gp _)
  ·exact hb (fg z)
 unfold Builtin.«list.__init__»;show wpAny _ _ (do let old ←Builtin.List.listItems (.ref s.heap.objs.size);Builtin.List.listUpdate (.ref s.heap.objs.size) (fun _=>#[]);letGo old.toList.reverse;Builtin.List.listExtendWith (.ref s.heap.objs.size) (.ref r) .none) _ _ _;refine ab ?_;unfold Builtin.List.listItems;refine ab (wpAny_seqItems hS rfl (ah ?_));refine ab (m:=updateSeq s.heap.objs.size (fun _=>#[])) (wpAny_updateSeq hS rfl ?_);have ur:=o4 (Obj.mapSeq (fun _=>(#[]:Array Value))) hS rfl;have k2:∀b o,b≠s.heap.objs.size→H1.get? b=some o→(H1.update s.heap.objs.size (Obj.mapSeq (fun _=>(#[]:Array Value)))).get? b=some o:=fun b o hb e=>(Heap.get?_update_other _ _ (Ne.symm hb)).trans e
 generalize Ab:H1.update s.heap.objs.size (Obj.mapSeq (fun _=>(#[]:Array Value)))=H2 at ur k2;have vc:kT H2 r t ((xs.size:Int)-1):=k2 _ _ (Ne.symm Ay) D4;have kH:i9 H2 t xs:=let ⟨o,e,c⟩:=pV;⟨o,k2 _ _ (b0 D8) e,c⟩
 have k3:∀b o,s.heap.get? b=some o→H2.get? b=some o:=fun b o e=>k2 b o (b0 (bg e)) (k1 b o e)
 refine ab (wpAny_letGo ?_);unfold Builtin.List.listExtendWith;refine ab (wpAny_typeOf (T:="reversed") ⟨_,vc,rfl⟩ ?_);rw[ai (by simp[Builtin.List.listSameRef,Ay])];refine ab (V8 vc ?_);refine ab (gX (EC vc kH hz fun b tk=>?_));refine wpAny_ite_split (fun _=>?_) (fun _=>ah ⟨plainId_quiet F.plain_extend_loop _,loop H2 _ tk vc kH ur fun b o _ e=>k3 b o e⟩);refine ab (jn ?_);refine ab ?_;show wpAny _ _ (updateSeq s.heap.objs.size (·.push .none) >>= fun _=>updateSeq s.heap.objs.size (·.pop)) _ _ _;refine ab (wpAny_updateSeq ur rfl ?_);have Ia:=o4 (Obj.mapSeq (·.push Value.none)) ur rfl;refine wpAny_updateSeq (hz:=by seq_fits) Ia rfl ?_;have Sv:=o4 (Obj.mapSeq (·.pop)) Ia rfl;have k4:∀b o,b≠s.heap.objs.size→H2.get? b=some o→((H2.update s.heap.objs.size (Obj.mapSeq (·.push Value.none))).update s.heap.objs.size (Obj.mapSeq (·.pop))).get? b=some o:=
  fun b o hb e=>(Heap.get?_update_other _ _ (Ne.symm hb)).trans ((Heap.get?_update_other _ _ (Ne.symm hb)).trans e)
 exact ah ⟨plainId_quiet F.plain_extend_loop _,loop _ _ tk (k4 _ _ (Ne.symm Ay) vc) (let ⟨o,e,c⟩:=kH;⟨o,k4 _ _ (b0 D8) e,c⟩) Sv fun b o _ e=>k4 b o (b0 (bg e)) (k3 b o e)⟩
end PySem
namespace L2
open PySem PySem.Spec PyProof.Rows
noncomputable def PQ(K:p4)(te:TE):TE:=fun σ H Q=>te σ H fun x H1=>∃a xs,[x]=[V.ref a]∧dv K H1 a xs∧∀l,H1 l=none→Q (.ref l) (upd H1 l (.lst xs.reverse))
theorem yP{xs:List V}{acc:Array Value}(r:Vals xs its)(hi:ItemsOf (fun i v=>its.toArray[its.toArray.size-1-i]?=some v) acc its.toArray.size):Vals xs.reverse acc.toList:=by
 have e:acc.toList=its.reverse:=by
  apply List.ext_getElem?;intro i;have hs:its.toArray.size=its.length:=by simp
  have h1:=hi.1;rw[hs]at h1
  by_cases bx:i<its.length
  ·have ha:acc[i]?=some acc[i]:=by simp[show i<acc.size by omega]
   have h2:=hi.2 i _ ha;rw[Array.getElem?_toList,ha,List.getElem?_reverse bx,←h2,hs];simp
  ·rw[List.getElem?_eq_none (by rw[fR];omega),List.getElem?_eq_none (by rw[List.length_reverse];omega)]
 rw[e];exact r.reverse
theorem Me{q2:Pos}(hc:X.calm=true)(jk:Gl X "list")(hJ:X.mg "list" = none)(mq:Gl X "reversed")(mr:X.mg "reversed" = none)(he:PE X e te)(dh:starEach [Expr.Call (.Name "reversed" p2) [e] [] q2] X.env=[(false,eval (.Call (.Name "reversed" p2) [e] [] q2) X.env)]:=by rfl)(ee:starEach [e] X.env=[(false,eval e X.env)]:=by rfl) :
  PE X (.Call (.Name "list" p1) [.Call (.Name "reversed" p2) [e] [] q2] [] q1) (PQ X.K te):=by
 intro pi s σ H Q I h;refine Call_ (M9 I jk hJ boot_list (PyProof.Rows.callWith_type1 ?_ dh rfl));have inner:wpAny (model X.prog X.w) X.A (eval (.Call (.Name "reversed" p2) [e] [] q2) X.env)
   (fun v s1=>∃a xs its r H1,v=.ref r∧Inv X pi σ H1 s1∧dv X.K H1 a xs∧Vals xs its∧IsTup s1.heap a its.toArray∧xs.length≤sizeLine∧kT s1.heap r a ((its.toArray.size:Int)-1)∧RB X pi H1 r∧∀l,H1 l=none→Q (.ref l) (upd H1 l (.lst xs.reverse))) X.xe s:=by
  refine Call_ (M9 I mq mr boot_reversed (PyProof.Rows.callWith_type1 (a8 (J5 he JM ee q2 pi s σ H (fun vs H1=>∃a xs,vs=[.ref a]∧dv X.K H1 a xs∧∀l,H1 l=none→Q (.ref l) (upd H1 l (.lst xs.reverse))) I ?_) fun us s1 ⟨vs,H1,I1,r1,q1⟩=>?_) ee rfl))
  ·exact h
  ·obtain⟨a,xs,rfl,hq,q⟩:=q1
   obtain⟨u,rfl,ru⟩:=r1.one;cases ru;obtain⟨its,rv,ht,hz⟩:=I1.tuple hq;have hl:=rv.length;refine LW ht (by rw[dr];lia) ?_;refine⟨a,xs,its,_,H1,rfl,I1.kept fun b o e=>cz _ e,hq,rv,?_,hz,c8 _ rfl,I1.pq (aT _) (I1.az.fresh (aT _)),q⟩;obtain⟨o,eo,c⟩:=ht;exact⟨o,cz _ eo,c⟩
 rw[dh];refine qy (a8 inner fun v s1 af=>?_);obtain⟨a,xs,its,r,H1,ev,I1,hq,rv,ht,hz,hr,hf,q⟩:=af;refine sj ?_;subst ev;have hl:=rv.length;refine LS (I1.ok.hd hc) hr ht (by rw[dr];lia) fun h' tk acc c hk hS hi=>?_
 have I2:Inv X pi σ (upd H1 s1.heap.objs.size (.lst xs.reverse)) { s1 with heap:=h',toks:=tk }:=
  I1.EI (fp:=[r]) (o:=.lst xs.reverse) (fun b hb=>by rw[fg hb];exact hf) (fun b ob hb e=>hk b ob (fun z=>hb (by simp[z])) e) (aT _)
   ⟨by rw[List.length_reverse];exact hz,acc.toList,c,yP rv hi,by simpa using hS⟩
 exact⟨.ref _,_,I2,rfl,q _ (I1.az.fresh (aT _))⟩
end L2
namespace PySem
open Sem (wp)
namespace F
theorem Rz:typeLookup (.type "tuple") (Str.ofString "keys")=pure none:=by rw[jx,jy];kernel_rfl
end F
theorem vN{o:Obj}{k:Nat}{Q:Option Value→Shared→Prop}(hx:s.heap.get? a=some o)(hc:o.cls=.type "tuple")(fA:o.data=.seq xs k)(hd:o.dict=none)(hA:A.handled=none)(h:∀h' tk,(∀b ob,s.heap.get? b=some ob→h'.get? b=some ob)→Q none { s with heap:=h',toks:=tk }):wpAny (model prog w) A (getAttr? (.ref a) "keys") Q E s:=by
 obtain⟨c,aq,dat,sl⟩:=o;simp only at hc fA hd;subst hc fA hd;obtain⟨hp,g,d,tk,os⟩:=s;have hT:∀qh,(⟨hp,g,d,qh,os⟩:Shared).TypeIs (.ref a) "tuple":=fun _=>⟨_,hx,rfl⟩
 have f1:=sub_AttributeError;have f3:=F.slot_tuple_getattribute.lookup;have f4:=F.slot_tuple_getattribute.bind (.ref a);have f5:=am_tuple_getattr_none;have n1:(["__module__","__name__","__qualname__","__doc__","__annotations__"]:List Str).contains (Str.ofString "keys")=false:=by decide +kernel
 have n2:(Str.ofString "keys").length+100≤sizeLine:=by decide +kernel
 unfold getAttr? getAttrBy? getAttrBy
 repeat (any_goals (first | assumption | exact hT _ | ((with_reducible show wpAny _ _ (call (Value.builtin "tuple.__getattribute__") _ _) _ _ _);refine call_meets F.slot_tuple_getattribute (hT _) am_entry_tuple_getattribute (F.args_tuple_getattribute_2 _ _) (meets_getattribute_miss_tuple a xs k sl (Str.ofString "keys") _ F.Rz n1 n2) ⟨hx,hA,fun h' qh e kK=>?_⟩) | wp_step))
 obtain⟨t',gz,he⟩:=kK.there;show wpAny _ _ (getattributeRaised _ _ _ _ _ _ _) _ _ _;unfold getattributeRaised
 repeat (any_goals (first | assumption | wp_step))
 exact h _ _ kK.keeps
namespace F
theorem qw:plainId "dict.update.loop" = true:=by decide +kernel
theorem zv:entryFor table "dict.update.loop" = some Builtin.«dict.update.loop»:=zI (by kernel_rfl)
end F
section
variable{K:Type}[DecidableEq K]{knd:KeyKind prog w K}
def iq(knd:KeyKind prog w K)(h:Heap):List Value→List (K×Value)→Prop:=Paired fun u p=>∃a key,u=Value.ref a∧knd.is p.1 key=true∧i9 h a #[key,p.2]
theorem iq.keep{ps:List (K×Value)}{d:Addr}(x:iq knd h us ps)(hd:∀u∈us,u≠.ref d∧u≠.ref it)(k:∀b o,b≠d→b≠it→h.get? b=some o→h'.get? b=some o):iq knd h' us ps:=by
 induction x with
 | nil=>exact .nil
 | cons q t ih=>
  obtain⟨a,key,e,hk,o,ho,hc⟩:=q;refine .cons ⟨a,key,e,hk,o,k _ _ ?_ ?_ ho,hc⟩ (ih fun u hu=>hd u (b8 _ hu))
  ·rintro rfl;exact(hd _ bX).1 e
  ·rintro rfl;exact(hd _ bX).2 e
theorem dG(kvs:List (K×Value))(k:K)(v:Value):(stored kvs k v).length≤kvs.length+1:=by
 unfold stored;split
 ·rw[a9];lia
 ·rw[fN,l9];lia
theorem Nh{d t:Addr}(hh:A.handled=none)(Dt:d≠t)(hit:it≠t)(sy:d≠it)(iP:∀u∈us,u≠.ref d∧u≠.ref it)(hz:us.length≤1000):
  ∀(n i:Nat) (s:Shared) (ps:List (K×Value)) (kvs:List (K×Value)),us.length-i=n→i≤us.length→s.heap.IsTupleIter it t i→i9 s.heap t us.toArray→iq knd s.heap (us.drop i) ps→s.heap.DictOf knd d kvs→kvs.length+ps.length≤2000→
   (∀h' tk,h'.DictOf knd d (ps.foldl (fun acc p=>stored acc p.1 p.2) kvs)→(∀b o,b≠d→b≠it→s.heap.get? b=some o→h'.get? b=some o)→R (.ok (.ret .none)) { s with heap:=h',toks:=tk })→
   codeAny (model prog w) A (.builtin "dict.update.loop" ⟨[.ref d,.ref it,rawInt i,.none],[]⟩) R s:=by
 intro n
 induction n with
 | zero=>
  intro i s ps kvs hn hi hI hT hP hD hl hR;refine kl F.zv ?_;rw[k8 F.qw _];unfold Builtin.«dict.update.loop»;have DM:us.drop i=[]:=List.drop_eq_nil_of_le (by lia);rw[DM]at hP;cases hP;refine ab (wpAny_pyNext_tuple_end (A:=A.in1) hh hI (show s.heap.IsTuple t us.toArray from hT) (by simp;lia) fun h' hk=>?_);refine ab (m:=Builtin.Dict.addKeywords d []) (ah ?_);refine ah (hR h' s.toks ?_ fun b o _ hb e=>hk b o hb e);obtain⟨o,es,ep,ho,r⟩:=hD;exact⟨o,es,ep,hk _ _ sy ho,r⟩
 | succ n ih=>
  intro i s ps kvs hn hi hI hT hP hD hl hR;refine kl F.zv ?_;rw[k8 F.qw _];unfold Builtin.«dict.update.loop»;have bx:i<us.length:=by lia
  have Dr:us.drop i=us[i]::us.drop (i+1):=List.drop_eq_getElem_cons bx;rw[Dr]at hP;cases hP with
  | @cons u p EK qd q rest=>
  obtain⟨a,key,ea,hk,ha⟩:=q;have xx:=iP us[i] (List.getElem_mem bx);refine ab (wpAny_pyNext_tuple_item hI (show s.heap.IsTuple t us.toArray from hT) (x:=us[i]) (by simp[bx]) fun h1 jz dh=>?_);have Dj:i9 h1 a #[key,p.2]:=let ⟨o,ho,hc⟩:=ha;⟨o,(dh.2 a (fun z=>xx.2 (by rw[ea,z]))).trans ho,hc⟩
  have xh:i9 h1 t us.toArray:=let ⟨o,ho,hc⟩:=hT;⟨o,(dh.2 t (Ne.symm hit)).trans ho,hc⟩
  have C7:h1.DictOf knd d kvs:=let ⟨o,es,ep,ho,r⟩:=hD;⟨o,es,ep,(dh.2 d sy).trans ho,r⟩
  have De:iq knd h1 (us.drop (i+1)) qd:=iq.keep (d:=d) (it:=it) rest (fun u hu=>iP u (List.mem_of_mem_drop hu)) fun b o _ hb e=>(dh.2 b hb).trans e
  dsimp only;rw[ea];refine ab (gX ?_);have pair:wpAny (model prog w) A.in1 (Builtin.Dict.pairItems (.ref a)) (fun l s'=>l=[key,p.2]∧s'={ s with heap:=h1 }) (fun _ _=>False) { s with heap:=h1 }:=by
   obtain⟨o,ho,hc,m,hd⟩:=Dj;unfold Builtin.Dict.pairItems;refine ab (wpAny_typeOf (T:="tuple") ⟨o,ho,hc⟩ ?_);rw[ag (by simp)];refine ab (wpAny_seqItems ho hd (ah ⟨by simp,rfl⟩))
  refine ab (wpAny_tryCatch (fb pair (fun l s' uB=>?_) fun _ _ f=>f.elim));obtain⟨rfl,rfl⟩:=uB;have hlen:kvs.length≤sizeLine:=by rw[eI];lia
  refine gX (wpAny_dictSet_pairs (s:={ s with heap:=h1 }) hk C7 (fun h2 C8 ee=>?_) hlen);refine ah ⟨plainId_quiet F.qw _,?_⟩;have ei:(i:Int)+1=((i+1:Nat):Int):=by lia
  rw[ei];have jl:∀b o,b≠d→h1.get? b=some o→h2.get? b=some o:=fun b o hb e=>(ee.2 b hb).trans e
  refine ih (i+1) { s with heap:=h2,toks:=s.toks+1 } qd (stored kvs p.1 p.2) (by lia) (by lia) (jz.at fun o e=>jl it o (Ne.symm sy) e) (let ⟨o,ho,hc⟩:=xh;⟨o,jl t o (Ne.symm Dt) ho,hc⟩)
   (iq.keep (d:=d) (it:=it) De (fun u hu=>iP u (List.mem_of_mem_drop hu)) fun b o hb _ e=>jl b o hb e) C8 ?_ fun h' tk C6 jb=>?_
  ·have:=dG kvs p.1 p.2
   rw[kn]at hl;lia
  ·exact hR h' tk C6 fun b o xk xl e=>jb b o xk xl (jl b o xk ((dh.2 b xl).trans e))
end
end PySem
namespace PySem
open Sem (wp)
section
variable{K:Type}[DecidableEq K]{knd:KeyKind prog w K}
theorem iq.mem{ps:List (K×Value)}(x:iq knd h us ps):∀u∈us,∃a,u=.ref a∧a<h.objs.size:=by
 induction x with
 | nil=>intro u hu;cases hu
 | cons q _ ih=>
  intro u hu;rcases cg hu with e | e
  ·subst e
   obtain⟨a,key,rfl,_,ob,nX,_⟩:=q;exact⟨a,rfl,bg nX⟩
  ·exact ih u e
theorem Ni{t:Addr}{o:Obj}{m:Nat}{ps:List (K×Value)}(hh:A.handled=none)(ho:s.heap.get? t=some o)(hc:o.cls=.type "tuple")(hd:o.dict=none)(fA:o.data=.seq us.toArray m)(hP:iq knd s.heap us ps)(hz:us.length≤1000)(SH:sysModules<s.heap.objs.size)(h:∀h' tk,h'.DictOf knd s.heap.objs.size (ps.foldl (fun acc p=>stored acc p.1 p.2) [])→(∀b ob,s.heap.get? b=some ob→h'.get? b=some ob)→Q (.ref s.heap.objs.size) { s with heap:=h',toks:=tk }) :
  wpAny (model prog w) A (call (.type "dict") [.ref t]) Q E s:=by
 refine callType_codes (Q₁:=fun obj bc=>obj=.ref s.heap.objs.size∧bc={ s with heap:=s.heap.push { cls:=.type "dict",data:=.dict #[] } }) F.kt_called_dict (F.kt_typeCall_dict_1 _) F.entry_dict_init (kt_code_dict_new _ ⟨rfl,rfl⟩) ?_;rintro obj bc ⟨rfl,rfl⟩;have mv:(s.heap.push { cls:=.type "dict",data:=.dict #[] }).DictOf knd s.heap.objs.size []:=Heap.DictOf.new s.heap;refine⟨mv.typeIs,F.args_dict_init_2 _ _,?_⟩;generalize hH:s.heap.push { cls:=.type "dict",data:=.dict #[] }=H1 at mv;have k1:∀b ob,s.heap.get? b=some ob→H1.get? b=some ob:=fun b ob e=>by rw[←hH];exact cz _ e
 have dh:H1.objs.size=s.heap.objs.size+1:=by rw[←hH,kq]
 have xF:t<s.heap.objs.size:=bg ho;unfold Builtin.«dict.__init__»;refine ab ?_;unfold Builtin.Dict.selfAndRest;refine ab (wpAny_notOrdered_dict mv.typeIs ?_);show wpAny _ _ (pure (s.heap.objs.size,[Value.ref t])) _ _ _;refine ah ?_;show wpAny _ _ (Builtin.Dict.updateFrom "dict.__init__" s.heap.objs.size (.ref t) [] .none) _ _ _;unfold Builtin.Dict.updateFrom;refine ab (wpAny_typeOf (T:="tuple") ⟨o,k1 _ _ ho,hc⟩ ?_);rw[ag (by decide)];refine ab (vN (s:={ s with heap:=H1 }) (k1 _ _ ho) hc fA hd (show A.in1.in1.handled=none from hh) fun H2 tk k2=>?_);rw[ag (by rfl)];refine ab (jn ?_);have xi:i9 H2 t us.toArray:=⟨o,k2 _ _ (k1 _ _ ho),hc,m,fA⟩
 refine ab (wpAny_pyIter_tuple (s:={ s with heap:=H2,toks:=tk }) (show H2.IsTuple t us.toArray from xi) ?_);refine ah ⟨plainId_quiet F.qw _,?_⟩;have pT:s.heap.objs.size<H2.objs.size:=by
  obtain⟨od,_,_,ky,_⟩:=mv;exact bg (k2 _ _ ky)
 have iP:∀u∈us,∃a,u=.ref a∧a<s.heap.objs.size:=fun u hu=>hP.mem u hu
 have k3:∀b ob,H2.get? b=some ob→(H2.push { cls:=.type "tuple_iterator",data:=.fields #[.ref t,.int 0 0] }).get? b=some ob:=fun b ob e=>cz _ e
 refine Nh (knd:=knd) (A:=A.in1) (it:=H2.objs.size) (t:=t) (us:=us) hh (i7 xF) (i7 (Nat.lt_trans xF pT)) (b0 pT) (fun u hu=>?_) hz us.length 0 _ ps [] (by lia) (eM _) ⟨_,c8 _ rfl,rfl,rfl⟩
  (let ⟨ob,e,c⟩:=xi;⟨ob,k3 _ _ e,c⟩) ?_ ?_ ?_ fun h' qh hD hk=>?_
 ·obtain⟨a,rfl,ha⟩:=iP u hu
  exact⟨fun z=>by cases z;exact gp _ ha,fun z=>by cases z;exact gp _ (Nat.lt_trans ha pT)⟩
 ·rw[List.drop_zero]
  refine iq.keep (d:=s.heap.objs.size) (it:=s.heap.objs.size) hP (fun u hu=>?_) fun b ob _ _ e=>k3 _ _ (k2 _ _ (k1 _ _ e))
  obtain⟨a,rfl,ha⟩:=iP u hu;exact⟨fun z=>by cases z;exact gp _ ha,fun z=>by cases z;exact gp _ ha⟩
 ·obtain⟨od,es,ep,ky,r⟩:=mv
  exact⟨od,es,ep,k3 _ _ (k2 _ _ ky),r⟩
 ·have e:us.length=ps.length:=Paired.length hP
  simp only[List.length_nil];lia
 ·refine⟨rfl,h h' qh hD fun b ob e=>hk b ob (b0 (bg e)) (b0 (Nat.lt_trans (bg e) pT)) (k3 _ _ (k2 _ _ (k1 _ _ e)))⟩
end
end PySem
namespace L2
open PySem PySem.Spec PyProof.Rows
def wI(K:p4)(H:Hp):List V→List (Key×V)→Prop:=Paired fun v kv=>∃b,v=.ref b∧dv K H b [kV kv.1,kv.2]
theorem GN(kvs:List (Key×V)){P:Program}{w:World}:∀{vs:List (Key×Value)} {acc:List (Key×V)} {gN:List (Key×Value)},KV kvs vs→KV acc gN→KV (JN acc kvs) (vs.foldl (fun a p=>stored a p.1 p.2) gN):=by
 induction kvs with
 | nil=>intro vs acc gN r ra;cases r;exact ra
 | cons kv kvs ih=>
  intro vs acc gN r ra;cases r with
  | @cons a b l1 l2 q rr=>
   obtain⟨k,v⟩:=kv;obtain⟨vg,u⟩:=b;obtain⟨e,rv⟩:=q;have e:k=vg:=e;subst e;show KV (JN (putK acc k v) kvs) (l2.foldl (fun a p=>stored a p.1 p.2) (stored gN k u));exact ih rr (ra.put k rv)
theorem zK(I:Inv X pi σ H s)(h:wI X.K H vs kvs)(g:Vals vs us):∃ps:List (Key×Value),KV kvs ps∧iq (CQ X.prog X.w) s.heap us ps:=by
 induction h generalizing us with
 | nil=>cases g;exact⟨[],.nil,.nil⟩
 | @cons v kv _ _ q t ih=>cases g with
  | cons r rr=>
   obtain⟨ps,h1,h2⟩:=ih rr;obtain⟨b,rfl,hq⟩:=q;cases r;obtain⟨its,rv,ht,_⟩:=I.tuple hq;obtain⟨u1,u2,rfl,r1,r2⟩:=rv.two;exact⟨(kv.1,u2)::ps,.cons ⟨rfl,r2⟩ h1,.cons ⟨b,u1,rfl,aR r1,ht⟩ h2⟩
end L2
namespace L2
open PySem PySem.Spec PyProof.Rows
theorem TQ:∀{vs:List Value} {ss:List Str} {n:Nat},vs.length=n→n=ss.length→(∀(j:Nat) (v:Value),vs[j]?=some v→∃x t,v=Value.str x t∧ss[j]?=some x)→StrsAre vs ss
 | [],[],_,_,_,_=>.nil
 | [],_::_,_,h1,h2,_=>by subst h1;simp at h2
 | _::_,[],_,h1,h2,_=>by subst h2;simp at h1
 | v::vs,x::ss,n,h1,h2,h=>by
  obtain⟨y,t,rfl,e⟩:=h 0 v rfl;have aI:x=y:=cE e;subst aI;refine .cons x t (TQ (n:=ss.length) ?_ rfl fun j u hj=>h (j+1) u hj);rw[h2]at h1;simpa using h1
theorem gC{d:Addr}{kvs:List (Key×Value)}{ss:List Str}(hh:A.handled=none)(lo:(d==sysModules)=false)(hD:s.heap.DictOf (CQ prog w) d kvs)(hk:kvs.map (·.1)=ss.map Sum.inr)(bw:kvs.length<64)(h:∀(h1 h':Heap) (tk:Nat) (D:Addr) (out:Array Value) (ie:List Str) (c:Nat),(∀b o,s.heap.get? b=some o→h1.get? b=some o)→D=h1.objs.size→(∀b o,h1.get? b=some o→h'.get? b=some o)→h'.get? D=some { cls:=.type "list",data:=.seq out c }→StrsAre out.toList ie→ie.Perm ss→sortedS ie=true→
   Q (.ref D) { s with heap:=h',toks:=tk }):wpAny (model prog w) A (call (.builtin "sorted") [.ref d]) Q E s:=by
 obtain⟨ep,xj⟩:=hD.dictAt;refine xc kind_sorted plain_sorted entry_sorted (args_sorted1 _) ?_;unfold Builtin.«sorted»;refine ab (m:=checkCount "sorted" 1 1 _) (ah ?_);refine ab (PySem.W.kdu_collect (A:=A.in1) (PySem.W.kdl_dict (knd:=CQ prog w) (kvs:=kvs) (ep:=ep) lo) hh xj (by rw[eI];lia) fun h1 tk acc ku gS=>?_);have hl:acc.toList.length=kvs.length:=by rw[fR];exact gS.1
 refine ab (uo ?_ (by rw[hl,eI];lia));have hS:StrsAre acc.toList ss:=by
  refine TQ hl (by rw[←a9 (f:=(Sum.inr:Str→Key)),←hk,a9]) fun j v e=>?_
  obtain⟨k,x,hx,hi⟩:=gS.2 j v (by rw[←Array.getElem?_toList];exact e);have e1:(kvs.map (·.1))[j]?=some k:=by rw[eS,hx];rfl
  rw[hk,eS]at e1;cases q:ss[j]? with
  | none=>rw[q]at e1;cases e1
  | some z=>
   rw[q]at e1;have e2:Sum.inr z=k:=cE e1;subst e2;rcases G4 (k:=Sum.inr z) (v:=v) hi with ⟨i,t,e3,_⟩ | ⟨y,t,e3,e4⟩
   ·cases e3
   ·cases e3
    exact⟨z,t,e4,rfl⟩
 have ho:(h1.push (seqObj "list" acc.toList.toArray 0)).get? h1.objs.size=some (seqObj "list" acc.toList.toArray 0):=c8 _ rfl;refine ab (gX (gn slot_list_sort ⟨_,ho,rfl⟩ entry_list_sort (list_sort_treeK strKind_oneLt ho hS.keysOf (fun Y1 Y2 rest e=>keyKind_strs (by rw[←e];exact hS)) (by rw[hl];exact bw) fun gy hp hs=>⟨_,rfl,?_⟩) (args_list_sort _)));obtain⟨ie,Sl,zS,C4⟩:=sorted_out_str hS hp hs;refine ah ⟨_,rfl,?_⟩;obtain⟨c,hc⟩:=sortedHeap_at (vs:=acc.toList) (out:=(arrOf gy).map (·.2)) ho;refine h h1 _ tk _ _ ie c ku rfl (fun b o e=>?_) hc Sl zS C4;have hb:b<h1.objs.size:=bg e;rw[sortedHeap_old (b0 hb) (by rw[kq];exact k0 hb)];exact cz _ e
theorem jA(hc:X.calm=true):gb X (.builtin "sorted") (fun xs H Q=>∃a kvs ss,xs=[.ref a]∧Rd H a (.dK kvs)∧kvs.map (·.1)=ss.map Sum.inr∧kvs.length<64∧
  ∀p ie,H p=none→ie.Perm ss→sortedS ie=true→Q (.ref p) (upd H p (.lst (ie.map V.str)))):=by
 intro pi s σ H xs us Q I r h;obtain⟨a,kvs,ss,rfl,ha,hk,bw,q⟩:=h;obtain⟨u,rfl,ru⟩:=vals1 r;cases ru;obtain⟨z,lo,vs,rel,dd⟩:=S5 I.az ha;refine gC (I.ok.hd hc) lo dd (by rw[←rel.keys];exact hk) (by rw[←rel.length];exact bw) fun h1 h' tk D out ie c k1 eD k2 hD hS hp hs=>?_
 subst eD;have I1:Inv X pi σ H { s with heap:=h1,toks:=tk }:=I.kept k1;have I2:Inv X pi σ (upd H h1.objs.size (.lst (ie.map V.str))) { s with heap:=h',toks:=tk }:=I1.laid (fun b o e=>k2 b o e) (aT _) ⟨?_,out.toList,c,u6 hS,by simpa using hD⟩
 ·exact⟨.ref _,_,I2,rfl,q _ ie (I1.az.fresh (aT _)) hp hs⟩
 ·rw[a9,hp.length_eq,←a9 (f:=(Sum.inr:Str→Key)),←hk,a9,eI]
  lia
theorem Rt:gb X (.type "tuple") (fun xs H Q=>∃p ys,xs=[.ref p]∧c6 X.K H p ys∧∀l o,H l=none→o.cls=.type "tuple"→o.dict=none→Q (.ref l) (upd H l (.bt o (.tup ys)))):=by
 intro pi s σ H xs us Q I r h;obtain⟨p,ys,rfl,hq,q⟩:=h;obtain⟨u,rfl,rx⟩:=vals1 r;cases rx;obtain⟨its,cn,pl,hz⟩:=I.list hq;have hlen:=cn.length;refine call_tuple_list pl.isList (fun h' kp=>?_) (by simp only[dr]<;>lia);have I1:Inv X pi σ H { s with heap:=h' }:=I.kept (t':=s.toks) kp;have I2:Inv X pi σ (upd H h'.objs.size (.bt { cls:=.type "tuple",data:=.seq its.toArray } (.tup ys))) { s with heap:=h'.push { cls:=.type "tuple",data:=.seq its.toArray } }:=
  I1.laid (t':=s.toks) (fun b o e=>cz _ e) (aT _) ⟨c8 _ rfl,show du X.prog X.w _ _ _ (.tup ys) from ⟨hz,its,cn,IsTup.new _ _⟩⟩
 exact⟨.ref h'.objs.size,_,I2,rfl,q _ _ (I1.az.fresh (aT _)) rfl rfl⟩
end L2
namespace PySem.W
end PySem.W
namespace L2
open PySem PySem.Spec PyProof.Rows
section
variable{o:HO}
theorem du.there(x:du P w H h a o):∃ob,h.get? a=some ob:=by
 induction o with
 | lst xs=>obtain⟨_,_,_,_,e⟩:=x;exact⟨_,e⟩
 | tup xs=>obtain⟨_,_,_,ob,e,_⟩:=x;exact⟨_,e⟩
 | dK kvs=>obtain⟨_,_,_,_,ob,_,_,e,_⟩:=x;exact⟨_,e⟩
 | dT kvs=>obtain⟨_,_,_,_,ob,_,_,e,_⟩:=x;exact⟨_,e⟩
 | dF kvs=>obtain⟨_,_,o,_,_,e,_⟩:=x;exact⟨o,e⟩
 | set S n=>obtain⟨ob,_,_,_,e,_⟩:=x;exact⟨_,e⟩
 | ins C dx fs=>obtain⟨_,_,_,e,_⟩:=x;exact⟨_,e⟩
 | own y=>exact x
 | xd fs=>obtain⟨_,⟨od,_,_,e,_⟩,_⟩:=x;exact⟨_,e⟩
 | iw lo hi=>obtain⟨_,_,_,e⟩:=x;exact⟨_,e⟩
 | bt ob u ih=>exact⟨_,x.1⟩
 | rL ps=>exact⟨_,x⟩
 | met f y=>exact⟨_,x⟩
 | ext ub=>exact x.2.1
end
section
variable{D:Addr}{ob:Obj}{o:HO}{m:Str→Option Value}
noncomputable abbrev pz (s:Shared):Heap:=ni.AQ s.heap
noncomputable abbrev ES (X:Cx) (s:Shared):List (Addr×Obj):=QZ (pz s) s.heap X.env.locals
theorem OJ(N:News (pz s) X.env.locals h' ((D,ob)::ES X s)):∀b u,b≠X.env.locals→s.heap.get? b=some u→h'.get? b=some u:=fun b u hb e=>
 (N (b,u) (b8 _ (P0 hb (ni.yi _ _) e))).1
theorem Inv.Eu(I:Inv X pi σ H s)(hm:s.heap.Ns X.env.locals m)(F:Fr (pz s) X.env.locals h' m)(N:News (pz s) X.env.locals h' ((D,ob)::ES X s))(hD:s.heap.get? D=none)(new:du X.prog X.w (upd H D o) h' D o):Inv X pi σ (upd H D o) { s with heap:=h',toks:=t' }:=by
 have hn:H D=none:=by
  cases q:H D with
  | none=>rfl
  | some u=>
   obtain⟨Ey,e⟩:=(I.az D u q).there;rw[hD]at e;cases e
 have up:∀b u,H b=some u→upd H D o b=some u:=fun b u e=>by rw[CK (FZ e hn)];exact e
 have keep:=OJ N;refine I.step (g':=s.gens) (d':=s.drawn) (ch:=[]) (fun b hb=>nomatch hb) (fun b u hL _ _ e _=>keep b u hL e) (fun b u hL _ _ e _=>⟨u.slots,keep b u hL e⟩)
  (fun b u _ e n=>?_) (fun b u _ e=>?_) (fun b xs e=>up b _ e) (fun b u xs e=>up b _ e) (fun b ps e=>⟨#[],by rw[up b _ e];simp⟩) (fun ae sL=>?_) (fun b u e=>?_) I.bare
 ·rw[CK (fun z=>by rw[z,hD]at e;cases e)]
  exact n
 ·by_cases hL:b=X.env.locals
  ·subst hL
   obtain⟨ol,_,_,aI,_⟩:=F.ns;exact⟨ol,aI⟩
  ·exact⟨u,keep b u hL e⟩
 ·have e:ae=m:=by
   obtain⟨o1,Hz,XW,a1,b1,c1,d1⟩:=hm;obtain⟨o2,HA,Hy,a2,b2,c2,d2⟩:=sL;rw[a1]at a2;cases a2;rw[b1]at b2;cases b2;funext x;rw[←d1 x,←d2 x]
  rw[e];exact F.ns
 ·by_cases hb:b=D
  ·subst hb;rw[CT]at e;cases e;exact new
  ·rw[CK hb]at e
   refine(I.az b u e).kb (fun c v hc q=>keep c v (fun z=>?_) q) (fun c q=>up c _ q) fun c xs q=>up c _ q
   have n:=I.free;rcases hc with rfl | hc
   ·rw[z,n]at e;cases e
   ·rw[z,n]at hc;cases hc
end
noncomputable def oV(p q:Str×Int):Bool:=if p.1=q.1 then (if p.2=q.2 then false else decide (p.2<q.2)) else decide (p.1.cps.toList<q.1.cps.toList)
theorem rA{x y:Addr}{a b:Str}{n m:Int}{t1 t2 t3 t4:Tok}{Q:Bool→Shared→Prop}(hx:IsTup s.heap x #[.str a t1,.int n t2])(hy:IsTup s.heap y #[.str b t3,.int m t4])(h:Q (oV (a,n) (b,m)) s):
  wpAny (model prog w) A (keyLt' (tuples' true) (.ref x) (.ref y)) Q E s:=by
 obtain⟨ox,ex,_,_,dx⟩:=hx;obtain⟨oy,ey,_,_,dy⟩:=hy;refine PySem.W.kat_lt ex dx ey dy ?_;show PySem.W.KatLex prog w A true _ Q [(.str a t1,.str b t3),(.int n t2,.int m t4)] 0 s;refine PySem.W.kat_cons (iZ (y:=.str a) (x:=.str b) ⟨_,rfl⟩ ⟨_,rfl⟩ rfl rfl prog w _ _ ?_);unfold oV at h
 by_cases fc:a=b
 ·have e1:fI (.str a) (.str b)=true:=by rw[fc];exact beq_self_eq_true b
  rw[e1];rw[ag fc]at h;refine PySem.W.kat_yes (PySem.W.kat_cons (iZ (y:=.int n) (x:=.int m) ⟨_,rfl⟩ ⟨_,rfl⟩ rfl rfl prog w _ _ ?_))
  by_cases fe:n=m
  ·have e2:fI (.int n) (.int m)=true:=by rw[fe];exact beq_self_eq_true m
   rw[e2];rw[ag fe]at h;refine PySem.W.kat_yes (PySem.W.kat_nil ?_);simpa using h
  ·have e2:fI (.int n) (.int m)=false:=(beq_eq_false_iff_ne.mpr fe:(n==m)=false)
   rw[e2];rw[ai fe]at h;exact PySem.W.kat_no (PySem.W.kat_one _ _ (lt_int h))
 ·have e1:fI (.str a) (.str b)=false:=(beq_eq_false_iff_ne.mpr fc:(a==b)=false)
  rw[e1];rw[ai fc]at h;exact PySem.W.kat_no (oneLt_str h)
def Cs(K:p4)(H:Hp):List V→List (Str×Int)→Prop:=Paired fun v p=>∃b,v=.ref b∧dv K H b [.str p.1,.int p.2]
theorem P2(I:Inv X pi σ H s)(h:Cs X.K H vs ps)(g:Vals vs us):
  Paired (fun u (p:Str×Int)=>∃a t1 t2,u=Value.ref a∧IsTup s.heap a #[.str p.1 t1,.int p.2 t2]) us ps:=by
 induction h generalizing us with
 | nil=>cases g;exact .nil
 | cons q t ih=>cases g with
  | cons r rr=>
   obtain⟨b,rfl,hq⟩:=q;cases r;obtain⟨its,rv,ht,_⟩:=I.tuple hq;obtain⟨u1,u2,rfl,⟨t1,rfl⟩,⟨t2,rfl⟩⟩:=rv.two;exact .cons ⟨b,t1,t2,rfl,ht⟩ (ih rr)
theorem wc{h:Heap}:∀{us:List Value} {ps:List (Str×Int)} {i:Nat},Paired (fun u (p:Str×Int)=>∃a t1 t2,u=Value.ref a∧IsTup h a #[.str p.1 t1,.int p.2 t2]) us ps→i<us.length→
  ∃a t1 t2 p,us.getD i Value.none=Value.ref a∧ps[i]?=some p∧IsTup h a #[.str p.1 t1,.int p.2 t2]
 | _,_,_,.nil,h=>absurd h (o5 _)
 | _,_,0,.cons q _,_=>by
  obtain⟨a,t1,t2,rfl,ht⟩:=q;exact⟨a,t1,t2,_,rfl,rfl,ht⟩
 | _,_,i+1,.cons _ t,h=>by
  obtain⟨a,t1,t2,p,e1,e2,ht⟩:=wc (i:=i) t (by simpa using h);exact⟨a,t1,t2,p,by simpa using e1,by simpa using e2,ht⟩
theorem qK(hq:Paired (fun u (p:Str×Int)=>∃a t1 t2,u=Value.ref a∧IsTup h a #[.str p.1 t1,.int p.2 t2]) us ps):∃fs,PySem.W.KatTups h us fs∧fs.length=us.length∧∀v∈fs,∃x t,v=Value.str x t:=by
 induction hq with
 | nil=>exact⟨[],.nil,rfl,fun _ h=>nomatch h⟩
 | cons q t ih=>
  obtain⟨fs,h1,h2,h3⟩:=ih;obtain⟨a,t1,t2,rfl,o,ho,hc,n,hd⟩:=q;refine⟨_::fs,.cons ho hc hd rfl h1,by simp[h2],fun v hv=>?_⟩;rcases cg hv with rfl | hv
  ·exact⟨_,_,rfl⟩
  ·exact h3 v hv
theorem Q9{xs:List V}{us:List Value}(r:Vals xs us):∀js:List Nat,(∀j∈js,j<xs.length)→Vals (js.map fun j=>xs.getD j .ao) (js.map fun j=>us.getD j Value.none)
 | [],_=>.nil
 | j::js,h=>by
  have hj:=h j bX;have e:xs[j]?=some xs[j]:=by simp[hj]
  obtain⟨u,e2,ru⟩:=r.get e;refine .cons ?_ (Q9 r js fun i hi=>h i (b8 _ hi));show RelV (xs.getD j .ao) (us.getD j Value.none);rw[List.getD_eq_getElem?_getD,List.getD_eq_getElem?_getD,e,e2];exact ru
end L2
namespace PySem.W
noncomputable def KasT.eK{α:Type}(n:Nat)(qo:Nat→Nat→Bool):KasT α→Option α
 | .ret a=>some a
 | .ask i j k=>if i<n∧j<n then (k (qo i j)).eK n qo else none
theorem KasT.AV{α:Type}{n:Nat}{qo:Nat→Nat→Bool}{cmp:Nat→Nat→(Bool→Shared→Prop)→Shared→Prop}{Q:α→Shared→Prop}{s:Shared}(hc:∀i j,i<n→j<n→∀C:Bool→Shared→Prop,C (qo i j) s→cmp i j C s):
  ∀(t:KasT α) {a:α},t.eK n qo=some a→Q a s→t.kasWp cmp Q s
 | .ret a,b,h,q=>by
  have:a=b:=cE h;subst this;exact q
 | .ask i j k,b,h,q=>by
  unfold KasT.eK at h;split at h
  ·rename_i gu
   exact hc i j gu.1 gu.2 _ (KasT.AV hc _ h q)
  ·cases h
theorem KasT.JI{α:Type}{n:Nat}{f g:Nat→Nat→Bool}(h:∀i j,i<n→j<n→f i j=g i j):∀t:KasT α,t.eK n f=t.eK n g
 | .ret a=>rfl
 | .ask i j k=>by
  unfold KasT.eK
  by_cases gu:i<n∧j<n
  ·rw[ag gu,ag gu,h i j gu.1 gu.2]
   exact KasT.JI h _
  ·rw[ai gu,ai gu]
noncomputable def uH(Hd He Hf Hg Hj Hk:Bool):Nat→Nat→Bool
 | 0,1=>Hd
 | 1,0=>!Hd
 | 0,2=>He
 | 2,0=>!He
 | 0,3=>Hf
 | 3,0=>!Hf
 | 1,2=>Hg
 | 2,1=>!Hg
 | 1,3=>Hj
 | 3,1=>!Hj
 | 2,3=>Hk
 | 3,2=>!Hk
 | _,_=>false
noncomputable def nU(n:Nat)(f:Nat→Nat→Bool):Bool:=(List.range n).all fun i=>(List.range n).all fun j=>(List.range n).all fun k=>!(f i j&&f j k)||f i k
noncomputable def kN(f:Nat→Nat→Bool):List Nat→Bool
 | a::b::r=>f a b&&kN f (b::r)
 | _=>true
noncomputable def lR(n:Nat)(f:Nat→Nat→Bool):Bool:=!nU n f||(match (kas_sort n).eK n f with | some p=>p.toList.isPerm (List.range n)&&kN f p.toList | none=>false)
theorem good2:∀a b c d e f:Bool,lR 2 (uH a b c d e f)=true:=by decide +kernel
theorem good3:∀a b c d e f:Bool,lR 3 (uH a b c d e f)=true:=by decide +kernel
theorem Qn:∀a b c d e f:Bool,lR 4 (uH a b c d e f)=true:=by decide +kernel
theorem V9{n:Nat}{f g:Nat→Nat→Bool}(h:∀i j,i<n→j<n→f i j=g i j):∀{l:List Nat},(∀i∈l,i<n)→kN f l=kN g l
 | [],_=>rfl
 | [_],_=>rfl
 | a::b::r,hl=>by
  unfold kN;rw[h a b (hl a (by simp)) (hl b (by simp)),V9 h (l:=b::r) fun i hi=>hl i (b8 _ hi)]
theorem Kc(hn:2≤n)(Ar:n≤4){f:Nat→Nat→Bool}(h0:∀i,f i i=false)(h1:∀i j,i<n→j<n→i≠j→f j i=!f i j)(h2:∀i j k,i<n→j<n→k<n→f i j=true→f j k=true→f i k=true):
  ∃p,(kas_sort n).eK n f=some p∧p.toList.Perm (List.range n)∧kN f p.toList=true:=by
 have e:∀i j,i<n→j<n→f i j=uH (f 0 1) (f 0 2) (f 0 3) (f 1 2) (f 1 3) (f 2 3) i j:=fun i j hi hj=>by
  rcases(show i=0∨i=1∨i=2∨i=3 by lia) with rfl | rfl | rfl | rfl<;>rcases(show j=0∨j=1∨j=2∨j=3 by lia) with rfl | rfl | rfl | rfl<;>first | exact h0 _ | rfl | exact h1 _ _ hj hi (by decide)
 have tr:nU n (uH (f 0 1) (f 0 2) (f 0 3) (f 1 2) (f 1 3) (f 2 3))=true:=by
  unfold nU;rw[um];intro i hi;rw[um];intro j hj;rw[um];intro k hk;rw[List.mem_range]at hi hj hk;rw[←e i j hi hj,←e j k hj hk,←e i k hi hk];cases h3:f i j with
  | false=>rfl
  | true=>
   cases h4:f j k with
   | false=>rfl
   | true=>rw[h2 i j k hi hj hk h3 h4];rfl
 have g:lR n (uH (f 0 1) (f 0 2) (f 0 3) (f 1 2) (f 1 3) (f 2 3))=true:=by
  rcases(show n=2∨n=3∨n=4 by lia) with rfl | rfl | rfl
  ·exact good2 ..
  ·exact good3 ..
  ·exact Qn ..
 unfold lR at g;rw[tr,Bool.not_true,Bool.false_or]at g;rw[KasT.JI e];split at g
 ·rename_i p hp
  rw[gh]at g;have iu:p.toList.Perm (List.range n):=List.isPerm_iff.mp g.1;refine⟨p,hp,iu,?_⟩;rw[V9 e fun i hi=>List.mem_range.mp (iu.mem_iff.mp hi)];exact g.2
 ·cases g
end PySem.W
namespace PyProof.Rows
open PySem
theorem JX{vs:List Value}{P:Fin→Shared→Prop}(ho:s.heap.get? a=some (seqObj "list" vs.toArray n))(h2:vs.length<2)(h:P (.done (.ret .none)) { s with heap:=sortedHeap s.heap a vs ((pairsOf vs).map (·.2)) }) :
  wpAny (model prog w) A (Builtin.«list.sort» ⟨[.ref a],[]⟩) P E s:=by
 rw[list_sort_plain];have ha:a<s.heap.objs.size:=bg ho;refine ab (listItems_at ho rfl ?_);refine ab (listUpdate_at ho rfl ?_);obtain⟨e1,IC⟩:∃e1,(s.heap.update a (Obj.mapSeq fun _=>#[])).get? a=some (seqObj "list" #[] e1):=⟨_,get?_update_seq ho (fun _=>#[])⟩
 refine ab (seqEpoch_at IC rfl ?_);refine ab (wpAny_newTuple ?_);refine ab (uo ?_);refine gX ?_;have ID:(((s.heap.update a (Obj.mapSeq fun _=>#[])).push (seqObj "tuple" vs.toArray 0)).push (seqObj "list" #[] 0)).get? a=some (seqObj "list" #[] e1):=by
  rw[Heap.get?_push_ne _ _ _ (by rw[size_push',Heap.size_update];exact b0 (k0 ha)),Heap.get?_push_ne _ _ _ (by rw[Heap.size_update];exact b0 ha)];exact IC
 show wpAny (model prog w) A _ P E { s with heap:=((s.heap.update a (Obj.mapSeq fun _=>#[])).push (seqObj "tuple" vs.toArray 0)).push (seqObj "list" #[] 0) };dsimp only;have hsz:vs.toArray.size=vs.length:=by simp
 have zS:vs.toArray.size<2:=by rw[hsz];exact h2
 rw[ag zS,ag zS];refine ab (ah ?_);rw[StateT.run_pure];refine ab (ah ?_);dsimp only;refine ab (seqEpoch_at ID rfl ?_);refine ab (listUpdate_at ID rfl ?_ (hsz2:=by rw[Array.size_map];show (pairsOf vs).size≤_;rw[pairsOf_size,eI];lia));simp only[bne_self_eq_false,Bool.false_eq_true,if_false];exact ah h
theorem gB{l:Addr}{vs:List Value}(hl:s.heap.IsList l vs.toArray)(h2:vs.length<2)(h:Q (.ref (s.heap.objs.size+1)) { s with heap:=sortedAll s.heap vs ((pairsOf vs).map (·.2)) }) :
  wpAny (model prog w) A (call (.builtin "sorted") [.ref l]) Q E s:=by
 refine xc kind_sorted plain_sorted entry_sorted (args_sorted1 _) ?_;unfold Builtin.«sorted»;refine ab (m:=checkCount "sorted" 1 1 _) (ah ?_);refine ab (collect_list hl ?_ (by rw[eI];omega));refine ab (uo ?_ (by rw[eI];omega));have hsz:((s.heap.push (seqObj "list" #[] 0)).update s.heap.objs.size (Obj.mapSeq (·++vs.toArray))).objs.size=s.heap.objs.size+1:=by
  rw[Heap.size_update,size_push']
 have jc:(((s.heap.push (seqObj "list" #[] 0)).update s.heap.objs.size (Obj.mapSeq (·++vs.toArray))).push (seqObj "list" vs.toArray 0)).get? (s.heap.objs.size+1)=some (seqObj "list" vs.toArray 0):=by
  rw[←hsz];exact c8 _ rfl
 show wpAny _ _ _ _ _ { s with heap:=((s.heap.push (seqObj "list" #[] 0)).update s.heap.objs.size (Obj.mapSeq (·++vs.toArray))).push (seqObj "list" vs.toArray 0) };rw[hsz];refine ab (gX (gn slot_list_sort ⟨_,jc,rfl⟩ entry_list_sort (JX jc h2 ⟨_,rfl,?_⟩) (args_list_sort _)));exact ah ⟨_,rfl,h⟩
end PyProof.Rows
namespace L2
open PySem PySem.Spec PyProof.Rows
noncomputable def KQ(ps:List (Str×Int))(i j:Nat):Bool:=oV (ps.getD i (⟨#[]⟩,0)) (ps.getD j (⟨#[]⟩,0))
theorem aC(p:Str×Int):oV p p=false:=by simp[oV]
theorem QK{p q:Str×Int}(h:p.1≠q.1):oV p q=decide (p.1.cps.toList<q.1.cps.toList):=by unfold oV;rw[ai h]
theorem Np{a b:Str}(h:a.cps.toList=b.cps.toList):a=b:=by
 obtain⟨x⟩:=a;obtain⟨y⟩:=b;have:x=y:=by simpa using congrArg List.toArray h
 rw[this]
theorem mD{a b:Str}(h:a≠b):decide (b.cps.toList<a.cps.toList)=!decide (a.cps.toList<b.cps.toList):=by
 by_cases h1:a.cps.toList<b.cps.toList
 ·rw[dk h1,dm (fun h2=>List.lt_irrefl _ (List.lt_trans h1 h2))];rfl
 ·rw[dm h1]
  by_cases h2:b.cps.toList<a.cps.toList
  ·rw[dk h2];rfl
  ·exact absurd (Np (List.le_antisymm (List.not_lt.mp h2) (List.not_lt.mp h1))) h
theorem key_ne(hn:(ps.map (·.1)).Nodup)(hi:i<ps.length)(hj:j<ps.length)(h:i≠j):(ps.getD i (⟨#[]⟩,0)).1≠(ps.getD j (⟨#[]⟩,0)).1:=fun e=>by
 have e1:(ps.map (·.1))[i]'(by simpa using hi)=(ps.getD i (⟨#[]⟩,0)).1:=by simp[List.getD_eq_getElem?_getD,hi]
 have e2:(ps.map (·.1))[j]'(by simpa using hj)=(ps.getD j (⟨#[]⟩,0)).1:=by simp[List.getD_eq_getElem?_getD,hj]
 exact h ((List.getElem_inj hn).mp (e1.trans (e.trans e2.symm)))
theorem cH(hn:(ps.map (·.1)).Nodup):(∀i,KQ ps i i=false)∧(∀i j,i<ps.length→j<ps.length→i≠j→KQ ps j i=!KQ ps i j)∧(∀i j k,i<ps.length→j<ps.length→k<ps.length→KQ ps i j=true→KQ ps j k=true→KQ ps i k=true):=by
 refine⟨fun i=>aC _,fun i j hi hj h=>?_,fun i j k hi hj hk h1 h2=>?_⟩
 ·unfold KQ
  rw[QK (key_ne hn hj hi (Ne.symm h)),QK (key_ne hn hi hj h)];exact mD (key_ne hn hi hj h)
 ·have Vn:i≠j:=fun z=>by subst z;unfold KQ at h1;rw[aC]at h1;cases h1
  have Vp:j≠k:=fun z=>by subst z;unfold KQ at h2;rw[aC]at h2;cases h2
  unfold KQ at h1 h2 ⊢;rw[QK (key_ne hn hi hj Vn),decide_eq_true_eq]at h1;rw[QK (key_ne hn hj hk Vp),decide_eq_true_eq]at h2;have h3:=List.lt_trans h1 h2;have Vo:(ps.getD i (⟨#[]⟩,0)).1≠(ps.getD k (⟨#[]⟩,0)).1:=fun z=>by rw[z]at h3;exact List.lt_irrefl _ h3
  rw[QK Vo,dk h3]
theorem j8:gb X (.builtin "sorted") (fun xs H Q=>∃a vs ps,xs=[.ref a]∧c6 X.K H a vs∧Cs X.K H vs ps∧vs.length≤4∧(ps.map (·.1)).Nodup∧
  ∀p (js:List Nat),H p=none→js.Perm (List.range vs.length)→PySem.W.kN (KQ ps) js=true→Q (.ref p) (upd H p (.lst (js.map fun j=>vs.getD j .ao)))):=by
 intro pi s σ H xs us Q I r h;obtain⟨a,vs,ps,rfl,hq,IL,h4,b9,q⟩:=h;obtain⟨u,rfl,ru⟩:=vals1 r;cases ru;obtain⟨its,rv,pl,hz⟩:=I.list hq;have hl:=rv.length;have TM:vs.length=ps.length:=Paired.length IL
 by_cases vd:its.length<2
 ·refine gB pl.isList vd ?_
  have n5:((pairsOf its).map (·.2)).toList=its:=by
   rw[Array.toList_map,pairsOf_toList,List.map_snd_zip (aT _)]
  obtain⟨e,he⟩:=sortedAll_at s.heap its ((pairsOf its).map (·.2));have xA:=Q9 rv (List.range vs.length) fun j hj=>List.mem_range.mp hj
  have e1:((List.range vs.length).map fun j=>its.getD j Value.none)=its:=by
   apply List.ext_getElem?;intro i
   by_cases hi:i<its.length
   ·rw[eS,List.getElem?_range (by lia)]
    simp[List.getD_eq_getElem?_getD,hi]
   ·rw[List.getElem?_eq_none (by simp;lia),List.getElem?_eq_none (by lia)]
  rw[e1]at xA;refine⟨.ref (s.heap.objs.size+1),_,I.laid (a:=s.heap.objs.size+1) (o:=.lst ((List.range vs.length).map fun j=>vs.getD j .ao)) (t':=s.toks) (fun b o e=>sortedAll_old e) (qq _) ⟨?_,its,e,xA,?_⟩,rfl,q _ _ (I.az.fresh (qq _)) (List.Perm.refl _) ?_⟩
  ·rw[a9,List.length_range,eI];lia
  ·have hm:(pairsOf its).map (·.2)=its.toArray:=lP (by rw[n5])
   exact he.trans (by rw[hm])
  ·have:vs.length<2:=by lia
   rcases(show vs.length=0∨vs.length=1 by lia) with z | z<;>rw[z]<;>rfl
 have hp:=P2 I IL rv;obtain⟨m,hm,_⟩:=I.loc;refine PySem.W.kat_sorted (vs:=its) (ni.C0 hm) (aM (g:=pz s) (h:=s.heap) (L:=X.env.locals)) pl.isList (by lia) (by lia) fun D e1 h1 F1 N1 bx=>?_
 have keep:=OJ (X:=X) (s:=s) N1;have nD:=(N1 (D,_) bX).2.1;have hD:s.heap.get? D=none:=by
  cases e:s.heap.get? D with
  | none=>rfl
  | some ob=>exact absurd (bx (D,ob) (P0 nD (ni.yi _ _) e)) (gp _)
 have hn:H D=none:=by
  cases e:H D with
  | none=>rfl
  | some u=>
   obtain⟨Ey,aI⟩:=(I.az D u e).there;rw[hD]at aI;cases aI
 have yk:∀b xs,IsTup s.heap b xs→b≠X.env.locals:=fun b xs ⟨ob,e,_,n,d⟩ z=>by
  obtain⟨ol,_,_,el,dl,_⟩:=hm;rw[z,el]at e;cases e;rw[dl]at d;cases d
 have my:Paired (fun u (p:Str×Int)=>∃a t1 t2,u=Value.ref a∧IsTup h1 a #[.str p.1 t1,.int p.2 t2]) its ps:=Paired.AM hp fun u p ⟨a,t1,t2,e,ht⟩=>
  ⟨a,t1,t2,e,let ⟨ob,eo,c⟩:=ht;⟨ob,keep a ob (yk _ _ ht) eo,c⟩⟩
 obtain⟨fs,t1,t2,t3⟩:=qK my;refine PySem.W.kat_kind (s:={ s with heap:=h1 }) (T:=.type "str") t1 (by lia) (fun v hv=>?_) (by decide) ?_
 ·obtain⟨x,t,rfl⟩:=t3 v hv
  exact .now
 ·show PySem.W.KasT.kasWp _ _ _ _
  obtain⟨o1,o2,o3⟩:=cH b9;obtain⟨p,xD,iu,xC⟩:=PySem.W.Kc (n:=its.length) (f:=KQ ps) (by lia) (by lia) o1 (fun i j hi hj=>o2 i j (by lia) (by lia)) fun i j k hi hj hk=>o3 i j k (by lia) (by lia) (by lia)
  refine PySem.W.KasT.AV (n:=its.length) (qo:=KQ ps) (fun i j hi hj C hC=>?_) _ xD ?_
  ·obtain⟨a1,b1,b2,p1,sk,nL,pV⟩:=wc (i:=i) my hi
   obtain⟨a2,c1,c2,p2,zw,CF,kH⟩:=wc (i:=j) my hj;unfold PySem.W.kas_ask;rw[sk,zw];refine rA (s:={ s with heap:=h1 }) pV kH ?_;unfold KQ at hC;rw[List.getD_eq_getElem?_getD,List.getD_eq_getElem?_getD,nL,CF]at hC;exact hC
  ·refine PySem.W.KasFin.intro (s:={ s with heap:=h1 }) F1 N1 (.head fun b hb=>b0 (bx b hb)) fun h2 c F2 N2=>?_
   have hv:=Q9 rv p.toList fun j hj=>by
    have:=List.mem_range.mp (iu.mem_iff.mp hj);lia
   refine⟨.ref D,_,I.Eu (t':=s.toks) (o:=.lst (p.toList.map fun j=>vs.getD j .ao)) hm F2 N2 hD ⟨?_,_,c,hv,(N2 (D,_) bX).1⟩,rfl,q D p.toList hn (by rw[hl];exact iu) xC⟩;rw[a9,iu.length_eq,List.length_range,eI];lia
end L2
namespace L2
open PySem PySem.Spec PyProof.Rows
noncomputable def p8:Key→Key→Bool
 | .inl i,.inl j=>decide (i<j)
 | .inr x,.inr y=>decide (x.cps.toList<y.cps.toList)
 | .inl _,.inr _=>true
 | .inr _,.inl _=>false
noncomputable def jW:Key→Key→Bool
 | .inl _,.inl _=>true
 | .inr _,.inr _=>true
 | _,_=>false
noncomputable def Bj(p q:Str×Key):Bool:=if p.1=q.1 then (if p.2=q.2 then false else p8 p.2 q.2) else decide (p.1.cps.toList<q.1.cps.toList)
theorem bA{k:Str}{x:Key}{c:Addr}(hc:IsTupleKey (CQ prog w) h [.inr k,x] c):∃o n t u v,h.get? c=some o∧o.cls=.type "tuple"∧o.data=.seq (#[.str k t,v]:Array Value) n∧KH x v=true∧u=t:=by
 obtain⟨o,items,n,ho,cm,hd,hi⟩:=hc;obtain⟨v1,v2,e1,e2,hl⟩:∃v1 v2,KH (.inr k) v1=true∧KH x v2=true∧items.toList=[v1,v2]:=by
  generalize hq:items.toList=l at hi;cases hi with
  | cons h1 t1=>
   cases t1 with
   | cons h2 t2=>
    cases t2;exact⟨_,_,h1,h2,rfl⟩
 rcases G4 e1 with ⟨i,t,q,_⟩ | ⟨y,t,q,rfl⟩
 ·cases q
 ·cases q
  refine⟨o,n,t,t,v2,ho,cm,?_,e2,rfl⟩;rw[hd];congr 1;apply lP;rw[hl]
theorem Y0{x y:Key}{v:Value}(hT:jW x y=true)(hu:KH x u=true)(hv:KH y v=true)(h:Q (.bool (p8 x y)) s):wpAny (model prog w) A (richCompare .Lt u v) Q E s:=by
 rcases G4 hu with ⟨i,t,rfl,rfl⟩ | ⟨a,t,rfl,rfl⟩
 ·rcases G4 hv with ⟨j,t',rfl,rfl⟩ | ⟨b,t',rfl,rfl⟩
  ·exact(PyProof.Rows.lt_int h:wpAny (model prog w) A (compareOp .Lt _ _) Q E s)
  ·cases hT
 ·rcases G4 hv with ⟨j,t',rfl,rfl⟩ | ⟨b,t',rfl,rfl⟩
  ·cases hT
  ·exact(PyProof.Rows.lt_str h:wpAny (model prog w) A (compareOp .Lt _ _) Q E s)
theorem iU{p q:Str×Key}{b:Addr}{P:Fin→Shared→Prop}(hT:jW p.2 q.2=true∨p.1≠q.1)(hx:IsTupleKey (CQ prog w) s.heap [.inr p.1,p.2] a)(hy:IsTupleKey (CQ prog w) s.heap [.inr q.1,q.2] b)(h:P (.done (.ret (.bool (Bj p q)))) s):
  wpAny (model prog w) A (Builtin.«tuple.__lt__» ⟨[.ref a,.ref b],[]⟩) P E s:=by
 have Dg:=hy.typeIs;obtain⟨oa,na,ta,_,va,DT,_,Dp,Ap,_⟩:=bA hx;obtain⟨ob,nb,tb,_,vb,nX,_,iN,Aq,_⟩:=bA hy;show wpAny _ _ (isInstance (.ref b) (.type "tuple") >>= _) _ _ s;refine ab (wpAny_isInstance Dg isSubtype_tuple_tuple ?_);simp only[Bool.not_true,Bool.false_eq_true,if_false];refine ab (wpAny_tupleItemsOf DT Dp ?_);refine ab (wpAny_tupleItemsOf nX iN ?_);refine ab ?_;show wpAny _ _ (forIn [(Value.str p.1 ta,Value.str q.1 tb),(va,vb)] _ _) _ _ _;rw[List.forIn_cons];refine ab ?_;refine ab ((CQ prog w).eqBool (a:=.inr p.1) (b:=.inr q.1) RW RW ?_);unfold Bj at h
 by_cases h1:p.1=q.1
 ·rw[dk (show (Sum.inr p.1:Key)=.inr q.1 by rw[h1])]
  rw[ag h1]at h;simp only[Bool.not_true,Bool.false_eq_true,if_false];refine ah ?_;show wpAny _ _ (forIn [(va,vb)] _ _) _ _ _;rw[List.forIn_cons];refine ab ?_;refine ab ((CQ prog w).eqBool (a:=p.2) (b:=q.2) Ap Aq ?_)
  by_cases h2:p.2=q.2
  ·rw[dk h2]
   rw[ag h2]at h;simp only[Bool.not_true,Bool.false_eq_true,if_false];refine ah ?_;show wpAny _ _ (forIn ([]:List (Value×Value)) _ _) _ _ _;rw[List.forIn_nil];refine ah (ah ?_);exact h
  ·rw[dm h2]
   rw[ai h2]at h;simp only[Bool.not_false,if_true];refine ab (jn ?_);refine ab (Y0 (hT.resolve_right fun z=>z h1) Ap Aq ?_);exact ab (ah (ah (ah (ah h))))
 ·rw[dm (show ¬(Sum.inr p.1:Key)=.inr q.1 from fun e=>h1 (iF e))]
  rw[ai h1]at h;simp only[Bool.not_false,if_true];refine ab (jn ?_);refine ab (Y0 (x:=.inr p.1) (y:=.inr q.1) (u:=.str p.1 ta) (v:=.str q.1 tb) rfl (RW (prog:=prog) (w:=w) (x:=p.1) (t:=ta)) (RW (prog:=prog) (w:=w) (x:=q.1) (t:=tb)) ?_);exact ab (ah (ah (ah (ah h))))
noncomputable def aX(p q:FK):Bool:=if p.1=q.1 then (if p.2=q.2 then false else Bj p.2 q.2) else decide (p.1.cps.toList<q.1.cps.toList)
theorem MV{x y:FK}{b:Addr}{Q:Bool→Shared→Prop}(hu:A.units+10<cLine)(hT:jW x.2.2 y.2.2=true∨x.2.1≠y.2.1)(hx:gc prog w s.heap x a)(hy:gc prog w s.heap y b)(h:Q (aX x y) s):
  wpAny (model prog w) A (keyLt' (tuples' true) (.ref a) (.ref b)) Q E s:=by
 obtain⟨ox,xs,n,t,c,Ug,_,S0,Ip,hc⟩:=hx;obtain⟨oy,ys,m,t',d,Uh,_,S4,Iq,hd⟩:=hy;refine PySem.W.kat_lt Ug S0 Uh S4 ?_;have z1:xs.size=2:=by rw[←fR,Ip];rfl
 have z2:ys.size=2:=by rw[←fR,Iq];rfl
 rw[Ip,Iq,z1,z2];show PySem.W.KatLex prog w A true _ Q [(.str x.1 t,.str y.1 t'),(.ref c,.ref d)] 0 s;refine PySem.W.kat_cons (iZ (y:=.str x.1) (x:=.str y.1) ⟨_,rfl⟩ ⟨_,rfl⟩ rfl rfl prog w _ _ ?_);unfold aX at h
 by_cases fc:x.1=y.1
 ·have e1:fI (.str x.1) (.str y.1)=true:=by rw[fc];exact beq_self_eq_true y.1
  rw[e1];rw[ag fc]at h;refine PySem.W.kat_yes (PySem.W.kat_cons (wpAny_eqBool_tuple (x:=fq x) (y:=fq y) (by lia) hc hd ?_))
  by_cases h2:x.2=y.2
  ·have e2:fq x=fq y:=by unfold fq;rw[h2]
   rw[dk e2];rw[ag h2]at h;exact PySem.W.kat_yes (PySem.W.kat_nil h)
  ·have e2:¬fq x=fq y:=fun e=>by
    simp only[fq,List.cons.injEq,Sum.inr.injEq,and_true]at e;exact h2 (Prod.ext e.1 e.2)
   rw[dm e2];rw[ai h2]at h;refine PySem.W.kat_no (PySem.W.kat_one _ _ ?_);have Ib:=hc.typeIs;have Sy:=hd.typeIs;exact wpAny_richCompare_same_room (op:=.Lt) Ib Sy F.slot_tuple_lt (gn F.slot_tuple_lt Ib F.entry_tuple_lt (iU (p:=x.2) (q:=y.2) hT hc hd ⟨_,rfl,(fun e=>nomatch e),h⟩) (F.args_tuple_lt_2 _ _)) (by lia)
 ·have e1:fI (.str x.1) (.str y.1)=false:=(beq_eq_false_iff_ne.mpr fc:(x.1==y.1)=false)
  rw[e1];rw[ai fc]at h;exact PySem.W.kat_no (oneLt_str h)
end L2
section
set_option genInjectivity false
namespace WL
open PySem L2
inductive D where
 | ao | bl (b:Bool) | int (i:Int) | str (x:Str) | tup (xs:List D) | lst (xs:List D) | aq (ks:List Key) (vs:List D) | b6 (ns:List Int) | ak (i:Nat)
inductive MO where
 | lst (xs:List D) | aq (ks:List Key) (vs:List D) | fd (ks:List FK)
noncomputable abbrev Mem:=List MO
noncomputable abbrev DS:=List (Option D)
mutual
noncomputable def D.beq:D→D→Bool
 | .ao,.ao=>true
 | .bl a,.bl b=>a==b
 | .int a,.int b=>decide (a=b)
 | .str a,.str b=>decide (a=b)
 | .tup a,.tup b=>D.jt a b
 | .lst a,.lst b=>D.jt a b
 | .aq k a,.aq l b=>decide (k=l)&&D.jt a b
 | .b6 a,.b6 b=>decide (a=b)
 | .ak a,.ak b=>decide (a=b)
 | _,_=>false
noncomputable def D.jt:List D→List D→Bool
 | [],[]=>true
 | a::r,b::q=>D.beq a b&&D.jt r q
 | _,_=>false
end
mutual
theorem D.beq_refl:∀d:D,D.beq d d=true
 | .ao=>rfl
 | .bl a=>(show (a==a)=true from beq_self_eq_true a)
 | .int a=>(show decide (a=a)=true from dk rfl)
 | .str a=>(show decide (a=a)=true from dk rfl)
 | .tup a=>D.wu a
 | .lst a=>D.wu a
 | .aq k a=>(show (decide (k=k)&&D.jt a a)=true from by rw[dk (rfl:k=k),D.wu a];rfl)
 | .b6 a=>(show decide (a=a)=true from dk rfl)
 | .ak a=>(show decide (a=a)=true from dk rfl)
theorem D.wu:∀d:List D,D.jt d d=true
 | []=>rfl
 | a::r=>(show (D.beq a a&&D.jt r r)=true from by rw[D.beq_refl a,D.wu r];rfl)
end
mutual
theorem D.eq_of_beq:∀{a b:D},D.beq a b=true→a=b
 | .ao,b,h=>by cases b with
  | ao=>rfl
  | _=>cases (show false=true from h)
 | .bl a,b,h=>by cases b with
  | bl c=>exact congrArg D.bl (LawfulBEq.eq_of_beq (show (a==c)=true from h))
  | _=>cases (show false=true from h)
 | .int a,b,h=>by cases b with
  | int c=>exact congrArg D.int (gq (show decide (a=c)=true from h))
  | _=>cases (show false=true from h)
 | .str a,b,h=>by cases b with
  | str c=>exact congrArg D.str (gq (show decide (a=c)=true from h))
  | _=>cases (show false=true from h)
 | .tup a,b,h=>by cases b with
  | tup c=>exact congrArg D.tup (D.w8 (show D.jt a c=true from h))
  | _=>cases (show false=true from h)
 | .lst a,b,h=>by cases b with
  | lst c=>exact congrArg D.lst (D.w8 (show D.jt a c=true from h))
  | _=>cases (show false=true from h)
 | .aq k a,b,h=>by cases b with
  | aq l c=>
   have h:(decide (k=l)&&D.jt a c)=true:=h;rw[gh]at h;rw[gq h.1,D.w8 h.2]
  | _=>cases (show false=true from h)
 | .b6 a,b,h=>by cases b with
  | b6 c=>exact congrArg D.b6 (gq (show decide (a=c)=true from h))
  | _=>cases (show false=true from h)
 | .ak a,b,h=>by cases b with
  | ak c=>exact congrArg D.ak (gq (show decide (a=c)=true from h))
  | _=>cases (show false=true from h)
theorem D.w8:∀{a b:List D},D.jt a b=true→a=b
 | [],b,h=>by cases b with
  | nil=>rfl
  | cons _ _=>cases (show false=true from h)
 | a::r,b,h=>by cases b with
  | nil=>cases (show false=true from h)
  | cons c q=>
   have h:(D.beq a c&&D.jt r q)=true:=h;rw[gh]at h;rw[D.eq_of_beq h.1,D.w8 h.2]
end
noncomputable def D.clean:D→Bool
 | .tup xs=>cj xs
 | .lst xs=>cj xs
 | .aq _ xs=>cj xs
 | .ak _=>false
 | _=>true
where cj:List D→Bool
 | []=>true
 | a::r=>D.clean a&&cj r
inductive BH where | add | sub | mul | mod | fdiv
inductive qi where | eq | ne | lt | le | gt | ge | isin | Jt | is | mI
inductive B1 where
 | len | list (mu:Bool) | tuple | int | all | max | sorted (mu:Bool) | t5 (mu:Bool) | WC (mu:Bool) | AW (mu:Bool) | WB (mu:Bool) | dict (mu:Bool) | XU (mu:Bool) | og (mu:Bool) | ug (mu:Bool) | AX (mu:Bool) | yt (mu:Bool) | yv | group
 | AG | isInt | isStr | isBool
inductive Tg where | nm (i:Nat) | tp (ts:List Tg)
mutual
inductive Ex where
 | var (i:Nat) | con (d:D) | bin (o:BH) (a b:Ex) | cat (mu:Bool) (a b:Ex) | cmp (o:qi) (a b:Ex) | chain (o p:qi) (a b c:Ex) | Vu (a:Ex) | Ri (a b:Ex) | VI (a b:Ex) | rk (t:Te) (a b:Ex)
 | tup (as:iz) | lst (mu:Bool) (as:iz) | CB (mu:Bool) (ks:List Key) (as:iz) | ix (a b:Ex) | mM (a b:Ex) | ind (a b:Ex) | tS (a b:Ex) | sl (a:Ex) (lo hi:Oe)
 | call (f:String) (as:iz) | b1 (b:B1) (a:Ex) | max2 (a b:Ex) | get (d k z:Ex) | pop (a:Ex) | app (l a:Ex) | ext (l a:Ex)
 | index (l a:Ex) | join (s l:Ex) | comp (mu:Bool) (k:Nat) (g:Tg) (i:Ie) (t:Te) (e:Ex) | UZ (mu:Bool) (a b:Ex) | Vd (a:Ex) (z:Int) | US (a b:Ex) | CO | AS (a:Ex) | upd (d e:Ex)
inductive iz where | nil | cons (a:Ex) (r:iz)
inductive Te where | val (a:Ex) | and (a b:Te) | or (a b:Te) | not (a:Te) | tt
inductive Oe where | no | pt (a:Ex)
inductive Ie where | seq (a:Ex) | iw (a:Ex) | Wa (a b:Ex) | enum (a:Ex) | zip (a b:Ex) | txt (a:Ex) | CH (a:Ex) | keys (a:Ex)
end
mutual
inductive Sm where
 | set (i:Nat) (a:Ex) | asg (g:Tg) (a:Ex) | put (d k v:Ex) | drop (a:Ex) | ret (a:Ex) | ite (t:Te) (a b:bp) | bh (t:Te) (b:bp) | fr (g:Tg) (i:Ie) (b:bp) | zC (d k:Ex)
inductive bp where | nil | cons (s:Sm) (r:bp)
end
noncomputable def TX:D→Mem→Option (List D)
 | .tup xs,_=>some xs
 | .lst xs,_=>some xs
 | .b6 ns,_=>some (ns.map .int)
 | .ak i,m=>match m[i]? with | some (.lst xs)=>some xs | _=>none
 | _,_=>none
noncomputable def FJ:D→Mem→Option (List D)
 | .lst xs,_=>some xs
 | .b6 ns,_=>some (ns.map .int)
 | .ak i,m=>match m[i]? with | some (.lst xs)=>some xs | _=>none
 | _,_=>none
noncomputable def GX:D→Mem→Option (List Key×List D)
 | .aq ks vs,_=>some (ks,vs)
 | .ak i,m=>match m[i]? with | some (.aq ks vs)=>some (ks,vs) | _=>none
 | _,_=>none
noncomputable def bE(mu:Bool)(xs:List D)(m:Mem):D×Mem:=if mu then (.ak m.length,m++[.lst xs]) else (.lst xs,m)
noncomputable def hV(mu:Bool)(ks:List Key)(vs:List D)(m:Mem):D×Mem:=if mu then (.ak m.length,m++[.aq ks vs]) else (.aq ks vs,m)
noncomputable def MF:D→Option Key
 | .int i=>some (.inl i)
 | .str x=>some (.inr x)
 | _=>none
noncomputable def GC:List Key→List D→Key→Option D
 | k::ks,v::vs,x=>if k=x then some v else GC ks vs x
 | _,_,_=>none
noncomputable def gQ:List Key→List D→Key→D→List D
 | k::ks,v::vs,x,y=>(if k=x then y else v)::gQ ks vs x y
 | _,_,_,_=>[]
noncomputable def putD(ks:List Key)(vs:List D)(x:Key)(y:D):List Key×List D:=if ks.any fun k=>decide (k=x) then (ks,gQ ks vs x y) else (ks++[x],vs++[y])
mutual
noncomputable def oe:D→Option PyData
 | .ao=>some .none
 | .bl b=>some (.bool b)
 | .int i=>some (.int i)
 | .str x=>some (.str x)
 | .tup xs=>(aB xs).map .tuple
 | .lst xs=>(aB xs).map .list
 | _=>none
noncomputable def aB:List D→Option (List PyData)
 | []=>some []
 | a::r=>(oe a).bind fun x=>(aB r).map (x::·)
end
noncomputable def U8(a b:D):Option Bool:=(oe a).bind fun x=>(oe b).bind fun y=>if x.canLay0&&y.canLay0&&decide (min x.depth y.depth≤60) then some (PyData.eqv x y) else none
noncomputable def jh:D→D→Option Bool
 | .int a,.int b=>some (decide (a=b))
 | .str a,.str b=>some (decide (a=b))
 | a,b=>U8 a b
noncomputable def D.rn:D→Bool
 | .ao=>true
 | _=>false
noncomputable def D.tI(b:Bool):D→Bool
 | .bl c=>c==b
 | _=>false
noncomputable def D.flat:D→Bool
 | .int _=>true
 | .str _=>true
 | _=>false
noncomputable def inD(x:D)(xs:List D):Bool:=xs.any fun y=>match x,y with
 | .int a,.int b=>decide (a=b)
 | .str a,.str b=>decide (a=b)
 | _,_=>false
noncomputable def fY:D→Mem→Option Bool
 | .ao,_=>some false
 | .bl b,_=>some b
 | .int i,_=>some (i != 0)
 | .tup xs,_=>some (!xs.isEmpty)
 | .lst xs,_=>some (!xs.isEmpty)
 | .b6 ns,_=>some (!ns.isEmpty)
 | .ak i,m=>match m[i]? with | some (.lst xs)=>some (!xs.isEmpty) | some (.aq ks _)=>some (!ks.isEmpty) | _=>none
 | _,_=>none
noncomputable def XC:BH→D→D→Mem→Option (D×Mem)
 | .add,.int a,.int b,m=>some (.int (a+b),m)
 | .sub,.int a,.int b,m=>some (.int (a-b),m)
 | .mul,.int a,.int b,m=>if (-(2 ^ 64)<a∧a<2 ^ 64)∨(-(2 ^ 64)<b∧b<2 ^ 64) then some (.int (a*b),m) else none
 | .mod,.int a,.int b,m=>if 0<b then some (.int (a % b),m) else none
 | .fdiv,.int a,.int b,m=>if 0<b∧b<1073741824 then some (.int (a / b),m) else none
 | .add,.str a,.str b,m=>if a.length+b.length≤1000 then some (.str (a++b),m) else none
 | .add,.tup a,.tup b,m=>if a.length+b.length≤10000 then some (.tup (a++b),m) else none
 | _,_,_,_=>none
noncomputable def LQ:qi→D→D→Option Bool
 | .eq,a,b=>jh a b
 | .ne,a,b=>(jh a b).map (!·)
 | .lt,.int a,.int b=>some (decide (a<b))
 | .le,.int a,.int b=>some (decide (a≤b))
 | .gt,.int a,.int b=>some (decide (b<a))
 | .ge,.int a,.int b=>some (decide (b≤a))
 | .isin,x,.tup xs=>if x.flat&&xs.all D.flat then some (inD x xs) else none
 | .isin,x,.lst xs=>if x.flat&&xs.all D.flat then some (inD x xs) else none
 | .Jt,x,.tup xs=>if x.flat&&xs.all D.flat then some (!inD x xs) else none
 | .Jt,x,.lst xs=>if x.flat&&xs.all D.flat then some (!inD x xs) else none
 | .is,x,.ao=>some x.rn
 | .mI,x,.ao=>some (!x.rn)
 | .is,x,.bl b=>some (x.tI b)
 | .mI,x,.bl b=>some (!x.tI b)
 | _,_,_=>none
noncomputable def j1:D→D→Mem→Option D
 | .tup xs,.int i,_=>cv xs i
 | .lst xs,.int i,_=>cv xs i
 | .b6 ns,.int i,_=>(cv ns i).map .int
 | .str z,.int i,_=>if z.length≤1000 then (cv z.cps.toList i).map fun c=>.str ⟨#[c]⟩ else none
 | .ak r,.int i,m=>match m[r]? with | some (.lst xs)=>cv xs i | _=>none
 | _,_,_=>none
noncomputable def cutD(xs:List D)(lo hi:Option Int):List D:=(xs.drop (HT.bj xs.length 0 lo)).take (HT.bj xs.length xs.length hi-HT.bj xs.length 0 lo)
noncomputable def qf:D→Option Int→Option Int→Option D
 | .tup xs,lo,hi=>some (.tup (cutD xs lo hi))
 | .lst xs,lo,hi=>some (.lst (cutD xs lo hi))
 | .b6 ns,lo,hi=>some (.lst (cutD (ns.map .int) lo hi))
 | .str z,lo,hi=>if z.length≤1000 then some (.str (StrLaws.sliceText z lo hi)) else none
 | _,_,_=>none
noncomputable def bR:List D→Option (List Bool)
 | []=>some []
 | .bl b::r=>(bR r).map (b::·)
 | _=>none
noncomputable def intsOf:List D→Option (List Int)
 | []=>some []
 | .int b::r=>(intsOf r).map (b::·)
 | _=>none
noncomputable def strsOf:List D→Option (List Str)
 | []=>some []
 | .str b::r=>(strsOf r).map (b::·)
 | _=>none
noncomputable def pairsOf:List D→Option (List Key×List D)
 | []=>some ([],[])
 | .tup [k,v]::r=>match MF k,pairsOf r with
  | some k,some (ks,vs)=>some (k::ks,v::vs)
  | _,_=>none
 | _=>none
noncomputable def FP:List Key→List D→List Key→List D→List Key×List D
 | ks,vs,k::r,v::q=>FP (putD ks vs k v).1 (putD ks vs k v).2 r q
 | ks,vs,_,_=>(ks,vs)
noncomputable def lM:List Int→Option Int
 | []=>none
 | a::r=>some (r.foldl (fun x y=>if y > x then y else x) a)
noncomputable def findD(x:D):List D→Nat→Option Nat
 | [],_=>none
 | y::r,i=>if inD x [y] then some i else findD x r (i+1)
noncomputable def FT(a b:Str):Bool:=!decide (b.cps.toList<a.cps.toList)
noncomputable def DQ(l:List Str):List Str:=l.mergeSort FT
noncomputable def QL:List D→Option (List (Str×Int))
 | []=>some []
 | .tup [.str a,.int b]::r=>(QL r).map ((a,b)::·)
 | _=>none
noncomputable def QC(p:Str×Int):D:=.tup [.str p.1,.int p.2]
noncomputable def J0(ps:List (Str×Int)):List (Str×Int):=ps.mergeSort fun p q=>FT p.1 q.1
noncomputable def uniq:List Str→List Str
 | []=>[]
 | x::r=>if x∈r then uniq r else x::uniq r
noncomputable def dQ:Key→D
 | .inl i=>.int i
 | .inr x=>.str x
noncomputable def fD(k:FK):D:=.tup [.str k.1,.tup [.str k.2.1,dQ k.2.2]]
noncomputable def nN:D→Option FK
 | .tup [.str a,.tup [.str b,x]]=>(MF x).map fun k=>(a,b,k)
 | _=>none
noncomputable def W3(ks:List FK)(k:FK):List FK:=if ks.any (fun x=>decide (x=k)) then ks else ks++[k]
noncomputable def R8(k:FK):Bool:=match k.2.2 with
 | .inl _=>decide (k.2.1=Str.ofString "page")
 | .inr _=>!decide (k.2.1=Str.ofString "page")
noncomputable def VG(p q:FK):Bool:=!aX q p
noncomputable def JG(l:List FK):List FK:=l.mergeSort VG
noncomputable def qC:List FK→List FK
 | []=>[]
 | x::r=>if r.any (fun y=>decide (y=x))=true then qC r else x::qC r
noncomputable def VJ:List D→Option (List FK)
 | []=>some []
 | d::r=>(nN d).bind fun k=>(VJ r).map fun ks=>k::ks
noncomputable abbrev ik:=List (Str×List (Str×Key))
noncomputable def FW(g:ik)(k:FK):ik:=if g.any (fun p=>decide (p.1=k.1))=true then g.map (fun p=>if p.1=k.1 then (p.1,p.2++[k.2]) else p) else g++[(k.1,[k.2])]
noncomputable def J1(g:ik):D:=.aq (g.map fun p=>.inr p.1) (g.map fun p=>.lst (p.2.map fun t=>.tup [.str t.1,dQ t.2]))
noncomputable def cy:B1→D→Mem→Option (D×Mem)
 | .len,.str z,m=>if z.length≤1000 then some (.int z.length,m) else none
 | .len,d,m=>match TX d m,GX d m with
  | some xs,_=>some (.int xs.length,m)
  | none,some (ks,_)=>some (.int ks.length,m)
  | none,none=>none
 | .list mu,d,m=>(TX d m).map fun xs=>bE mu xs m
 | .tuple,.tup xs,m=>some (.tup xs,m)
 | .tuple,d,m=>(FJ d m).map fun xs=>(.tup xs,m)
 | .int,.int i,m=>some (.int i,m)
 | .int,.bl b,m=>some (.int (if b then 1 else 0),m)
 | .all,d,m=>(FJ d m).bind fun xs=>(bR xs).map fun bs=>(.bl (bs.all id),m)
 | .max,d,m=>(FJ d m).bind fun xs=>(intsOf xs).bind fun ns=>(lM ns).map fun x=>(.int x,m)
 | .t5 mu,d,m=>(GX d m).bind fun(ks,_)=>if ks.length<64 then (strsOf (ks.map kD)).map fun ss=>bE mu ((DQ ss).map .str) m else none
 | .sorted mu,d,m=>(FJ d m).bind fun xs=>(QL xs).bind fun ps=>if xs.length≤4∧(ps.map (·.1)).Nodup then some (bE mu ((J0 ps).map QC) m) else none
 | .WC mu,d,m=>(FJ d m).bind fun xs=>(strsOf xs).bind fun ss=>if ss.length≤4000∧(uniq ss).length<64 then some (bE mu ((DQ (uniq ss)).map .str) m) else none
 | .AW mu,.ak i,m=>match m[i]? with
  | some (.fd ks)=>if ks.length<64∧ks.all R8=true then some (bE mu ((JG ks).map fD) m) else none
  | _=>none
 | .WB mu,d,m=>(TX d m).bind fun xs=>(VJ xs).bind fun ks=>if (qC ks).length<64∧ks.all R8=true then some (bE mu ((JG (qC ks)).map fD) m) else none
 | .dict mu,.tup xs,m=>(pairsOf xs).bind fun(ks,vs)=>if ks.length≤1000 then some (hV mu (FP [] [] ks vs).1 (FP [] [] ks vs).2 m) else none
 | .og mu,.tup xs,m=>some (bE mu xs.reverse m)
 | .ug mu,d,m=>(FJ d m).bind fun xs=>(pairsOf xs).bind fun(ks,vs)=>if ks.length≤1000 then some (hV mu (FP [] [] ks vs).1 (FP [] [] ks vs).2 m) else none
 | .AX mu,d,m=>(GX d m).bind fun(ks,vs)=>(strsOf (ks.map kD)).bind fun ss=>(intsOf vs).bind fun ns=>if ss.length≤4∧ss.Nodup then some (bE mu ((J0 (ss.zip ns)).map QC) m) else none
 | .yt mu,d,m=>(FJ d m).bind fun xs=>(intsOf xs).bind fun ns=>if ns.length≤1 then some (bE mu (ns.map .int) m) else none
 | .yv,d,m=>(FJ d m).bind fun xs=>if xs.length≤1000 then some (.tup xs.reverse,m) else none
 | .group,.tup xs,m=>(VJ xs).bind fun ks=>if ks.length≤1000 then some (J1 (ks.foldl FW []),m) else none
 | .AG,.tup _,m=>some (.bl true,m)
 | .AG,.ak _,m=>none
 | .AG,.aq _ _,m=>none
 | .AG,_,m=>some (.bl false,m)
 | .isInt,.int _,m=>some (.bl true,m)
 | .isInt,.bl _,m=>some (.bl true,m)
 | .isInt,.ak _,m=>none
 | .isInt,.aq _ _,m=>none
 | .isInt,_,m=>some (.bl false,m)
 | .isStr,.str _,m=>some (.bl true,m)
 | .isStr,.ak _,m=>none
 | .isStr,.aq _ _,m=>none
 | .isStr,_,m=>some (.bl false,m)
 | .isBool,.bl _,m=>some (.bl true,m)
 | .isBool,.ak _,m=>none
 | .isBool,.aq _ _,m=>none
 | .isBool,_,m=>some (.bl false,m)
 | _,_,_=>none
where kD:Key→D
 | .inl i=>.int i
 | .inr x=>.str x
mutual
noncomputable def JL:Tg→D→DS→Option DS
 | .nm i,d,σ=>some (σ.set i (some d))
 | .tp ts,.tup xs,σ=>if ts.length=xs.length then O7 ts xs σ else none
 | _,_,_=>none
noncomputable def O7:List Tg→List D→DS→Option DS
 | [],[],σ=>some σ
 | t::ts,x::xs,σ=>(JL t x σ).bind fun σ'=>O7 ts xs σ'
 | _,_,_=>none
end
noncomputable def k9(n:Nat):Tg→Bool
 | .nm i=>decide (n≤i)
 | .tp ts=>Ez n ts
where Ez (n:Nat):List Tg→Bool
 | []=>true
 | t::r=>k9 n t&&Ez n r
structure Walk where
 xs:List D
 Rm:Option Nat:=none
noncomputable def Walk.ok(w:Walk)(m:Mem):Bool:=match w.Rm with
 | none=>true
 | some i=>match m[i]? with | some (.lst ys)=>D.jt w.xs ys | _=>false
noncomputable def yT:List D→List D→List D
 | a::r,b::q=>.tup [a,b]::yT r q
 | _,_=>[]
noncomputable def O6:List D→Nat→List D
 | [],_=>[]
 | a::r,n=>.tup [.int n,a]::O6 r (n+1)
noncomputable def S8(w:Walk)(f:D→Mem→Option (Option D×Mem)):List D→Mem→Option (List D×Mem)
 | [],m=>if w.ok m then some ([],m) else none
 | d::r,m=>if w.ok m then (f d m).bind fun(o,m1)=>(S8 w f r m1).bind fun(ys,m2)=>some (o.toList++ys,m2) else none
section
variable(C:String→List D→Mem→Option (D×Mem))
mutual
noncomputable def ev:Ex→DS→Mem→Option (D×Mem)
 | .var i,σ,m=>match σ[i]? with | some (some d)=>some (d,m) | _=>none
 | .con d,_,m=>some (d,m)
 | .bin o a b,σ,m=>(ev a σ m).bind fun(x,m1)=>(ev b σ m1).bind fun(y,m2)=>XC o x y m2
 | .cat mu a b,σ,m=>(ev a σ m).bind fun(x,m1)=>(ev b σ m1).bind fun(y,m2)=>match x,y with
  | .lst xs,.lst ys=>if xs.length+ys.length≤10000 then some (bE mu (xs++ys) m2) else none
  | _,_=>none
 | .cmp o a b,σ,m=>(ev a σ m).bind fun(x,m1)=>(ev b σ m1).bind fun(y,m2)=>(LQ o x y).map fun c=>(.bl c,m2)
 | .chain o p a b c,σ,m=>(ev a σ m).bind fun(x,m1)=>(ev b σ m1).bind fun(y,m2)=>(LQ o x y).bind fun k=>if k then (ev c σ m2).bind fun(z,m3)=>(LQ p y z).map fun c=>(.bl c,m3) else some (.bl false,m2)
 | .Vu a,σ,m=>(ev a σ m).bind fun(x,m1)=>match x with | .bl b=>some (.bl !b,m1) | _=>none
 | .Ri a b,σ,m=>(ev a σ m).bind fun(x,m1)=>match x with | .bl true=>ev b σ m1 | .bl false=>some (.bl false,m1) | _=>none
 | .VI a b,σ,m=>(ev a σ m).bind fun(x,m1)=>match x with | .bl true=>some (.bl true,m1) | .bl false=>ev b σ m1 | _=>none
 | .rk t a b,σ,m=>(et t σ m).bind fun(c,m1)=>if c then ev a σ m1 else ev b σ m1
 | .tup as,σ,m=>(gf as σ m).bind fun(xs,m1)=>if xs.length≤1000 then some (.tup xs,m1) else none
 | .lst mu as,σ,m=>(gf as σ m).bind fun(xs,m1)=>if xs.length≤1000 then some (bE mu xs m1) else none
 | .CB mu ks as,σ,m=>(gf as σ m).bind fun(xs,m1)=>if xs.length=ks.length∧ks.length≤15 then some (hV mu (FP [] [] ks xs).1 (FP [] [] ks xs).2 m1) else none
 | .ix a b,σ,m=>(ev a σ m).bind fun(x,m1)=>(ev b σ m1).bind fun(y,m2)=>(j1 x y m2).map fun d=>(d,m2)
 | .mM a b,σ,m=>(ev a σ m).bind fun(x,m1)=>(ev b σ m1).bind fun(y,m2)=>(GX x m2).bind fun(ks,vs)=>(MF y).bind fun k=>(GC ks vs k).map fun d=>(d,m2)
 | .ind a b,σ,m=>(ev a σ m).bind fun(x,m1)=>(ev b σ m1).bind fun(y,m2)=>(GX y m2).bind fun(ks,vs)=>(MF x).map fun k=>(.bl (GC ks vs k).isSome,m2)
 | .tS a b,σ,m=>(ev a σ m).bind fun(x,m1)=>(ev b σ m1).bind fun(y,m2)=>(GX y m2).bind fun(ks,vs)=>(MF x).map fun k=>(.bl (!(GC ks vs k).isSome),m2)
 | .sl a lo hi,σ,m=>(ev a σ m).bind fun(x,m1)=>(eo lo σ m1).bind fun(l,m2)=>(eo hi σ m2).bind fun(h,m3)=>(qf x l h).map fun d=>(d,m3)
 | .call f as,σ,m=>(gf as σ m).bind fun(xs,m1)=>C f xs m1
 | .b1 b a,σ,m=>(ev a σ m).bind fun(x,m1)=>cy b x m1
 | .max2 a b,σ,m=>(ev a σ m).bind fun(x,m1)=>(ev b σ m1).bind fun(y,m2)=>match x,y with | .int i,.int j=>some (.int (if j > i then j else i),m2) | _,_=>none
 | .get d k z,σ,m=>(ev d σ m).bind fun(x,m1)=>(GX x m1).bind fun _=>(ev k σ m1).bind fun(y,m2)=>(ev z σ m2).bind fun(u,m3)=>(GX x m3).bind fun(ks,vs)=>(MF y).map fun k=>((GC ks vs k).getD u,m3)
 | .pop a,σ,m=>(ev a σ m).bind fun(x,m1)=>match x with
  | .ak i=>match m1[i]? with
   | some (.lst xs)=>(xs[xs.length-1]?).map fun d=>(d,m1.set i (.lst xs.dropLast))
   | _=>none
  | _=>none
 | .app l a,σ,m=>(ev l σ m).bind fun(x,m1)=>(FJ x m1).bind fun _=>(ev a σ m1).bind fun(y,m2)=>match x with
  | .ak i=>match m2[i]? with
   | some (.lst xs)=>if y.clean&&decide (xs.length<100000) then some (.ao,m2.set i (.lst (xs++[y]))) else none
   | _=>none
  | _=>none
 | .ext l a,σ,m=>(ev l σ m).bind fun(x,m1)=>(FJ x m1).bind fun _=>(ev a σ m1).bind fun(y,m2)=>match x with
  | .ak i=>match m2[i]?,y with
   | some (.lst xs),.lst ys=>if D.clean.cj ys&&decide (xs.length+ys.length≤100000) then some (.ao,m2.set i (.lst (xs++ys))) else none
   | some (.lst xs),.tup ys=>if D.clean.cj ys&&decide (xs.length+ys.length≤100000) then some (.ao,m2.set i (.lst (xs++ys))) else none
   | _,_=>none
  | _=>none
 | .index l a,σ,m=>(ev l σ m).bind fun(x,m1)=>(FJ x m1).bind fun _=>(ev a σ m1).bind fun(y,m2)=>(FJ x m2).bind fun xs=>if y.flat&&xs.all D.flat&&decide (xs.length<1000) then (findD y xs 0).map fun(k:Nat)=>(D.int (k:Int),m2) else none
 | .join s l,σ,m=>(ev s σ m).bind fun(x,m1)=>(ev l σ m1).bind fun(y,m2)=>match x with
  | .str sep=>(FJ y m2).bind fun xs=>(strsOf xs).bind fun ys=>if (ys.map (·.length)).sum+ys.length*sep.length≤100000 then some (.str (Txt.join sep ys),m2) else none
  | _=>none
 | .comp mu k g i t e,σ,m=>if k9 σ.length g then (ei i σ m).bind fun(w,m1)=>(S8 w (fun d m=>(JL g d (σ++List.replicate k none)).bind fun σ1=>(et t σ1 m).bind fun(c,m2)=>if c then (ev e σ1 m2).map fun(y,m3)=>(some y,m3) else some (none,m2)) w.xs m1).bind fun(ys,m2)=>
   if ys.length≤1000 then some (bE mu ys m2) else none
  else none
 | .UZ mu a b,σ,m=>(ev a σ m).bind fun(x,m1)=>(ev b σ m1).bind fun(y,m2)=>match x,y with
  | .lst xs,.lst ys=>if xs.length≤1000 then some (bE mu (yT xs ys) m2) else none
  | _,_=>none
 | .Vd a z,σ,m=>(ev a σ m).bind fun(x,m1)=>(FJ x m1).bind fun xs=>(intsOf xs).map fun ns=>(.int ((lM ns).getD z),m1)
 | .US a b,σ,m=>(ev a σ m).bind fun(x,m1)=>(ev b σ m1).bind fun(y,m2)=>match x,y with
  | .str i,.str j=>some (.bl (!(Builtin.Str.occurrences j i 0 j.length 1).isEmpty),m2)
  | _,_=>none
 | .CO,_,m=>some (.ak m.length,m++[.fd []])
 | .AS a,σ,m=>(ev a σ m).bind fun(x,m1)=>match x with
  | .ak i=>match m1[i]? with
   | some (.lst (d::r))=>some (d,m1.set i (.lst r))
   | _=>none
  | _=>none
 | .upd d e,σ,m=>(ev d σ m).bind fun(x,m1)=>(GX x m1).bind fun _=>(ev e σ m1).bind fun(y,m2)=>match x,y with
  | .ak i,.aq ks vs=>match m2[i]? with
   | some (.aq ib ig)=>if D.clean.cj vs&&decide (ib.length+ks.length≤1000) then some (.ao,m2.set i (.aq (FP ib ig ks vs).1 (FP ib ig ks vs).2)) else none
   | _=>none
  | _,_=>none
noncomputable def gf:iz→DS→Mem→Option (List D×Mem)
 | .nil,_,m=>some ([],m)
 | .cons a r,σ,m=>(ev a σ m).bind fun(x,m1)=>(gf r σ m1).map fun(xs,m2)=>(x::xs,m2)
noncomputable def et:Te→DS→Mem→Option (Bool×Mem)
 | .val a,σ,m=>(ev a σ m).bind fun(x,m1)=>(fY x m1).map fun c=>(c,m1)
 | .and a b,σ,m=>(et a σ m).bind fun(c,m1)=>if c then et b σ m1 else some (false,m1)
 | .or a b,σ,m=>(et a σ m).bind fun(c,m1)=>if c then some (true,m1) else et b σ m1
 | .not a,σ,m=>(et a σ m).map fun(c,m1)=>(!c,m1)
 | .tt,_,m=>some (true,m)
noncomputable def eo:Oe→DS→Mem→Option (Option Int×Mem)
 | .no,_,m=>some (none,m)
 | .pt a,σ,m=>(ev a σ m).bind fun(x,m1)=>match x with | .int i=>some (some i,m1) | _=>none
noncomputable def ei:Ie→DS→Mem→Option (Walk×Mem)
 | .seq a,σ,m=>(ev a σ m).bind fun(x,m1)=>(TX x m1).map fun xs=>(⟨xs,match x with | .ak i=>some i | _=>none⟩,m1)
 | .iw a,σ,m=>(ev a σ m).bind fun(x,m1)=>match x with | .int j=>if -(2 ^ 62)≤j∧j<2 ^ 62 then some (⟨(List.range j.toNat).map fun(i:Nat)=>.int i,none⟩,m1) else none | _=>none
 | .Wa a b,σ,m=>(ev a σ m).bind fun(x,m1)=>(ev b σ m1).bind fun(y,m2)=>match x,y with
  | .int i,.int j=>if -(2 ^ 62)≤i∧i<2 ^ 62∧-(2 ^ 62)≤j∧j<2 ^ 62 then some (⟨(List.range (j-i).toNat).map fun(n:Nat)=>.int (i+n),none⟩,m2) else none
  | _,_=>none
 | .enum a,σ,m=>(ev a σ m).bind fun(x,m1)=>match x with | .lst xs=>some (⟨O6 xs 0,none⟩,m1) | _=>none
 | .zip a b,σ,m=>(ev a σ m).bind fun(x,m1)=>(ev b σ m1).bind fun(y,m2)=>match x,y with
  | .lst xs,.lst ys=>some (⟨yT xs ys,none⟩,m2)
  | .tup xs,.tup ys=>some (⟨yT xs ys,none⟩,m2)
  | _,_=>none
 | .txt a,σ,m=>(ev a σ m).bind fun(x,m1)=>match x with | .str z=>if z.length≤1000 then some (⟨z.cps.toList.map fun(c:Nat)=>.str ⟨#[c]⟩,none⟩,m1) else none | _=>none
 | .CH a,σ,m=>(ev a σ m).bind fun(x,m1)=>match x with | .tup xs=>some (⟨O6 xs 0,none⟩,m1) | _=>none
 | .keys a,σ,m=>(ev a σ m).bind fun(x,m1)=>match x with | .aq ks _=>some (⟨ks.map dQ,none⟩,m1) | _=>none
end
inductive Out where | nx (σ:DS) | rt (d:D)
noncomputable def M7(t:DS→Mem→Option (Bool×Mem))(b:DS→Mem→Option (Out×Mem)):Nat→DS→Mem→Option (Out×Mem)
 | 0,_,_=>none
 | n+1,σ,m=>(t σ m).bind fun(c,m1)=>if c then (b σ m1).bind fun(o,m2)=>match o with
  | .nx σ'=>M7 t b n σ' m2
  | .rt d=>some (.rt d,m2)
  else some (.nx σ,m1)
noncomputable def forL(w:Walk)(g:Tg)(b:DS→Mem→Option (Out×Mem)):List D→DS→Mem→Option (Out×Mem)
 | [],σ,m=>if w.ok m then some (.nx σ,m) else none
 | d::r,σ,m=>if w.ok m then (JL g d σ).bind fun σ1=>(b σ1 m).bind fun(o,m1)=>match o with
  | .nx σ'=>forL w g b r σ' m1
  | .rt x=>some (.rt x,m1)
  else none
variable(W:Nat)
mutual
noncomputable def ex:Sm→DS→Mem→Option (Out×Mem)
 | .set i a,σ,m=>(ev C a σ m).map fun(x,m1)=>(.nx (σ.set i (some x)),m1)
 | .asg g a,σ,m=>(ev C a σ m).bind fun(x,m1)=>(JL g x σ).map fun σ'=>(.nx σ',m1)
 | .put d k v,σ,m=>(ev C v σ m).bind fun(z,m1)=>(ev C d σ m1).bind fun(x,m2)=>(ev C k σ m2).bind fun(y,m3)=>match x with
  | .ak i=>match m3[i]?,MF y with
   | some (.aq ks vs),some k=>if z.clean&&decide (ks.length<10000) then some (.nx σ,m3.set i (.aq (putD ks vs k z).1 (putD ks vs k z).2)) else none
   | _,_=>none
  | _=>none
 | .drop a,σ,m=>(ev C a σ m).map fun(_,m1)=>(.nx σ,m1)
 | .ret a,σ,m=>(ev C a σ m).map fun(x,m1)=>(.rt x,m1)
 | .ite t a b,σ,m=>(et C t σ m).bind fun(c,m1)=>if c then aE a σ m1 else aE b σ m1
 | .bh t b,σ,m=>M7 (et C t) (fun σ m=>aE b σ m) W σ m
 | .fr g i b,σ,m=>(ei C i σ m).bind fun(w,m1)=>forL w g (fun σ m=>aE b σ m) w.xs σ m1
 | .zC d k,σ,m=>(ev C d σ m).bind fun(x,m1)=>(ev C k σ m1).bind fun(y,m2)=>match x with
  | .ak i=>match m2[i]?,nN y with
   | some (.fd ks),some k=>if ks.length<10000 then some (.nx σ,m2.set i (.fd (W3 ks k))) else none
   | _,_=>none
  | _=>none
noncomputable def aE:bp→DS→Mem→Option (Out×Mem)
 | .nil,σ,m=>some (.nx σ,m)
 | .cons s r,σ,m=>(ex s σ m).bind fun(o,m1)=>match o with
  | .nx σ'=>aE r σ' m1
  | .rt d=>some (.rt d,m1)
end
end
noncomputable def outD(n:Nat)(m:Mem):D→Option D
 | .ak i=>if i<n then none else match m[i]? with
  | some (.lst xs)=>if D.clean.cj xs then some (.lst xs) else none
  | some (.aq ks vs)=>if D.clean.cj vs then some (.aq ks vs) else none
  | _=>none
 | d=>if d.clean then some d else none
structure Fn where
 ps:Nat
 ns:Nat
 body:bp
noncomputable def BW(W:Nat)(Γ:String→Option Fn):Nat→String→List D→Mem→Option (D×Mem)
 | 0,_,_,_=>none
 | n+1,f,xs,m=>(Γ f).bind fun F=>if xs.length=F.ps then
   (aE (BW W Γ n) W F.body (xs.map some++List.replicate (F.ns-F.ps) none) m).bind fun(o,m1)=>match o with
    | .rt d=>(outD m.length m1 d).map fun d=>(d,m1.take m.length)
    | .nx _=>some (.ao,m1.take m.length)
   else none
end WL
end
variable{C:String→List WL.D→WL.Mem→Option (WL.D×WL.Mem)}{d:WL.D}{ds:List WL.D}{m:WL.Mem}{pa pb pc:WL.Ex}{Γ:String→Option WL.Fn}
namespace WL
open PySem PySem.Spec PyProof.Rows L2
def lz(K:p4)(H:Hp)(a:Addr)(vs:List V):Prop:=∃o:Obj,o.cls=.type "tuple"∧o.dict=none∧
 (H a=some (.bt o (.tup vs))∨(K.lookup a=some o∧∃(its:Array Value) (n:Nat),o.data=.seq its n∧its.size≤sizeLine∧Vals vs its.toList))
def qk(K:p4)(H:Hp)(a:Addr)(vs:List V):Prop:=(∃o,H a=some (.bt o (.lst vs)))∨
  ∃(o:Obj) (its:Array Value) (n:Nat),K.lookup a=some o∧o.cls=.type "list"∧o.dict=none∧o.data=.seq its n∧its.size≤sizeLine∧Vals vs its.toList
theorem lz.sq(h:lz K H a vs):dv K H a vs:=by
 obtain⟨o,hc,hd,h | ⟨hk,its,n,e,z,r⟩⟩:=h
 ·exact .inl (.inr ⟨o,h⟩)
 ·exact .inr ⟨o,its,n,hk,hc,e,z,r⟩
theorem qk.sq(h:qk K H a vs):c6 K H a vs:=by
 rcases h with ⟨o,h⟩ | h
 ·exact .inl (.inr ⟨o,h⟩)
 ·exact .inr h
mutual
def At(K:p4)(ρ:List Addr)(H:Hp):D→V→Prop
 | .ao,v=>v=.ao
 | .bl b,v=>v=.bl b
 | .int i,v=>v=.int i
 | .str x,v=>v=.str x
 | .tup xs,v=>∃a vs,v=.ref a∧lz K H a vs∧a6 K ρ H xs vs
 | .lst xs,v=>∃a o vs,v=.ref a∧H a=some (.bt o (.lst vs))∧a6 K ρ H xs vs
 | .aq ks xs,v=>∃a o kvs,v=.ref a∧H a=some (.bt o (.dK kvs))∧kvs.map (·.1)=ks∧a6 K ρ H xs (kvs.map (·.2))
 | .b6 ns,v=>∃a,v=.ref a∧qk K H a (ns.map V.int)
 | .ak i,v=>∃a,ρ[i]?=some a∧v=.ref a
def a6(K:p4)(ρ:List Addr)(H:Hp):List D→List V→Prop
 | [],vs=>vs=[]
 | d::r,vs=>∃v vr,vs=v::vr∧At K ρ H d v∧a6 K ρ H r vr
end
def HJ(H aa:Hp):Prop:=∀a o u,H a=some (.bt o u)→aa a=some (.bt o u)
def iE(ρ ρ':List Addr):Prop:=∀(i:Nat) (a:Addr),ρ[i]?=some a→ρ'[i]?=some a
theorem iE.refl(ρ:List Addr):iE ρ ρ:=fun _ _ h=>h
theorem iE.pre(h:ρ <+: ρ'):iE ρ ρ':=fun i a e=>by
 obtain⟨t,rfl⟩:=h;have hi:=(List.getElem?_eq_some_iff.mp e).1;rw[ko hi];exact e
theorem iE.take(ρ:List Addr)(n:Nat):iE (ρ.take n) ρ:=iE.pre (List.take_prefix n ρ)
theorem lz.mono(hf:HJ H aa):lz K H a vs→lz K aa a vs
 | ⟨o,c,d,.inl h⟩=>⟨o,c,d,.inl (hf _ _ _ h)⟩
 | ⟨o,c,d,.inr h⟩=>⟨o,c,d,.inr h⟩
theorem qk.mono(hf:HJ H aa):qk K H a vs→qk K aa a vs
 | .inl a7=>by
  obtain⟨o,h⟩:=a7;exact .inl ⟨o,hf _ _ _ h⟩
 | .inr h=>.inr h
mutual
theorem At.di(hf:HJ H aa)(hr:iE ρ ρ'):∀{d:D} {v:V},At K ρ H d v→At K ρ' aa d v
 | .ao,_,h=>h
 | .bl _,_,h=>h
 | .int _,_,h=>h
 | .str _,_,h=>h
 | .tup _,_,a7=>by
  obtain⟨a,vs,e,h,q⟩:=a7;exact⟨a,vs,e,h.mono hf,a6.di hf hr q⟩
 | .lst _,_,a7=>by
  obtain⟨a,o,vs,e,h,q⟩:=a7;exact⟨a,o,vs,e,hf _ _ _ h,a6.di hf hr q⟩
 | .aq _ _,_,a7=>by
  obtain⟨a,o,kvs,e,h,k,q⟩:=a7;exact⟨a,o,kvs,e,hf _ _ _ h,k,a6.di hf hr q⟩
 | .b6 _,_,a7=>by
  obtain⟨a,e,h⟩:=a7;exact⟨a,e,h.mono hf⟩
 | .ak _,_,a7=>by
  obtain⟨a,h,e⟩:=a7;exact⟨a,hr _ _ h,e⟩
theorem a6.di(hf:HJ H aa)(hr:iE ρ ρ'):∀{d:List D} {v:List V},a6 K ρ H d v→a6 K ρ' aa d v
 | [],_,h=>h
 | _::_,_,a7=>by
  obtain⟨a,b,e,p,q⟩:=a7;exact⟨a,b,e,At.di hf hr p,a6.di hf hr q⟩
end
mutual
theorem At.clean(hf:HJ H aa):∀{d:D} {v:V},d.clean=true→At K ρ H d v→At K ρ' aa d v
 | .ao,_,_,h=>h
 | .bl _,_,_,h=>h
 | .int _,_,_,h=>h
 | .str _,_,_,h=>h
 | .tup _,_,c,a7=>by
  obtain⟨a,vs,e,h,q⟩:=a7;exact⟨a,vs,e,h.mono hf,a6.clean hf c q⟩
 | .lst _,_,c,a7=>by
  obtain⟨a,o,vs,e,h,q⟩:=a7;exact⟨a,o,vs,e,hf _ _ _ h,a6.clean hf c q⟩
 | .aq _ _,_,c,a7=>by
  obtain⟨a,o,kvs,e,h,k,q⟩:=a7;exact⟨a,o,kvs,e,hf _ _ _ h,k,a6.clean hf c q⟩
 | .b6 _,_,_,a7=>by
  obtain⟨a,e,h⟩:=a7;exact⟨a,e,h.mono hf⟩
 | .ak _,_,c,_=>nomatch c
theorem a6.clean(hf:HJ H aa):∀{d:List D} {v:List V},D.clean.cj d=true→a6 K ρ H d v→a6 K ρ' aa d v
 | [],_,_,h=>h
 | _::_,_,c,a7=>by
  obtain⟨a,b,e,p,q⟩:=a7;have cw:=Bool.and_eq_true_iff.mp c;exact⟨a,b,e,At.clean hf cw.1 p,a6.clean hf cw.2 q⟩
end
theorem a6.len:∀{ds:List D} {vs:List V},a6 K ρ H ds vs→vs.length=ds.length
 | [],_,h=>by cases (show _=[] from h);rfl
 | _::_,_,⟨_,_,e,_,q⟩=>by subst e;simp[a6.len q]
theorem a6.get:∀{ds:List D} {vs:List V} {i:Nat} {d:D},a6 K ρ H ds vs→ds[i]?=some d→∃v,vs[i]?=some v∧At K ρ H d v
 | [],_,_,_,_,e=>by simp at e
 | _::_,_,0,_,a7,aI=>by
  obtain⟨v,_,e,p,_⟩:=a7;subst e;have:=cE (by simpa using aI);subst this;exact⟨v,rfl,p⟩
 | _::_,_,i+1,_,a7,aI=>by
  obtain⟨v,_,e,p,q⟩:=a7;subst e;obtain⟨w,h1,h2⟩:=a6.get (i:=i) q (by simpa using aI);exact⟨w,by simpa using h1,h2⟩
theorem a6.app:∀{as bs:List D} {vs us:List V},a6 K ρ H as vs→a6 K ρ H bs us→a6 K ρ H (as++bs) (vs++us)
 | [],_,_,_,h,h'=>by cases (show _=[] from h);exact h'
 | _::_,_,_,_,⟨v,r,e,p,q⟩,h'=>by subst e;exact⟨v,r++_,rfl,p,a6.app q h'⟩
theorem a6.one{v:V}(h:At K ρ H d v):a6 K ρ H [d] [v]:=⟨v,[],rfl,h,rfl⟩
theorem a6.snoc{v:V}(h:a6 K ρ H ds vs)(h':At K ρ H d v):a6 K ρ H (ds++[d]) (vs++[v]):=h.app (.one h')
theorem a6.take:∀{ds:List D} {vs:List V} (n:Nat),a6 K ρ H ds vs→a6 K ρ H (ds.take n) (vs.take n)
 | [],_,n,h=>by cases (show _=[] from h);simp[a6]
 | _::_,_,0,_=>rfl
 | _::_,_,n+1,⟨v,r,e,p,q⟩=>by subst e;exact⟨v,r.take n,rfl,p,a6.take n q⟩
theorem a6.drop:∀{ds:List D} {vs:List V} (n:Nat),a6 K ρ H ds vs→a6 K ρ H (ds.drop n) (vs.drop n)
 | [],_,n,h=>by cases (show _=[] from h);simp[a6]
 | _::_,_,0,h=>h
 | _::_,_,n+1,⟨v,r,e,p,q⟩=>by subst e;exact a6.drop n q
theorem a6.rev:∀{ds:List D} {vs:List V},a6 K ρ H ds vs→a6 K ρ H ds.reverse vs.reverse
 | [],_,h=>by cases (show _=[] from h);rfl
 | _::_,_,a7=>by
  obtain⟨v,r,e,p,q⟩:=a7;subst e;rw[List.reverse_cons,List.reverse_cons];exact(a6.rev q).snoc p
theorem a6.ints:∀(ns:List Int),a6 K ρ H (ns.map D.int) (ns.map V.int)
 | []=>rfl
 | n::r=>⟨_,_,rfl,rfl,a6.ints r⟩
def nj(K:p4)(ρ:List Addr)(H:Hp)(a:Addr):MO→Prop
 | .lst xs=>∃vs,H a=some (.lst vs)∧a6 K ρ H xs vs
 | .aq ks xs=>∃kvs,H a=some (.dK kvs)∧kvs.map (·.1)=ks∧a6 K ρ H xs (kvs.map (·.2))
 | .fd ks=>∃xs:List (FK×Addr),H a=some (.dF xs)∧xs.map (·.1)=ks∧∀x∈xs,At K ρ H (fD x.1) (.ref x.2)
structure bf(K:p4)(ρ:List Addr)(m:Mem)(H:Hp):Prop where
 len:ρ.length=m.length
 nd:ρ.Nodup
 at':∀(j:Nat) (a:Addr) (o:MO),ρ[j]?=some a→m[j]?=some o→nj K (ρ.take j) H a o
structure Go(ρ ρ':List Addr)(H aa:Hp):Prop where
 fr:∀b o,H b=some o→b∉ρ→aa b=some o
 ex:ρ <+: ρ'
 nw:∀b∈ρ',b∈ρ∨H b=none
def eA(K:p4)(ρ:List Addr)(H:Hp)(aj:DS)(σ:L2.St):Prop:=aj.length=σ.length∧∀(i:Nat) (d:D),aj[i]?=some (some d)→∃v,σ[i]?=some (some v)∧At K ρ H d v
section
variable{au cS:List Addr}{H1 H2:Hp}{ae:Mem}
theorem nj.mono(hf:HJ H aa)(hr:iE ρ ρ'):∀{o:MO},nj K ρ H a o→aa a=H a→nj K ρ' aa a o
 | .lst _,a7,h=>by
  obtain⟨vs,e,q⟩:=a7;exact⟨vs,h.trans e,q.di hf hr⟩
 | .aq _ _,a7,h=>by
  obtain⟨kvs,e,k,q⟩:=a7;exact⟨kvs,h.trans e,k,q.di hf hr⟩
 | .fd _,a7,h=>by
  obtain⟨xs,e,k,q⟩:=a7;exact⟨xs,h.trans e,k,fun x hx=>(q x hx).di hf hr⟩
theorem nj.ne:∀{o:MO},nj K ρ H a o→∃u,H a=some u∧∀ob w,u≠.bt ob w
 | .lst _,⟨vs,e,_⟩=>⟨_,e,fun _ _ z=>nomatch z⟩
 | .aq _ _,⟨vs,e,_⟩=>⟨_,e,fun _ _ z=>nomatch z⟩
 | .fd _,⟨vs,e,_⟩=>⟨_,e,fun _ _ z=>nomatch z⟩
theorem bf.obj(M:bf K ρ m H)(h:a∈ρ):∃j o,ρ[j]?=some a∧m[j]?=some o∧nj K (ρ.take j) H a o:=by
 obtain⟨j,hj,e⟩:=nE h;have e1:ρ[j]?=some a:=by rw[fo hj,e]
 have hm:j<m.length:=by rw[←M.len];exact hj
 exact⟨j,m[j],e1,fo hm,M.at' j a _ e1 (fo hm)⟩
theorem bf.there(M:bf K ρ m H)(h:a∈ρ):∃u,H a=some u∧∀ob w,u≠.bt ob w:=by
 obtain⟨j,o,_,_,q⟩:=M.obj h;exact q.ne
theorem bf.Vt(M:bf K ρ m H){o:Obj}{u:HO}(h:H a=some (.bt o u)):a∉ρ:=fun q=>by
 obtain⟨w,e,n⟩:=M.there q;rw[h]at e;exact n o u (cE e).symm
theorem bf.fresh(M:bf K ρ m H)(h:H a=none):a∉ρ:=fun q=>by
 obtain⟨w,e,n⟩:=M.there q;rw[h]at e;cases e
theorem Go.fz(M:bf K ρ m H)(g:Go ρ ρ' H aa):HJ H aa:=fun a o u h=>g.fr a _ h (M.Vt h)
theorem Go.refl(ρ:List Addr)(H:Hp):Go ρ ρ H H:=⟨fun _ _ h _=>h,List.prefix_rfl,fun _ h=>.inl h⟩
theorem Go.trans(a:Go ρ au H H1)(b:Go au cS H1 H2):Go ρ cS H H2 where
 fr:=fun c o h n=>b.fr c o (a.fr c o h n) fun z=>(a.nw c z).elim n fun q=>by rw[h]at q;cases q
 ex:=a.ex.trans b.ex
 nw:=fun c h=>by
  rcases b.nw c h with z | z
  ·exact a.nw c z
  ·by_cases hc:c∈ρ
   ·exact .inl hc
   ·cases q:H c with
    | none=>exact .inr rfl
    | some o=>rw[a.fr c o q hc]at z;cases z
theorem At.mono(M:bf K ρ m H)(g:Go ρ ρ' H aa){v:V}(h:At K ρ H d v):At K ρ' aa d v:=h.di (g.fz M) (.pre g.ex)
theorem a6.mono(M:bf K ρ m H)(g:Go ρ ρ' H aa){d:List D}{v:List V}(h:a6 K ρ H d v):a6 K ρ' aa d v:=h.di (g.fz M) (.pre g.ex)
theorem eA.di(hf:HJ H aa)(hr:iE ρ ρ'){aj:DS}{σ:L2.St}(h:eA K ρ H aj σ):eA K ρ' aa aj σ:=⟨h.1,fun i d e=>let ⟨v,aI,a⟩:=h.2 i d e;⟨v,aI,a.di hf hr⟩⟩
theorem eA.mono(M:bf K ρ m H)(g:Go ρ ρ' H aa){aj:DS}{σ:L2.St}(h:eA K ρ H aj σ):eA K ρ' aa aj σ:=h.di (g.fz M) (.pre g.ex)
theorem eA.set{aj:DS}{σ:L2.St}(h:eA K ρ H aj σ)(i:Nat){d:D}{v:V}(a:At K ρ H d v):eA K ρ H (aj.set i (some d)) (σ.set i (some v)):=by
 refine⟨by simpa using h.1,fun j e q=>?_⟩
 by_cases hj:i=j
 ·subst hj
  have hi:i<aj.length:=by
   have:=(List.getElem?_eq_some_iff.mp q).1;simpa using this
  rw[List.getElem?_set_self hi]at q;have dj:d=e:=cE (cE q);subst dj;exact⟨v,List.getElem?_set_self (by rw[←h.1];exact hi),a⟩
 ·rw[List.getElem?_set_ne hj]at q
  obtain⟨w,e1,a1⟩:=h.2 j e q;exact⟨w,by rw[List.getElem?_set_ne hj];exact e1,a1⟩
theorem fW{p:Addr}{o:HO}(hp:H p=none):HJ H (upd H p o):=fun a ob u h=>by rw[CK (FZ h hp)];exact h
theorem Q8{p:Addr}{o:HO}(hp:H p=none):Go ρ ρ H (upd H p o):=⟨fun b ob h _=>by rw[CK (FZ h hp)];exact h,List.prefix_rfl,fun _ h=>.inl h⟩
theorem bf.keep(M:bf K ρ m H)(hf:HJ H aa)(h:∀a∈ρ,aa a=H a):bf K ρ m aa:=
 ⟨M.len,M.nd,fun j a o e1 e2=>(M.at' j a o e1 e2).mono hf (.refl _) (h a (jw e1))⟩
theorem bf.new(M:bf K ρ m H){p:Addr}{o:HO}(hp:H p=none):bf K ρ m (upd H p o):=
 M.keep (fW hp) fun a ha=>CK fun e=>M.fresh hp (e▸ha)
theorem bf.push(M:bf K ρ m H){p:Addr}{o:HO}{q:MO}(hp:H p=none)(h:nj K ρ (upd H p o) p q):bf K (ρ++[p]) (m++[q]) (upd H p o):=by
 have hn:p∉ρ:=M.fresh hp;refine⟨by simp[M.len],List.nodup_append.mpr ⟨M.nd,by simp,fun a ha b hb=>?_⟩,fun j a u e1 e2=>?_⟩
 ·have:b=p:=by simpa using hb
  subst this;exact fun z=>hn (z▸ha)
 ·by_cases hj:j<ρ.length
  ·rw[ko hj]at e1
   rw[ko (by rw[←M.len];exact hj)]at e2;rw[List.take_append_of_le_length (nz hj)];exact(M.at' j a u e1 e2).mono (fW hp) (.refl _) (CK fun e=>hn (e▸jw e1))
  ·have sC:j=ρ.length:=by
    have:=(List.getElem?_eq_some_iff.mp e1).1;simp at this;lia
   subst sC;have sk:p=a:=by simpa using e1
   rw[M.len]at e2;have nL:q=u:=by simpa using e2
   subst sk nL;rw[List.take_append_of_le_length (aT _),List.take_length];exact h
theorem iQ(M:bf K ρ m H){p:Addr}{o:HO}(hp:H p=none):Go ρ (ρ++[p]) H (upd H p o):=⟨fun b ob h _=>by rw[CK (FZ h hp)];exact h,List.prefix_append _ _,fun b h=>by
 rcases de h with h | h
 ·exact .inl h
 ·have:b=p:=by simpa using h
  subst this;exact .inr hp⟩
theorem bf.write(M:bf K ρ m H){o:HO}{q:MO}(ha:ρ[j]?=some a)(h:nj K (ρ.take j) (upd H a o) a q):bf K ρ (m.set j q) (upd H a o)∧Go ρ ρ H (upd H a o):=by
 have hm:a∈ρ:=jw ha;obtain⟨u,hu,nf⟩:=M.there hm;have hf:HJ H (upd H a o):=fun b ob w e=>by
  rw[CK]
  ·exact e
  ·rintro rfl;rw[hu]at e;exact nf ob w (cE e)
 have hj:j<ρ.length:=(List.getElem?_eq_some_iff.mp ha).1;refine⟨⟨by simpa using M.len,M.nd,fun i b w e1 e2=>?_⟩,fun b ob e n=>by rw[CK fun z=>n (by rw[z];exact hm)];exact e,List.prefix_rfl,fun _ h=>.inl h⟩
 by_cases hi:j=i
 ·subst hi
  rw[List.getElem?_set_self (by rw[←M.len];exact hj)]at e2;rw[ha]at e1;cases e1;cases e2;exact h
 ·rw[List.getElem?_set_ne hi]at e2
  refine(M.at' i b w e1 e2).mono hf (.refl _) (CK ?_);rintro rfl;obtain⟨h1,e3⟩:=List.getElem?_eq_some_iff.mp ha;obtain⟨h2,e4⟩:=List.getElem?_eq_some_iff.mp e1;exact hi ((List.getElem_inj M.nd).mp (e3.trans e4.symm))
theorem bf.cut(M:bf K ρ m H)(n:Nat):bf K (ρ.take n) (m.take n) H:=by
 refine⟨by simp[M.len],M.nd.sublist (List.take_sublist n ρ),fun j a o e1 e2=>?_⟩;have hj:j<n:=by
  have:=(List.getElem?_eq_some_iff.mp e1).1;simp at this;lia
 rw[List.getElem?_take_of_lt hj]at e1 e2;rw[List.take_take,Nat.min_eq_left (nz hj)];exact M.at' j a o e1 e2
end
def eX:HO→Prop
 | .lst _=>True
 | .dK _=>True
 | _=>False
section
variable{σ:L2.St}
theorem freeze(I:Inv X pi σ H s){u:HO}(h:H a=some u)(hu:eX u):∃o,Inv X pi σ (upd H a (.bt o u)) s:=by
 obtain⟨o,ho⟩:∃o,s.heap.get? a=some o:=by
  have q:=I.az a u h;cases u with
  | lst xs=>obtain⟨_,_,_,_,e⟩:=q;exact⟨_,e⟩
  | dK kvs=>obtain⟨_,_,_,_,o,_,_,e,_⟩:=q;exact⟨o,e⟩
  | _=>exact False.elim hu
 have nn:∀b,H b=none→b≠a:=fun b n z=>by subst z;rw[h]at n;cases n
 have nt:∀b w,H b=some w→¬eX w→b≠a:=fun b w n c z=>by subst z;rw[h]at n;cases n;exact c hu
 refine⟨o,I.ok,I.os,I.bare,⟨I.base.keep,I.base.slot,fun b ob e n hx=>?_,I.base.there,fun b xs e=>?_,fun b ob w e=>?_,fun b ps e=>?_⟩,I.loc,I.cell,?_,fun x c e=>?_,fun p hp=>?_,fun b w e=>?_,I.len⟩
 ·have q:=I.base.free b ob e n hx
  rw[CK (nn b q)];exact q
 ·have q:=I.base.lq b xs e
  rw[CK (nt b _ q fun z=>z)];exact q
 ·have q:=I.base.l3 b ob w e
  rw[CK (nt b _ q fun z=>z)];exact q
 ·obtain⟨more,q⟩:=I.base.oj b ps e
  exact⟨more,by rw[CK (nt b _ q fun z=>z)];exact q⟩
 ·rw[CK (nn _ I.free)];exact I.free
 ·rw[CK (nn _ (I.k7 x c e))];exact I.k7 x c e
 ·obtain⟨e1,e2,e3⟩:=I.pin p hp
  exact⟨e1,by rw[CK (nn _ e2)];exact e2,e3⟩
 ·have st:∀{c:Addr} {x:HO},du X.prog X.w H s.heap c x→du X.prog X.w (upd H a (.bt o u)) s.heap c x:=fun {c x} q=>
   q.kb (fun _ _ _ z=>z) (fun d z=>by rw[CK (nt d _ z fun z=>z)];exact z) fun d xs z=>by rw[CK (nt d _ z fun z=>z)];exact z
  by_cases hb:b=a
  ·subst hb
   rw[CT]at e;cases e;exact⟨ho,st (I.az b u h)⟩
  ·rw[CK hb]at e
   exact st (I.az b w e)
noncomputable def Fz(Q:VK):VK:=fun v H=>Q v H∨∃a u,v=.ref a∧H a=some u∧eX u∧∀o,Q v (upd H a (.bt o u))
theorem _root_.L2.EP.fz{Q:VK}(h:EP X pi σ (Fz Q) u s):EP X pi σ Q u s:=by
 obtain⟨v,aa,I,r,q | ⟨a,w,e,ha,c,q⟩⟩:=h
 ·exact⟨v,aa,I,r,q⟩
 ·obtain⟨o,h9⟩:=freeze I ha c
  exact⟨v,_,h9,r,q o⟩
end
section
variable{t t':TE}
theorem _root_.L2.PE.fz(h:PE X e t):PE X e (fun σ H Q=>t σ H (Fz Q)):=fun pi s σ H Q I q=>a8 (h pi s σ H _ I q) fun _ _ z=>L2.EP.fz z
theorem _root_.L2.PE.imp(h:PE X e t)(hi:∀σ H Q,t' σ H Q→t σ H Q):PE X e t':=fun pi s σ H Q I q=>h pi s σ H Q I (hi σ H Q q)
theorem _root_.L2.PE.tw(h:PE X e t)(hi:∀σ H Q,t' σ H Q→t σ H (Fz Q)):PE X e t':=h.fz.imp hi
theorem _root_.L2.PT.imp{t t':TT}(h:PT X e t)(hi:∀σ H Q,t' σ H Q→t σ H Q):PT X e t':=fun pi s σ H Q I q=>h pi s σ H Q I (hi σ H Q q)
theorem _root_.L2.PW.imp{t t':TT}(h:PW X e t)(hi:∀σ H Q,t' σ H Q→t σ H Q):PW X e t':=fun w pi s σ H Q I q=>h w pi s σ H Q I (hi σ H Q q)
theorem _root_.L2.PA.imp{es:List Expr}{t t':TA}(h:PA X es t)(hi:∀σ H Q,t' σ H Q→t σ H Q):PA X es t':=fun pos pi s σ H Q I q=>h pos pi s σ H Q I (hi σ H Q q)
theorem _root_.L2.PO.imp{e:Option Expr}{t t':TO}(h:PO X e t)(hi:∀σ H Q,t' σ H Q→t σ H Q):PO X e t':=fun pi s σ H Q I q=>h pi s σ H Q I (hi σ H Q q)
theorem _root_.L2.PS.imp{t t':TS}(h:PS X st t)(hi:∀D σ H,t' D σ H→t D σ H):PS X st t':=fun pi s σ H D I q=>h pi s σ H D I (hi D σ H q)
theorem _root_.L2.eC.imp{st:List Stmt}{t t':TS}(h:eC X st t)(hi:∀D σ H,t' D σ H→t D σ H):eC X st t':=fun pi s σ H D I q=>h pi s σ H D I (hi D σ H q)
end
section
variable(C:String→List D→Mem→Option (D×Mem))(W:Nat)(K:p4)
def eB(ρ:List Addr)(H:Hp)(d:D)(ae:Mem)(Q:VK):Prop:=∀v aa ρ',Go ρ ρ' H aa→bf K ρ' ae aa→At K ρ' aa d v→Q v aa
noncomputable def tD(p:Ex):TE:=fun σ H Q=>∃aj m ρ d ae,eA K ρ H aj σ∧bf K ρ m H∧ev C p aj m=some (d,ae)∧eB K ρ H d ae Q
noncomputable def t8(p:iz):TA:=fun σ H Q=>∃aj m ρ ds ae,eA K ρ H aj σ∧bf K ρ m H∧gf C p aj m=some (ds,ae)∧∀vs aa ρ',Go ρ ρ' H aa→bf K ρ' ae aa→a6 K ρ' aa ds vs→Q vs aa
noncomputable def fE(p:Te):TT:=fun σ H Q=>∃aj m ρ c ae,eA K ρ H aj σ∧bf K ρ m H∧et C p aj m=some (c,ae)∧∀aa ρ',Go ρ ρ' H aa→bf K ρ' ae aa→Q c aa
noncomputable def A8(p:Oe):TO:=fun σ H Q=>∃aj m ρ c ae,eA K ρ H aj σ∧bf K ρ m H∧eo C p aj m=some (c,ae)∧∀aa ρ',Go ρ ρ' H aa→bf K ρ' ae aa→Q c aa
noncomputable def qg(g:Tg):TG:=fun v σ H Q=>∃aj ρ d kf,eA K ρ H aj σ∧At K ρ H d v∧JL g d aj=some kf∧∀σ',eA K ρ H kf σ'→Q σ' H
noncomputable def yY(gs:List Tg):oP:=fun vs σ H Q=>∃aj ρ ds kf,eA K ρ H aj σ∧a6 K ρ H ds vs∧O7 gs ds aj=some kf∧∀σ',eA K ρ H kf σ'→Q σ' H
def zd(ρ:List Addr)(H:Hp)(o:Out)(ae:Mem)(E:Ends):Prop:=∀aa ρ',Go ρ ρ' H aa→bf K ρ' ae aa→match o with
 | .nx kf=>∀σ',eA K ρ' aa kf σ'→E.nx σ' aa
 | .rt d=>∀v,At K ρ' aa d v→E.rt v aa
noncomputable def lj(p:Sm):TS:=fun E σ H=>∃aj m ρ o ae,eA K ρ H aj σ∧bf K ρ m H∧ex C W p aj m=some (o,ae)∧zd K ρ H o ae E
noncomputable def YH(p:bp):TS:=fun E σ H=>∃aj m ρ o ae,eA K ρ H aj σ∧bf K ρ m H∧aE C W p aj m=some (o,ae)∧zd K ρ H o ae E
end
section
variable{au:List Addr}{H1:Hp}{m1 ae:Mem}{Q:VK}
theorem eB.go(h:eB K ρ H d ae Q)(g:Go ρ au H H1):eB K au H1 d ae Q:=fun v aa ρ' g' M A=>h v aa ρ' (g.trans g') M A
theorem eB.here(h:eB K ρ H d m1 Q)(M:bf K ρ m1 H){v:V}(A:At K ρ H d v):Q v H:=h v H ρ (.refl _ _) M A
theorem eB.tup{xs:List D}{vs:List V}(h:eB K ρ H (.tup xs) m1 Q)(M:bf K ρ m1 H)(A:a6 K ρ H xs vs){p:Addr}(hp:H p=none){o:Obj}(hc:o.cls=.type "tuple")(hd:o.dict=none):Q (.ref p) (upd H p (.bt o (.tup vs))):=
 h _ _ ρ (Q8 hp) (M.new hp) ⟨p,vs,rfl,⟨o,hc,hd,.inl CT⟩,A.mono M (Q8 hp)⟩
theorem eB.lst{mu:Bool}{xs:List D}{vs:List V}(h:eB K ρ H (bE mu xs m1).1 (bE mu xs m1).2 Q)(M:bf K ρ m1 H)(A:a6 K ρ H xs vs){p:Addr}(hp:H p=none):Fz Q (.ref p) (upd H p (.lst vs)):=by
 have Kr:a6 K ρ (upd H p (.lst vs)) xs vs:=A.mono M (Q8 hp);cases mu with
 | true=>
  refine .inl (h _ _ (ρ++[p]) (iQ M hp) (M.push hp ⟨vs,CT,Kr⟩) ⟨p,?_,rfl⟩);rw[←M.len];simp
 | false=>
  refine .inr ⟨p,_,rfl,CT,trivial,fun o=>?_⟩;rw[pZ];exact h _ _ ρ (Q8 hp) (M.new hp) ⟨p,o,vs,rfl,CT,A.mono M (Q8 hp)⟩
theorem eB.aq{xs:List D}(h:eB K ρ H (hV mu ks xs m1).1 (hV mu ks xs m1).2 Q)(M:bf K ρ m1 H)(hk:kvs.map (·.1)=ks)(A:a6 K ρ H xs (kvs.map (·.2))){p:Addr}(hp:H p=none):
  Fz Q (.ref p) (upd H p (.dK kvs)):=by
 cases mu with
 | true=>
  refine .inl (h _ _ (ρ++[p]) (iQ M hp) (M.push hp ⟨kvs,CT,hk,A.mono M (Q8 hp)⟩) ⟨p,?_,rfl⟩);rw[←M.len];simp
 | false=>
  refine .inr ⟨p,_,rfl,CT,trivial,fun o=>?_⟩;rw[pZ];exact h _ _ ρ (Q8 hp) (M.new hp) ⟨p,o,kvs,rfl,CT,hk,A.mono M (Q8 hp)⟩
end
theorem BJ(i:Nat)(hN:X.N[i]?=some x:=by rfl)(hv:zm X.env.scope x:=by first | exact Or.inl rfl | exact Or.inr (Or.inl rfl) | exact Or.inr (Or.inr rfl))(hd:(x==("__debug__" : Str))=false:=by decide)(jj:(x==("__classdict__" : Str))=false:=by decide):PE X (.Name x pos) (tD C X.K (.var i)):=(O2 hN hv hd jj).imp fun σ H Q af=>by
 obtain⟨aj,m,ρ,d,ae,S,M,e,q⟩:=af;change (match aj[i]? with | some (some d)=>some (d,m) | _=>none)=_ at e;split at e
 ·rename_i d' hd
  cases e;obtain⟨v,e1,a⟩:=S.2 i _ hd;exact⟨v,e1,q.here M a⟩
 ·cases e
theorem wm{v:V}(h:PE X e (tC v))(a:∀ρ H,At X.K ρ H d v):PE X e (tD C X.K (.con d)):=h.imp fun σ H Q af=>by
 obtain⟨aj,m,ρ,d',ae,S,M,e,q⟩:=af;cases e;exact q.here M (a ρ H)
theorem BP{i:Int}{j pos}:PE X (.Constant (.int i) j pos) (tD C X.K (.con (.int i))):=wm zQ fun _ _=>rfl
theorem se{i:Bool}{j pos}:PE X (.Constant (.bool i) j pos) (tD C X.K (.con (.bl i))):=wm FH fun _ _=>rfl
theorem DR{i:Str}{j pos}:PE X (.Constant (.str i) j pos) (tD C X.K (.con (.str i))):=wm OH fun _ _=>rfl
theorem wj{j pos}:PE X (.Constant .none j pos) (tD C X.K (.con .ao)):=wm OI fun _ _=>rfl
theorem BR:PA X [] (t8 C X.K .nil):=(JM (X:=X)).imp fun σ H Q af=>by
 obtain⟨aj,m,ρ,ds,ae,S,M,e,q⟩:=af;cases e;exact q [] H ρ (.refl _ _) M rfl
theorem BK{es:List Expr}{p:Ex}{ps:iz}(ha:PE X e (tD C X.K p))(hr:PA X es (t8 C X.K ps))(hs:starEach (e::es) X.env=(false,eval e X.env)::starEach es X.env:=by rfl):PA X (e::es) (t8 C X.K (.cons p ps)):=
 (J5 ha hr hs).imp fun σ H Q af=>by
 obtain⟨aj,m,ρ,ds,ae,S,M,e,q⟩:=af;obtain⟨⟨x,m1⟩,e1,e⟩:=aS e;obtain⟨⟨xs,m2⟩,e2,e⟩:=b5 e;cases e;refine⟨aj,m,ρ,x,m1,S,M,e1,fun v H1 au g1 M1 A1=>⟨aj,m1,au,xs,ae,S.mono M g1,M1,e2,fun vs H2 cS g2 M2 A2=>q _ H2 cS (g1.trans g2) M2 ⟨v,vs,rfl,A1.mono M1 g2,A2⟩⟩⟩
def wH(K:p4)(f:D→D→Mem→Option (D×Mem))(r:R2):Prop:=∀(ρ:List Addr) (m ae:Mem) (H:Hp) (dx dy d:D) (x y:V) (Q:VK),
 bf K ρ m H→At K ρ H dx x→At K ρ H dy y→f dx dy m=some (d,ae)→eB K ρ H d ae Q→r x y H (Fz Q)
theorem Fz.of{Q:VK}{v:V}(h:Q v H):Fz Q v H:=.inl h
theorem RP{p:Ex}{r:R2}{f:D→D→Mem→Option (D×Mem)}(h:PE X e (vt r (tD C X.K pa) (tD C X.K pb)))(hf:wH X.K f r)(he:∀σ m,ev C p σ m=(ev C pa σ m).bind fun z=>(ev C pb σ z.2).bind fun y=>f z.1 y.1 y.2):PE X e (tD C X.K p):=
 h.tw fun σ H Q af=>by
 obtain⟨aj,m,ρ,d,ae,S,M,e,q⟩:=af;rw[he]at e;obtain⟨⟨x,m1⟩,e1,e⟩:=aS e;obtain⟨⟨y,m2⟩,e2,e⟩:=aS e;exact⟨aj,m,ρ,x,m1,S,M,e1,fun v H1 au g1 M1 A1=>⟨aj,m1,au,y,m2,S.mono M g1,M1,e2,fun w H2 cS g2 M2 A2=>hf cS m2 ae H2 x y d v w Q M2 (A1.mono M1 g2) A2 e (q.go (g1.trans g2))⟩⟩
def Gv(K:p4)(f:D→Mem→Option (D×Mem))(r:V→Hp→VK→Prop):Prop:=∀(ρ:List Addr) (m ae:Mem) (H:Hp) (dx d:D) (x:V) (Q:VK),
 bf K ρ m H→At K ρ H dx x→f dx m=some (d,ae)→eB K ρ H d ae Q→r x H (Fz Q)
theorem wg{p:Ex}{r:V→Hp→VK→Prop}{f:D→Mem→Option (D×Mem)}(h:PE X e (fun σ H Q=>tD C X.K pa σ H fun x H1=>r x H1 Q))(hf:Gv X.K f r)(he:∀σ m,ev C p σ m=(ev C pa σ m).bind fun z=>f z.1 z.2):PE X e (tD C X.K p):=
 h.tw fun σ H Q af=>by
 obtain⟨aj,m,ρ,d,ae,S,M,e,q⟩:=af;rw[he]at e;obtain⟨⟨x,m1⟩,e1,e⟩:=aS e;exact⟨aj,m,ρ,x,m1,S,M,e1,fun v H1 au g1 M1 A1=>hf au m1 ae H1 x d v Q M1 A1 e (q.go g1)⟩
section
theorem J8(h:n≤100000):n≤sizeLine:=eR h (by rw[eI];decide)
noncomputable def yW(K:p4):R2:=fun x y H Q=>∃a b xs ys,x=.ref a∧y=.ref b∧lz K H a xs∧lz K H b ys∧xs.length+ys.length≤sizeLine∧
 (xs=[]→Q (.ref b) H)∧(xs≠[]→ys=[]→Q (.ref a) H)∧(xs≠[]→ys≠[]→∀p o,H p=none→o.cls=.type "tuple"→o.dict=none→Q (.ref p) (upd H p (.bt o (.tup (xs++ys)))))
theorem Mq:d5 X (binaryOp .Add) (yW X.K):=by
 intro pi s σ H x y v u Q I rx ry h;obtain⟨a,b,xs,ys,rfl,rfl,ha,hb,hz,q0,q1,q2⟩:=h;cases rx;cases ry;obtain⟨its,r1,p1,_⟩:=I.tuple ha.sq;obtain⟨fT,r2,p2,_⟩:=I.tuple hb.sq
 by_cases hx:xs=[]
 ·have hi:its=[]:=r1.AO.mpr hx
  obtain⟨⟨cls,dd,data,sl⟩,ho,hc,n,hd⟩:=id p1;obtain⟨⟨Hs,nK,data2,qe⟩,iO,ja,n2,hd2⟩:=id p2;simp only at hc hd ja hd2;subst hc hd ja hd2;exact concat_meets ⟨_,ho,rfl⟩ ⟨_,iO,rfl⟩ noFill_tuple_add seq_tuple_add PySem.F.slot_tuple_add PySem.F.entry_tuple_add (PySem.F.args_tuple_add_2 _ _)
   (tuple_addW0 a b its.toArray fT.toArray n n2 dd nK sl qe (by simp[hi])) ⟨ho,iO,⟨.ref b,H,I,rfl,q0 hx⟩⟩
 ·refine HT.Ru p1 p2 (fun z=>hx (r1.AO.mp z)) (fun z=>⟨.ref a,H,I,rfl,q1 hx (r2.AO.mp z)⟩) (fun z=>?_) (by rw[←r1.length,←r2.length];exact hz)
  refine⟨.ref s.heap.objs.size,_,I.laid (t':=s.toks) (o:=.bt { cls:=.type "tuple",data:=.seq (its++fT).toArray } (.tup (xs++ys))) (fun b ob q=>cz _ q) (aT _) ?_,rfl,q2 hx (fun w=>z (r2.AO.mpr w)) _ _ (I.az.fresh (aT _)) rfl rfl⟩;exact⟨c8 _ rfl,by rw[fN];exact hz,_,r1.append r2,IsTup.new _ _⟩
theorem Mr:d5 X (binaryOp .Add) (fun x y H Q=>lg (fun i j=>.int (i+j)) x y H Q∨(∃i j,x=.str i∧y=.str j∧i.length+j.length≤sizeLine∧Q (.str (i++j)) H)∨yW X.K x y H Q):=Vz.or (VA.or Mq)
theorem LA:wH X.K (XC .add) (fun x y H Q=>lg (fun i j=>.int (i+j)) x y H Q∨(∃i j,x=.str i∧y=.str j∧i.length+j.length≤sizeLine∧Q (.str (i++j)) H)∨yW X.K x y H Q):=by
 intro ρ m ae H dx dy d x y Q M ax ay e q;cases dx with
 | int i=>
  cases dy with
  | int j=>
   cases (show some (D.int (i+j),m)=some (d,ae) from e);cases ax;cases ay;exact .inl ⟨_,_,rfl,rfl,.of (q.here M rfl)⟩
  | _=>cases (show (none:Option (D×Mem))=some (d,ae) from e)
 | str i=>
  cases dy with
  | str j=>
   have e:(if i.length+j.length≤1000 then some (D.str (i++j),m) else none)=some (d,ae):=e
   by_cases hl:i.length+j.length≤1000
   ·rw[ag hl]at e
    cases e;cases ax;cases ay;exact .inr (.inl ⟨_,_,rfl,rfl,J8 (by lia),.of (q.here M rfl)⟩)
   ·rw[ai hl]at e
    cases e
  | _=>cases (show (none:Option (D×Mem))=some (d,ae) from e)
 | tup xs=>
  cases dy with
  | tup ys=>
   have e:(if xs.length+ys.length≤10000 then some (D.tup (xs++ys),m) else none)=some (d,ae):=e
   by_cases hl:xs.length+ys.length≤10000
   ·rw[ag hl]at e
    cases e;obtain⟨a,vs,rfl,ha,as⟩:=ax;obtain⟨b,us,rfl,hb,bs⟩:=ay;have l1:=as.len;have l2:=bs.len;refine .inr (.inr ⟨a,b,vs,us,rfl,rfl,ha,hb,J8 (by lia),fun z=>.of ?_,fun _ z=>.of ?_,fun _ _ p o hp hc hd=>.of (q.tup M (as.app bs) hp hc hd)⟩)
    ·have:xs=[]:=List.eq_nil_of_length_eq_zero (by rw[←l1,z];rfl)
     subst this;exact q.here M ⟨b,us,rfl,hb,bs⟩
    ·have:ys=[]:=List.eq_nil_of_length_eq_zero (by rw[←l2,z];rfl)
     subst this;rw[pw]at q;exact q.here M ⟨a,vs,rfl,ha,as⟩
   ·rw[ai hl]at e
    cases e
  | _=>cases (show (none:Option (D×Mem))=some (d,ae) from e)
 | _=>cases (show (none:Option (D×Mem))=some (d,ae) from e)
theorem Ls:wH X.K (XC .sub) (lg fun i j=>.int (i-j)):=by
 intro ρ m ae H dx dy d x y Q M ax ay e q;cases dx with
 | int i=>
  cases dy with
  | int j=>
   cases (show some (D.int (i-j),m)=some (d,ae) from e);cases ax;cases ay;exact⟨_,_,rfl,rfl,.of (q.here M rfl)⟩
  | _=>cases (show (none:Option (D×Mem))=some (d,ae) from e)
 | _=>cases (show (none:Option (D×Mem))=some (d,ae) from e)
theorem Lu:wH X.K (XC .mul) (rI ze fun i j=>.int (i*j)):=by
 intro ρ m ae H dx dy d x y Q M ax ay e q;cases dx with
 | int i=>
  cases dy with
  | int j=>
   have e:(if (-(2 ^ 64)<i∧i<2 ^ 64)∨(-(2 ^ 64)<j∧j<2 ^ 64) then some (D.int (i*j),m) else none)=some (d,ae):=e
   by_cases h:(-(2 ^ 64)<i∧i<2 ^ 64)∨(-(2 ^ 64)<j∧j<2 ^ 64)
   ·rw[ag h]at e
    cases e;cases ax;cases ay;exact⟨_,_,rfl,rfl,h,.of (q.here M rfl)⟩
   ·rw[ai h]at e
    cases e
  | _=>cases (show (none:Option (D×Mem))=some (d,ae) from e)
 | _=>cases (show (none:Option (D×Mem))=some (d,ae) from e)
theorem Lv:wH X.K (XC .mod) (rI (fun _ j=>0<j) fun i j=>.int (i % j)):=by
 intro ρ m ae H dx dy d x y Q M ax ay e q;cases dx with
 | int i=>
  cases dy with
  | int j=>
   have e:(if 0<j then some (D.int (i % j),m) else none)=some (d,ae):=e
   by_cases h:0<j
   ·rw[ag h]at e
    cases e;cases ax;cases ay;exact⟨_,_,rfl,rfl,h,.of (q.here M rfl)⟩
   ·rw[ai h]at e
    cases e
  | _=>cases (show (none:Option (D×Mem))=some (d,ae) from e)
 | _=>cases (show (none:Option (D×Mem))=some (d,ae) from e)
variable{a:Expr}
theorem G8(ha:PE X a (tD C X.K pa))(hb:PE X b (tD C X.K pb)):PE X (.BinOp a .Add b pos) (tD C X.K (.bin .add pa pb)):=RP (kI Mr ha hb) LA fun _ _=>rfl
theorem we(ha:PE X a (tD C X.K pa))(hb:PE X b (tD C X.K pb)):PE X (.BinOp a .Sub b pos) (tD C X.K (.bin .sub pa pb)):=RP (kI ON ha hb) Ls fun _ _=>rfl
theorem K6(ha:PE X a (tD C X.K pa))(hb:PE X b (tD C X.K pb)):PE X (.BinOp a .Mult b pos) (tD C X.K (.bin .mul pa pb)):=RP (kI OO ha hb) Lu fun _ _=>rfl
theorem NZ(ha:PE X a (tD C X.K pa))(hb:PE X b (tD C X.K pb)):PE X (.BinOp a .Mod b pos) (tD C X.K (.bin .mod pa pb)):=RP (kI OP ha hb) Lv fun _ _=>rfl
noncomputable def P7:R2:=fun x y H Q=>∃l b xs zs,x=.ref l∧y=.ref b∧Rd H l (.lst xs)∧Rd H b (.lst zs)∧xs.length+zs.length≤sizeLine∧∀p,H p=none→Q (.ref p) (upd H p (.lst (xs++zs)))
theorem Mp:d5 X (binaryOp .Add) P7:=by
 intro pi s σ H x y v u Q I rx ry h;obtain⟨l,b,xs,zs,rfl,rfl,hH,hB,hz,q⟩:=h;cases rx;cases ry;obtain⟨z,its,n,r,e⟩:=hH.ok I.az;obtain⟨z2,fT,n2,r2,e2⟩:=hB.ok I.az;have hl:=r.length;have sD:=r2.length;refine PySem.P.add_list e e2 ?_ (by rw[dr,dr];omega);have ea:its.toArray++fT.toArray=(its++fT).toArray:=by simp
 rw[ea];exact⟨.ref _,_,I.Jf (t':=s.toks) (r.append r2) (by rw[fN];omega),rfl,q _ I.fresh⟩
theorem oN(ha:PE X a (tD C X.K pa))(hb:PE X b (tD C X.K pb)):PE X (.BinOp a .Add b pos) (tD C X.K (.cat mu pa pb)):=
 RP (f:=fun x y m2=>match x,y with | .lst xs,.lst ys=>if xs.length+ys.length≤10000 then some (bE mu (xs++ys) m2) else none | _,_=>none) (kI Mp ha hb) (by
  intro ρ m ae H dx dy d x y Q M ax ay e q;cases dx<;>cases dy<;>simp only at e<;>try (cases e;done)
  split at e
  ·rename_i xs ys hl
   obtain⟨a,o,vs,rfl,ha,as⟩:=ax;obtain⟨b,bP,us,rfl,hb,bs⟩:=ay;have l1:=as.len;have l2:=bs.len;have aI:=cE e;have dj:eB X.K ρ H (bE mu (xs++ys) m).1 (bE mu (xs++ys) m).2 Q:=by rw[aI];exact q
   exact⟨a,b,vs,us,rfl,rfl,.inr ⟨o,ha⟩,.inr ⟨bP,hb⟩,J8 (by lia),fun p hp=>dj.lst M (as.app bs) hp⟩
  ·cases e) fun _ _=>rfl
end
end WL
namespace L2
open PySem PySem.Spec PyProof.Rows
theorem aU{M:Model}{v:Value}{b:Bool}(hv:∀i,v≠.builtin i)(h:Q (.bool (!(v==.bool b))) s):wpAny M A (compareOp .IsNot v (.bool b)) Q E s:=by
 cases v<;>first | exact ah h | exact absurd rfl (hv _)
theorem Mn:d5 X (compareOp .IsNot) (fun x y H Q=>∃b,y=.bl b∧Q (.bl (!decide (x=.bl b))) H):=by
 intro pi s σ H x y v u Q I rx ry h;obtain⟨b,rfl,q⟩:=h;cases ry;refine aU (fun i e=>?_) (G6 I q ?_)
 ·subst e
  cases x<;>first
   | (cases rx;done)
   | (obtain⟨t,h⟩:=rx;cases h;done)
 cases x<;>first
  | (cases rx;rfl)
  | (obtain⟨t,rfl⟩:=rx;rfl)
  | (cases rx;cases b<;>(rename_i c;cases c<;>rfl))
end L2
namespace WL
open PySem PySem.Spec PyProof.Rows L2
section
variable{σ:L2.St}
mutual
theorem RT(I:Inv X pi σ H s):∀{d:D} {x:V} {u:Value} {p:PyData},At X.K ρ H d x→oe d=some p→RelV x u→∃as,Reads s.heap u p as
 | .ao,_,_,_,a,e,r=>by cases a;cases e;cases r;exact⟨_,.none⟩
 | .bl b,_,_,_,a,e,r=>by cases a;cases e;cases r;exact⟨_,.bool b⟩
 | .int i,_,_,_,a,e,r=>by cases a;cases e;obtain⟨t,rfl⟩:=r;exact⟨_,.int i t⟩
 | .str i,_,_,_,a,e,r=>by cases a;cases e;obtain⟨t,rfl⟩:=r;exact⟨_,.str i t⟩
 | .tup xs,_,_,_,a7,e,r=>by
  obtain⟨a,vs,ex,h,as⟩:=a7;subst ex;cases r;obtain⟨ps,e1,rfl⟩:=b5 (show (aB xs).map PyData.tuple=some _ from e);obtain⟨its,rv,⟨o,ho,hc,n,hd⟩,_⟩:=I.tuple h.sq;obtain⟨bs,q⟩:=RV I as e1 rv;exact⟨_,.tuple ho hc hd (by simpa using q)⟩
 | .lst xs,_,_,_,a7,e,r=>by
  obtain⟨a,o,vs,ex,h,as⟩:=a7;subst ex;cases r;obtain⟨ps,e1,rfl⟩:=b5 (show (aB xs).map PyData.list=some _ from e);obtain⟨its,rv,⟨o,n,ho,hc,_,hd⟩,_⟩:=I.list (X:=X) (.inl (.inr ⟨o,h⟩));obtain⟨bs,q⟩:=RV I as e1 rv;exact⟨_,.list ho hc hd (by simpa using q)⟩
 | .aq _ _,_,_,_,_,e,_=>nomatch e
 | .b6 _,_,_,_,_,e,_=>nomatch e
 | .ak _,_,_,_,_,e,_=>nomatch e
theorem RV(I:Inv X pi σ H s):∀{ds:List D} {xs:List V} {us:List Value} {ps:List PyData},a6 X.K ρ H ds xs→aB ds=some ps→Vals xs us→∃as,ReadsAll s.heap us ps as
 | [],_,_,_,a,e,r=>by
  cases (show _=[] from a);cases e;cases r;exact⟨_,.nil⟩
 | d::ds,_,_,_,a7,e,r=>by
  obtain⟨v,vr,ex,a,as⟩:=a7;subst ex;obtain⟨p,e1,e⟩:=aS (show (oe d).bind _=some _ from e);obtain⟨ps,e2,rfl⟩:=b5 e;cases r with
  | cons r1 r2=>
   obtain⟨XO,q1⟩:=RT I a e1 r1;obtain⟨oQ,q2⟩:=RV I as e2 r2;exact⟨_,.cons q1 q2⟩
end
end
section
def Gy(K:p4)(o:qi)(r:R2):Prop:=∀(ρ:List Addr) (m:Mem) (H:Hp) (dx dy:D) (x y:V) (c:Bool) (Q:VK),bf K ρ m H→At K ρ H dx x→At K ρ H dy y→LQ o dx dy=some c→Q (.bl c) H→r x y H Q
def SM(X:Cx)(o:qi)(op:CmpOp):Prop:=∃r,d5 X (compareOp op) r∧Gy X.K o r
noncomputable def yV(K:p4)(neg:Bool):R2:=fun x y H Q=>∃ρ dx dy px py,At K ρ H dx x∧At K ρ H dy y∧oe dx=some px∧oe dy=some py∧px.canLay0=true∧py.canLay0=true∧min px.depth py.depth≤60∧Q (.bl (if neg then !PyData.eqv px py else PyData.eqv px py)) H
theorem Mo(hu:X.A.units+64<cLine):d5 X (compareOp .Eq) (yV X.K false):=by
 intro pi s σ H x y v u Q I rx ry h;obtain⟨ρ,dx,dy,px,py,ax,ay,ex,ey,lx,ly,hd,q⟩:=h;obtain⟨as,r1⟩:=RT I ax ex rx;obtain⟨bs,r2⟩:=RT I ay ey ry;exact SeqAt.eqOverData X.prog X.w X.A X.xe s v u px py as bs _ r1 r2 lx ly (by lia) ⟨.bl _,H,I,rfl,q⟩
theorem zV(hu:X.A.units+64<cLine):d5 X (compareOp .NotEq) (yV X.K true):=by
 intro pi s σ H x y v u Q I rx ry h;obtain⟨ρ,dx,dy,px,py,ax,ay,ex,ey,lx,ly,hd,q⟩:=h;obtain⟨as,r1⟩:=RT I ax ex rx;obtain⟨bs,r2⟩:=RT I ay ey ry;exact SeqAt.neOverData X.prog X.w X.A X.xe s v u px py as bs _ r1 r2 lx ly (by lia) ⟨.bl _,H,I,rfl,q⟩
theorem rU{dx dy:D}{x:V}{c:Bool}(neg:Bool){Q:VK}(ax:At K ρ H dx x)(ay:At K ρ H dy y)(e:U8 dx dy=some c)(q:Q (.bl (if neg then !c else c)) H):yV K neg x y H Q:=by
 unfold U8 at e;obtain⟨px,e1,e⟩:=aS e;obtain⟨py,e2,e⟩:=aS e;split at e
 ·rename_i h
  have aI:=cE e;rw[gh,gh,decide_eq_true_eq]at h;exact⟨ρ,dx,dy,px,py,ax,ay,e1,e2,h.1.1,h.1.2,h.2,by rw[aI];exact q⟩
 ·cases e
theorem Ff{a b:Int}:decide (V.int a=V.int b)=decide (a=b):=by simp
theorem Fe{a b:Str}:decide (V.str a=V.str b)=decide (a=b):=by simp
theorem JK(hu:X.A.units+64<cLine):SM X .eq .Eq:=by
 refine⟨_,VC.or (Mo hu),fun ρ m H dx dy x y c Q M ax ay e q=>?_⟩;have e:jh dx dy=some c:=e;unfold jh at e;split at e
 ·cases ax;cases ay;cases e
  exact .inl ⟨rfl,by rw[Ff];exact q⟩
 ·cases ax;cases ay;cases e
  exact .inl ⟨rfl,by rw[Fe];exact q⟩
 ·exact .inr (rU false ax ay e q)
theorem bI(hu:X.A.units+64<cLine):SM X .ne .NotEq:=by
 refine⟨_,VE.or (zV hu),fun ρ m H dx dy x y c Q M ax ay e q=>?_⟩;obtain⟨k,e0,rfl⟩:=b5 (show (jh dx dy).map (!·)=some c from e);clear e
 rename jh dx dy=some k=>e
 unfold jh at e;split at e
 ·cases ax;cases ay;cases e
  exact .inl ⟨rfl,by rw[Ff];exact q⟩
 ·cases ax;cases ay;cases e
  exact .inl ⟨rfl,by rw[Fe];exact q⟩
 ·exact .inr (rU true ax ay e q)
theorem j7{o:qi}{g:Int→Int→Bool}(h:d5 X (compareOp op) (lg fun i j=>.bl (g i j)))(hc:∀dx dy c,LQ o dx dy=some c→∃i j,dx=.int i∧dy=.int j∧c=g i j):SM X o op:=
 ⟨_,h,fun ρ m H dx dy x y c Q M ax ay e q=>by
  obtain⟨i,j,rfl,rfl,rfl⟩:=hc dx dy c e;cases ax;cases ay;exact⟨i,j,rfl,rfl,q⟩⟩
theorem qm:SM X .lt .Lt:=j7 Qb fun dx dy c e=>by
 cases dx with
 | int i=>
  cases dy with
  | int j=>
   cases (show some (decide (i<j))=some c from e);exact⟨_,_,rfl,rfl,rfl⟩
  | _=>cases (show (none:Option Bool)=some c from e)
 | _=>cases (show (none:Option Bool)=some c from e)
theorem F5:SM X .le .LtE:=j7 Qc fun dx dy c e=>by
 cases dx with
 | int i=>
  cases dy with
  | int j=>
   cases (show some (decide (i≤j))=some c from e);exact⟨_,_,rfl,rfl,rfl⟩
  | _=>cases (show (none:Option Bool)=some c from e)
 | _=>cases (show (none:Option Bool)=some c from e)
theorem sV:SM X .gt .Gt:=j7 Qd fun dx dy c e=>by
 cases dx with
 | int i=>
  cases dy with
  | int j=>
   cases (show some (decide (j<i))=some c from e);exact⟨_,_,rfl,rfl,rfl⟩
  | _=>cases (show (none:Option Bool)=some c from e)
 | _=>cases (show (none:Option Bool)=some c from e)
theorem F6:SM X .ge .GtE:=j7 Qe fun dx dy c e=>by
 cases dx with
 | int i=>
  cases dy with
  | int j=>
   cases (show some (decide (j≤i))=some c from e);exact⟨_,_,rfl,rfl,rfl⟩
  | _=>cases (show (none:Option Bool)=some c from e)
 | _=>cases (show (none:Option Bool)=some c from e)
theorem Pw{x:V}(a:At K ρ H d x):decide (x=.ao)=d.rn:=by
 cases d with
 | ao=>cases a;rfl
 | bl _=>cases a;rfl
 | int _=>cases a;rfl
 | str _=>cases a;rfl
 | tup _=>obtain⟨_,_,rfl,_⟩:=a;rfl
 | lst _=>obtain⟨_,_,_,rfl,_⟩:=a;rfl
 | aq _ _=>obtain⟨_,_,_,rfl,_⟩:=a;rfl
 | b6 _=>obtain⟨_,rfl,_⟩:=a;rfl
 | ak _=>obtain⟨_,_,rfl⟩:=a;rfl
theorem Qu{x:V}{b:Bool}(a:At K ρ H d x):decide (x=.bl b)=d.tI b:=by
 cases d with
 | ao=>cases a;rfl
 | bl c=>cases a;cases b<;>cases c<;>rfl
 | int _=>cases a;rfl
 | str _=>cases a;rfl
 | tup _=>obtain⟨_,_,rfl,_⟩:=a;rfl
 | lst _=>obtain⟨_,_,_,rfl,_⟩:=a;rfl
 | aq _ _=>obtain⟨_,_,_,rfl,_⟩:=a;rfl
 | b6 _=>obtain⟨_,rfl,_⟩:=a;rfl
 | ak _=>obtain⟨_,_,rfl⟩:=a;rfl
theorem zU:d5 X (compareOp .IsNot) (fun x y H Q=>(y=.ao∧Q (.bl (!decide (x=.ao))) H)∨∃b,y=.bl b∧Q (.bl (!decide (x=.bl b))) H):=by
 intro pi s σ H x y v u Q I rx ry h;rcases h with h | h
 ·exact Mm _ _ _ _ _ _ _ _ _ I rx ry h
 ·exact Mn _ _ _ _ _ _ _ _ _ I rx ry h
theorem bJ:SM X .mI .IsNot:=by
 refine⟨_,zU,fun ρ m H dx dy x y c Q M ax ay e q=>?_⟩;cases dy with
 | ao=>
  cases ay;have aI:(!dx.rn)=c:=cE (show some _=some c from e);exact Or.inl ⟨rfl,by rw[Pw ax,aI];exact q⟩
 | bl b=>
  cases ay;have aI:(!dx.tI b)=c:=cE (show some _=some c from e);exact Or.inr ⟨b,rfl,by rw[Qu ax,aI];exact q⟩
 | _=>cases e
theorem T5{x:V}(f:d.flat=true)(a:At K ρ H d x):R3 x=true∧∀{d':D} {y:V},d'.flat=true→At K ρ H d' y→fI y x=inD d [d']:=by
 cases d<;>cases f
 ·cases a
  refine⟨rfl,fun {d' y} dn i5=>?_⟩;cases d'<;>cases dn<;>cases i5
  ·simp[fI,inD,Bool.beq_eq_decide_eq,eq_comm]
  ·simp[fI,inD]
 ·cases a
  refine⟨rfl,fun {d' y} dn i5=>?_⟩;cases d'<;>cases dn<;>cases i5
  ·simp[fI,inD]
  ·simp[fI,inD,Bool.beq_eq_decide_eq,eq_comm]
theorem KG(x y:D)(r:List D):inD x (y::r)=(inD x [y]||inD x r):=by simp[inD]
theorem VH{K:p4}{ρ:List Addr}{H:Hp}{d:D}{x:V}(f:d.flat=true)(a:At K ρ H d x):∀{ds:List D} {vs:List V},ds.all D.flat=true→a6 K ρ H ds vs→vs.all R3=true∧tF x vs=inD d ds
 | [],_,_,as=>by cases (show _=[] from as);exact⟨rfl,rfl⟩
 | e::r,_,fs,a7=>by
  obtain⟨v,vr,ev,a1,as⟩:=a7;subst ev;rw[List.all_cons,gh]at fs;obtain⟨h1,h2⟩:=VH f a fs.2 as;refine⟨by rw[List.all_cons,(T5 fs.1 a1).1,h1];rfl,?_⟩;rw[KG,←h2,←(T5 f a).2 fs.1 a1];rfl
theorem yL{dx dy:D}{x:V}{c:Bool}(neg:Bool){Q:VK}(hs:dy=.tup ds∨dy=.lst ds)(ax:At K ρ H dx x)(ay:At K ρ H dy y)(e:(if dx.flat&&ds.all D.flat then some (if neg then !inD dx ds else inD dx ds) else none)=some c)(q:Q (.bl c) H):Jz K neg x y H Q:=by
 split at e
 ·rename_i h
  rw[gh]at h;have aI:=cE e;rcases hs with rfl | rfl
  ·obtain⟨a,vs,rfl,ha,as⟩:=ay
   obtain⟨f2,i2⟩:=VH h.1 ax h.2 as;exact⟨a,vs,rfl,.inr ha.sq,(T5 h.1 ax).1,f2,by rw[i2,aI];exact q⟩
  ·obtain⟨a,o,vs,rfl,ha,as⟩:=ay
   obtain⟨f2,i2⟩:=VH h.1 ax h.2 as;exact⟨a,vs,rfl,.inl (.inl (.inr ⟨o,ha⟩)),(T5 h.1 ax).1,f2,by rw[i2,aI];exact q⟩
 ·cases e
theorem sU:SM X .isin .In:=⟨_,uV,fun ρ m H dx dy x y c Q M ax ay e q=>by
 cases dy with
 | tup ds=>exact yL false (.inl rfl) ax ay e q
 | lst ds=>exact yL false (.inr rfl) ax ay e q
 | _=>cases e⟩
variable{a:Expr}{o bP:qi}{YR:CmpOp}
theorem Fh{r:R2}(hr:Gy X.K o r){σ:L2.St}{Q:VK}(h:tD C X.K (.cmp o pa pb) σ H Q):vt r (tD C X.K pa) (tD C X.K pb) σ H Q:=by
 obtain⟨aj,m,ρ,d,ae,S,M,e,q⟩:=h;obtain⟨⟨x,m1⟩,e1,e⟩:=aS e;obtain⟨⟨y,m2⟩,e2,e⟩:=aS e;obtain⟨k,e3,e⟩:=b5 e;cases e;exact⟨aj,m,ρ,x,m1,S,M,e1,fun v H1 au g1 M1 A1=>⟨aj,m1,au,y,ae,S.mono M g1,M1,e2,fun w H2 cS g2 M2 A2=>hr cS ae H2 x y v w k Q M2 (A1.mono M1 g2) A2 e3 (q _ _ cS (g1.trans g2) M2 rfl)⟩⟩
theorem wo(k:SM X o op)(ha:PE X a (tD C X.K pa))(hb:PE X b (tD C X.K pb))(hm:behindInMarks op b=false:=by rfl):PE X (.Compare a [op] [b] pos) (tD C X.K (.cmp o pa pb)):=by
 obtain⟨r,h,hr⟩:=k;exact(Mi h ha hb hm).imp fun σ H Q q=>Fh hr q
theorem DP(k:SM X o op)(ha:PE X a (tD C X.K pa))(hb:PE X b (tD C X.K pb))(hm:behindInMarks op b=false:=by rfl):PT X (.Compare a [op] [b] pos) (fE C X.K (.val (.cmp o pa pb))):=by
 obtain⟨r,h,hr⟩:=k;refine(L4 h ha hb hm).imp fun σ H Q af=>?_
 obtain⟨aj,m,ρ,c,ae,S,M,e,q⟩:=af;refine Fh hr ?_;obtain⟨⟨x,m1⟩,e1,e⟩:=aS e;obtain⟨k,e2,e⟩:=b5 e;cases e;have hx:∃z,x=.bl z:=by
  obtain⟨_,_,e1⟩:=aS e1;obtain⟨_,_,e1⟩:=aS e1;obtain⟨z,_,e1⟩:=b5 e1;cases e1;exact⟨z,rfl⟩
 obtain⟨z,rfl⟩:=hx;cases e2;exact⟨aj,m,ρ,_,ae,S,M,e1,fun v H1 au g1 M1 A1=>⟨_,A1,q H1 au g1 M1⟩⟩
theorem NS{x:V}{c:Bool}(M:bf K ρ m H)(A:At K ρ H d x)(e:fY d m=some c):BC K x H c:=by
 cases d with
 | ao=>cases A;cases e;rfl
 | bl b=>cases A;cases e;rfl
 | int i=>cases A;cases e;rfl
 | str x=>cases e
 | aq _ _=>cases e
 | tup xs=>
  obtain⟨a,vs,rfl,h,as⟩:=A;cases e;refine .inr (.inl ⟨vs,h.sq,?_⟩);have:=as.len;cases xs<;>cases vs<;>simp_all
 | lst xs=>
  obtain⟨a,o,vs,rfl,h,as⟩:=A;cases e;refine .inl ⟨vs,.inl (.inr ⟨o,h⟩),?_⟩;have:=as.len;cases xs<;>cases vs<;>simp_all
 | b6 ns=>
  obtain⟨a,rfl,h⟩:=A;cases e;refine .inl ⟨_,h.sq,?_⟩;cases ns<;>rfl
 | ak i=>
  obtain⟨a,hi,rfl⟩:=A;have e:(match m[i]? with | some (.lst xs)=>some (!xs.isEmpty) | some (.aq ks _)=>some (!ks.isEmpty) | _=>none)=some c:=e;split at e
  ·rename_i xs hm
   cases e;obtain⟨vs,hv,as⟩:=M.at' i a _ hi hm;refine .inl ⟨vs,.of hv,?_⟩;have:=as.len;cases xs<;>cases vs<;>simp_all
  ·rename_i ks us hm
   cases e;obtain⟨kvs,hv,hk,as⟩:=M.at' i a _ hi hm;refine .inr (.inr ⟨kvs,hv,?_⟩);subst hk;cases kvs<;>rfl
  ·cases e
theorem Q5(ha:PE X a (tD C X.K pa))(he:∀whole,isTrue a X.env whole=(do let v ←whole;standAt a.pos;holding [v] (truthy v)):=by intro _;rfl):PT X a (fE C X.K (.val pa)):=
 (zB ha he).imp fun σ H Q af=>by
 obtain⟨aj,m,ρ,c,ae,S,M,e,q⟩:=af;obtain⟨⟨x,m1⟩,e1,e⟩:=aS e;obtain⟨k,e2,e⟩:=b5 e;cases e;exact⟨aj,m,ρ,x,ae,S,M,e1,fun v H1 au g1 M1 A1=>⟨_,NS M1 A1 e2,q H1 au g1 M1⟩⟩
variable{ta tb:Te}{rest:List Expr}
theorem o7(ha:PT X a (fE C X.K ta)):PT X (.UnaryOp .Not a pos) (fE C X.K (.not ta)):=(OA ha).imp fun σ H Q af=>by
 obtain⟨aj,m,ρ,c,ae,S,M,e,q⟩:=af;obtain⟨⟨k,m1⟩,e1,e⟩:=b5 e;cases e;exact⟨aj,m,ρ,k,ae,S,M,e1,q⟩
theorem YT(ha:PT X a (fE C X.K ta)):PW X (.BoolOp .And [a] pos) (fE C X.K ta):=LZ ha
theorem wa(ha:PT X a (fE C X.K ta)):PW X (.BoolOp .Or [a] pos) (fE C X.K ta):=Ow ha
theorem WK(ha:PT X a (fE C X.K ta))(hb:PW X (.BoolOp .And (b::rest) pos) (fE C X.K tb)):PW X (.BoolOp .And (a::b::rest) pos) (fE C X.K (.and ta tb)):=(Ox ha hb).imp fun σ H Q af=>by
 obtain⟨aj,m,ρ,c,ae,S,M,e,q⟩:=af;obtain⟨⟨k,m1⟩,e1,e⟩:=aS e;refine⟨aj,m,ρ,k,m1,S,M,e1,fun H1 au g1 M1=>?_⟩;cases k with
 | false=>
  try dsimp only at e
  rw[ai dE]at e ⊢;cases e;exact q H1 au g1 M1
 | true=>
  try dsimp only at e
  rw[ag rfl]at e ⊢;exact⟨aj,m1,au,c,ae,S.mono M g1,M1,e,fun H2 cS g2 M2=>q H2 cS (g1.trans g2) M2⟩
theorem jN(ha:PT X a (fE C X.K ta))(hb:PW X (.BoolOp .Or (b::rest) pos) (fE C X.K tb)):PW X (.BoolOp .Or (a::b::rest) pos) (fE C X.K (.or ta tb)):=(P8 ha hb).imp fun σ H Q af=>by
 obtain⟨aj,m,ρ,c,ae,S,M,e,q⟩:=af;obtain⟨⟨k,m1⟩,e1,e⟩:=aS e;refine⟨aj,m,ρ,k,m1,S,M,e1,fun H1 au g1 M1=>?_⟩;cases k with
 | true=>
  try dsimp only at e
  rw[ag rfl]at e ⊢;cases e;exact q H1 au g1 M1
 | false=>
  try dsimp only at e
  rw[ai dE]at e ⊢;exact⟨aj,m1,au,c,ae,S.mono M g1,M1,e,fun H2 cS g2 M2=>q H2 cS (g1.trans g2) M2⟩
theorem yO(hc:PT X c (fE C X.K ta))(ha:PE X a (tD C X.K pa))(hb:PE X b (tD C X.K pb)):PE X (.IfExp c a b pos) (tD C X.K (.rk ta pa pb)):=(zR hc ha hb).imp fun σ H Q af=>by
 obtain⟨aj,m,ρ,d,ae,S,M,e,q⟩:=af;obtain⟨⟨k,m1⟩,e1,e⟩:=aS e;refine⟨aj,m,ρ,k,m1,S,M,e1,fun H1 au g1 M1=>?_⟩;cases k with
 | true=>
  try dsimp only at e
  rw[ag rfl]at e ⊢;exact⟨aj,m1,au,d,ae,S.mono M g1,M1,e,q.go g1⟩
 | false=>
  try dsimp only at e
  rw[ai dE]at e ⊢;exact⟨aj,m1,au,d,ae,S.mono M g1,M1,e,q.go g1⟩
end
def dS(K:p4)(ρ:List Addr)(H:Hp)(ks:List Key)(ds:List D)(kvs:List (Key×V)):Prop:=kvs.map (·.1)=ks∧a6 K ρ H ds (kvs.map (·.2))
theorem dS.look:∀{kvs:List (Key×V)} {ks:List Key} {ds:List D} (k:Key),dS K ρ H ks ds kvs→(∀d,GC ks ds k=some d→∃v,K4 kvs k=some v∧At K ρ H d v)∧(GC ks ds k=none→K4 kvs k=none)
 | [],_,ds,k,a7=>by
  obtain⟨e,a⟩:=a7;subst e;cases ds with
  | nil=>exact⟨fun d h=>by simp[GC]at h,fun _=>rfl⟩
  | cons d r=>obtain⟨_,_,e,_⟩:=a;simp at e
 | p::r,_,ds,k,a7=>by
  obtain⟨e,a⟩:=a7;subst e;cases ds with
  | nil=>exact absurd (show List.map (·.2) (p::r)=[] from a) (by simp)
  | cons d ds=>
   obtain⟨v,vr,e,a1,a2⟩:=a;simp only[ck,List.cons.injEq]at e;obtain⟨rfl,rfl⟩:=e;have ih:=dS.look (kvs:=r) k ⟨rfl,a2⟩
   by_cases hk:p.1=k
   ·refine⟨fun d' h=>?_,fun h=>?_⟩
    ·simp only[ck,GC,ag hk,Option.some.injEq]at h
     subst h;exact⟨_,J7 hk,a1⟩
    ·simp[ck,GC,ag hk]at h
   ·refine⟨fun d' h=>?_,fun h=>?_⟩
    ·simp only[ck,GC,ai hk]at h
     rw[HX hk];exact ih.1 d' h
    ·simp only[ck,GC,ai hk]at h
     rw[HX hk];exact ih.2 h
theorem dS.rep{k:Key}{d:D}{v:V}(a:At K ρ H d v):∀{kvs:List (Key×V)} {ks:List Key} {ds:List D},dS K ρ H ks ds kvs→dS K ρ H ks (gQ ks ds k d) (kvs.map fun kv=>if kv.1=k then (kv.1,v) else kv)
 | [],_,ds,a7=>by
  obtain⟨e,b⟩:=a7;subst e;refine⟨rfl,?_⟩;simp[gQ,a6]
 | p::r,_,ds,a7=>by
  obtain⟨e,b⟩:=a7;subst e;cases ds with
  | nil=>exact absurd (show List.map (·.2) (p::r)=[] from b) (by simp)
  | cons x ds=>
   obtain⟨w,vr,e,a1,a2⟩:=b;simp only[ck,List.cons.injEq]at e;obtain⟨rfl,rfl⟩:=e;obtain⟨h1,h2⟩:=dS.rep a (kvs:=r) (ds:=ds) ⟨rfl,a2⟩;refine⟨?_,?_⟩
   ·simp only[ck]
    rw[h1];congr 1;split<;>rfl
   ·simp only[ck,gQ]
    refine⟨_,_,rfl,?_,h2⟩
    by_cases hk:p.1=k
    ·simp only[ag hk];exact a
    ·simp only[ai hk];exact a1
theorem dS.put{k:Key}{v:V}(a:At K ρ H d v)(h:dS K ρ H ks ds kvs):dS K ρ H (putD ks ds k d).1 (putD ks ds k d).2 (putK kvs k v):=by
 have e:(ks.any fun x=>decide (x=k))=kvs.any fun kv=>decide (kv.1=k):=by rw[←h.1,List.any_map];rfl
 unfold putD putK;rw[e];split
 ·exact h.rep a
 ·exact⟨by rw[ft,h.1];rfl,by rw[ft];exact h.2.snoc a⟩
theorem dS.AU:∀{more:List (Key×V)} {bu:List Key} {o6:List D} {kvs:List (Key×V)} {ks:List Key} {ds:List D},dS K ρ H ks ds kvs→dS K ρ H bu o6 more→dS K ρ H (FP ks ds bu o6).1 (FP ks ds bu o6).2 (JN kvs more)
 | [],_,o6,kvs,ks,ds,h,a7=>by
  obtain⟨e,a⟩:=a7;subst e;have:FP ks ds [] o6=(ks,ds):=by cases o6<;>simp[FP]
  rw[List.map_nil,this];exact h
 | p::r,_,o6,kvs,ks,ds,h,a7=>by
  obtain⟨e,a⟩:=a7;subst e;cases o6 with
  | nil=>exact absurd (show List.map (·.2) (p::r)=[] from a) (by simp)
  | cons x o6=>
   obtain⟨w,vr,e,a1,a2⟩:=a;simp only[ck,List.cons.injEq]at e;obtain⟨rfl,rfl⟩:=e;rw[ck];unfold FP;exact dS.AU (more:=r) (h.put a1) ⟨rfl,a2⟩
theorem dS.nil:dS K ρ H [] [] []:=⟨rfl,rfl⟩
theorem dS.di{aa:Hp}{ρ':List Addr}(hf:HJ H aa)(hr:iE ρ ρ'){ks:List Key}{ds:List D}{kvs:List (Key×V)}(h:dS K ρ H ks ds kvs):dS K ρ' aa ks ds kvs:=⟨h.1,h.2.di hf hr⟩
theorem cG{x:V}{k:Key}(a:At K ρ H d x)(e:MF d=some k):x=kV k:=by
 cases d<;>simp only[MF]at e<;>cases e<;>cases a<;>rfl
theorem S6(M:bf K ρ m H){x:V}(a:At K ρ H d x)(e:GX d m=some (ks,ds)):∃p kvs,x=.ref p∧Rd H p (.dK kvs)∧dS K ρ H ks ds kvs:=by
 cases d with
 | aq bu vs=>
  cases e;obtain⟨p,o,kvs,rfl,h,hk,as⟩:=a;exact⟨p,kvs,rfl,.inr ⟨o,h⟩,hk,as⟩
 | ak i=>
  obtain⟨p,hi,rfl⟩:=a;have e:(match m[i]? with | some (.aq ks vs)=>some (ks,vs) | _=>none)=some (ks,ds):=e;split at e
  ·rename_i hm
   cases e;obtain⟨kvs,h,hk,as⟩:=M.at' i p _ hi hm;exact⟨p,kvs,rfl,.inl h,hk,as.di (fun _ _ _ z=>z) (.take ρ i)⟩
  ·cases e
 | _=>cases e
theorem J6(M:bf K ρ m H){x:V}(a:At K ρ H d x)(e:FJ d m=some ds):∃p vs,x=.ref p∧c6 K H p vs∧a6 K ρ H ds vs:=by
 cases d with
 | lst xs=>
  cases e;obtain⟨p,o,vs,rfl,h,as⟩:=a;exact⟨p,vs,rfl,.inl (.inr ⟨o,h⟩),as⟩
 | b6 ns=>
  cases e;obtain⟨p,rfl,h⟩:=a;exact⟨p,_,rfl,h.sq,.ints ns⟩
 | ak i=>
  obtain⟨p,hi,rfl⟩:=a;have e:(match m[i]? with | some (.lst xs)=>some xs | _=>none)=some ds:=e;split at e
  ·rename_i hm
   cases e;obtain⟨vs,h,as⟩:=M.at' i p _ hi hm;exact⟨p,vs,rfl,.of h,as.di (fun _ _ _ z=>z) (.take ρ i)⟩
  ·cases e
 | _=>cases e
theorem yK(M:bf K ρ m H){x:V}(a:At K ρ H d x)(e:TX d m=some ds):∃p vs,x=.ref p∧(c6 K H p vs∨dv K H p vs)∧a6 K ρ H ds vs:=by
 cases d with
 | tup xs=>
  cases e;obtain⟨p,vs,rfl,h,as⟩:=a;exact⟨p,vs,rfl,.inr h.sq,as⟩
 | lst xs=>obtain⟨p,vs,e,h,as⟩:=J6 M a (show FJ (.lst xs) m=some ds from e);exact⟨p,vs,e,.inl h,as⟩
 | b6 xs=>obtain⟨p,vs,e,h,as⟩:=J6 M a (show FJ (.b6 xs) m=some ds from e);exact⟨p,vs,e,.inl h,as⟩
 | ak xs=>obtain⟨p,vs,e,h,as⟩:=J6 M a (show FJ (.ak xs) m=some ds from e);exact⟨p,vs,e,.inl h,as⟩
 | _=>cases e
theorem a6.cv{ds:List D}{vs:List V}{i:Int}{d:D}(h:a6 K ρ H ds vs)(e:cv ds i=some d):∃v,L2.cv vs i=some v∧At K ρ H d v:=by
 unfold L2.cv at e ⊢;obtain⟨j,e1,e2⟩:=aS e;obtain⟨v,e3,a⟩:=h.get e2;exact⟨v,by rw[h.len,e1];exact e3,a⟩
section
variable{a:Expr}{es:List Expr}{ps:iz}
noncomputable def PH(t:TA):TE:=fun σ H Q=>t σ H fun xs H1=>xs.length≤sizeLine∧∀p o,H1 p=none→o.cls=.type "tuple"→o.dict=none→Q (.ref p) (upd H1 p (.bt o (.tup xs)))
theorem Md{x1}{t:TA}(h:PA X es t):PE X (.Tuple es x1 pos) (PH t):=by
 intro pi s σ H Q I hq;refine wpAny_Tuple_spliced (a8 (h pos pi s σ H _ I hq) fun us s1 ⟨xs,H1,I1,r,z,q⟩=>⟨by rw[←r.length];exact z,?_⟩);have hf:H1 s1.heap.objs.size=none:=I1.az.fresh (aT _);refine⟨.ref s1.heap.objs.size,upd H1 s1.heap.objs.size (.bt { cls:=.type "tuple",data:=.seq us.toArray } (.tup xs)),I1.laid (t':=s1.toks) (fun b u e=>cz _ e) (aT _) ?_,rfl,q _ _ hf rfl rfl⟩;exact⟨c8 _ rfl,z,us,r,⟨_,c8 _ rfl,rfl,_,rfl⟩⟩
theorem DX{x1}(h:PA X es (t8 C X.K ps)):PE X (.Tuple es x1 pos) (tD C X.K (.tup ps)):=(Md h).imp fun σ H Q af=>by
 obtain⟨aj,m,ρ,d,ae,S,M,e,q⟩:=af;obtain⟨⟨xs,m1⟩,e1,e⟩:=aS e;dsimp only at e;split at e
 ·rename_i hl
  cases e;exact⟨aj,m,ρ,xs,ae,S,M,e1,fun vs H1 au g1 M1 A1=>⟨J8 (by rw[A1.len];lia),fun p o hp hc hd=>(q.go g1).tup M1 A1 hp hc hd⟩⟩
 ·cases e
theorem KN(h:PA X es (t8 C X.K ps)):PE X (.List es pos) (tD C X.K (.lst mu ps)):=(zP h).tw fun σ H Q af=>by
 obtain⟨aj,m,ρ,d,ae,S,M,e,q⟩:=af;obtain⟨⟨xs,m1⟩,e1,e⟩:=aS e;dsimp only at e;split at e
 ·rename_i hl
  have aI:=cE e;have dj:eB X.K ρ H (bE mu xs m1).1 (bE mu xs m1).2 Q:=by rw[aI];exact q
  exact⟨aj,m,ρ,xs,m1,S,M,e1,fun vs H1 au g1 M1 A1=>⟨J8 (by rw[A1.len];lia),fun p hp=>(dj.go g1).lst M1 A1 hp⟩⟩
 ·cases e
theorem LO:PE X (.Dict [] [] pos) (tD C X.K (.CB mu [] .nil)):=(kJ (X:=X)).tw fun σ H Q af=>by
 obtain⟨aj,m,ρ,d,ae,S,M,e,q⟩:=af;have aI:hV mu [] [] m=(d,ae):=cE (show some _=some _ from e);intro p hp;have dj:eB X.K ρ H (hV mu [] [] m).1 (hV mu [] [] m).2 Q:=by rw[aI];exact q
 exact dj.aq M (kvs:=[]) rfl rfl hp
theorem NY:wH X.K (fun x y m=>(j1 x y m).map fun d=>(d,m)) (JA X.K):=by
 intro ρ m ae H dx dy d x y Q M ax ay e q;obtain⟨d',e0,aI⟩:=b5 e;clear e;cases aI
 rename j1 dx dy m=some d=>e
 cases dy with
 | int i=>
  cases ay;cases dx with
  | tup xs=>
   obtain⟨p,vs,rfl,h,as⟩:=ax;obtain⟨v,e1,a1⟩:=as.cv (show cv xs i=some d from e);exact .inr (.inl ⟨p,vs,i,v,rfl,rfl,h.sq,e1,.of (q.here M a1)⟩)
  | lst xs=>
   obtain⟨p,vs,rfl,h,as⟩:=J6 M ax (show FJ (.lst xs) m=some xs from rfl);obtain⟨v,e1,a1⟩:=as.cv (show cv xs i=some d from e);exact .inl ⟨p,vs,i,v,rfl,rfl,h,e1,.of (q.here M a1)⟩
  | b6 ns=>
   obtain⟨p,vs,rfl,h,as⟩:=J6 M ax (show FJ (.b6 ns) m=some (ns.map .int) from rfl);obtain⟨n,e0,CD⟩:=b5 (show (cv ns i).map D.int=some d from e);subst CD;have e2:cv (ns.map D.int) i=some (.int n):=by
    unfold cv at e0 ⊢;obtain⟨j,e3,e4⟩:=aS e0;rw[a9,e3];show (ns.map D.int)[j]?=_;rw[eS,e4];rfl
   obtain⟨v,e1,a1⟩:=as.cv e2;exact .inl ⟨p,vs,i,v,rfl,rfl,h,e1,.of (q.here M a1)⟩
  | str z=>
   cases ax;have e:(if z.length≤1000 then (cv z.cps.toList i).map fun c=>D.str ⟨#[c]⟩ else none)=some d:=e;split at e
   ·rename_i hl
    obtain⟨c,e0,CD⟩:=b5 e;subst CD;exact .inr (.inr ⟨z,i,c,rfl,rfl,J8 (by lia),e0,.of (q.here M rfl)⟩)
   ·cases e
  | ak r=>
   have e:(match m[r]? with | some (.lst xs)=>cv xs i | _=>none)=some d:=e;split at e
   ·rename_i xs hm
    obtain⟨p,vs,rfl,h,as⟩:=J6 M ax (show FJ (.ak r) m=some xs by show (match m[r]? with | some (.lst xs)=>some xs | _=>none)=some xs;rw[hm]);obtain⟨v,e1,a1⟩:=as.cv e;exact .inl ⟨p,vs,i,v,rfl,rfl,h,e1,.of (q.here M a1)⟩
   ·cases e
  | _=>cases e
 | _=>cases dx<;>cases e
theorem CZ(ha:PE X a (tD C X.K pa))(hb:PE X b (tD C X.K pb))(hs:tX b:=by intro _ _;rfl):PE X (.Subscript a b pos) (tD C X.K (.ix pa pb)):=RP (P9 O3 ha hb hs) NY fun _ _=>rfl
theorem gJ(hu:X.A.units+1<cLine)(ha:PE X a (tD C X.K pa))(hb:PE X b (tD C X.K pb))(hs:BD b:=by intro _ _;rfl):PE X (.Subscript a b pos) (tD C X.K (.mM pa pb)):=
 RP (r:=fun x y H Q=>∃a v,x=.ref a∧jq H a y (some v)∧Q v H) (f:=fun x y m2=>(GX x m2).bind fun z=>(MF y).bind fun k=>(GC z.1 z.2 k).map fun d=>(d,m2)) (qZ hu ha hb hs) (by
  intro ρ m ae H dx dy d x y Q M ax ay e q;obtain⟨⟨ks,ds⟩,e1,e⟩:=aS e;obtain⟨k,e2,e⟩:=aS e;obtain⟨d',e3,e⟩:=b5 e;cases e;obtain⟨p,kvs,rfl,hr,ka⟩:=S6 M ax e1;obtain⟨v,e4,a4⟩:=(ka.look k).1 _ e3;exact⟨p,v,rfl,.inl ⟨kvs,k,hr,cG ay e2,e4.symm⟩,.of (q.here M a4)⟩) fun _ _=>rfl
def By(K:p4):V→Option Int→Option Int→Hp→VK→Prop:=fun x lo hi H Q=>∃a xs,x=.ref a∧lz K H a xs∧
 ((HT.bj xs.length 0 lo=0∧HT.bj xs.length xs.length hi=xs.length)→Q (.ref a) H)∧(¬(HT.bj xs.length 0 lo=0∧HT.bj xs.length xs.length hi=xs.length)→∀p o,H p=none→o.cls=.type "tuple"→o.dict=none→Q (.ref p) (upd H p (.bt o (.tup (mC xs lo hi)))))
end
section
variable{a:Expr}{es:List Expr}{ps:iz}{id:String}
def d7(X:Cx)(k:B1)(r:List V→Hp→VK→Prop):Prop:=Gv X.K (cy k) (fun x H Q=>r [x] H Q)
theorem dM{k:B1}(hc:gb X (.builtin id) r)(hs:d7 X k r)(hv:bootBuiltins x=some (.builtin id))(hg:Gl X x)(hm:X.mg x=none)(ha:PE X a (tD C X.K pa))(hn:x≠"__name__":=by decide)(iN:(x==("__debug__" : Str))=false:=by decide)(he:starEach [a] X.env=[(false,eval a X.env)]:=by rfl):PE X (.Call (.Name x p) [a] [] pos) (tD C X.K (.b1 k pa)):=
 wg (r:=fun x H Q=>r [x] H Q) (kO hc hg hm hv (J5 ha JM he) hn iN he rfl) hs fun _ _=>rfl
theorem jT{k:B1}(hc:gb X (.type id) r)(hs:d7 X k r)(hv:bootBuiltins x=some (.type id))(hg:Gl X x)(hm:X.mg x=none)(ha:PE X a (tD C X.K pa))(hn:x≠"__name__":=by decide)(iN:(x==("__debug__" : Str))=false:=by decide)(he:starEach [a] X.env=[(false,eval a X.env)]:=by rfl):PE X (.Call (.Name x p) [a] [] pos) (tD C X.K (.b1 k pa)):=
 wg (r:=fun x H Q=>r [x] H Q) (uU hc hg hm hv (J5 ha JM he) hn iN he rfl) hs fun _ _=>rfl
theorem cF(h:dS K ρ H ks ds kvs):ks.length=kvs.length:=by rw[←h.1,a9]
def Bz(K:p4):List V→Hp→VK→Prop:=fun xs H Q=>(∃x n,xs=[x]∧Gw K x H n∧Q (.int n) H)∨∃a kvs,xs=[V.ref a]∧Rd H a (.dK kvs)∧Q (.int kvs.length) H
theorem vZ:gb X (.builtin "len") (Bz X.K):=by
 refine Rr.or ?_;intro pi s σ H xs us Q I r h;obtain⟨a,kvs,rfl,ha,q⟩:=h;obtain⟨u,rfl,ru⟩:=vals1 r;cases ru;exact Qs I ha fun t s' h9=>⟨.int kvs.length,H,h9,⟨t,rfl⟩,q⟩
theorem Lx:d7 X .len (Bz X.K):=by
 intro ρ m ae H dx d x Q M ax e q;have gen:∀{dx:D},At X.K ρ H dx x→(match TX dx m,GX dx m with
  | some xs,_=>some (D.int xs.length,m)
  | none,some (ks,_)=>some (.int ks.length,m)
  | none,none=>none)=some (d,ae)→Bz X.K [x] H (Fz Q):=fun {dx} ax e=>by
  split at e
  ·rename_i xs hs
   cases e;obtain⟨p,vs,rfl,h,as⟩:=yK M ax hs;refine .inl ⟨_,vs.length,rfl,?_,.of (q.here M (by rw[as.len];rfl))⟩;rcases h with h | h
   ·exact .inl ⟨vs,h,rfl⟩
   ·exact .inr ⟨vs,h,rfl⟩
  ·rename_i ks ds _ hs
   cases e;obtain⟨p,kvs,rfl,h,ka⟩:=S6 M ax hs;exact .inr ⟨p,kvs,rfl,h,.of (q.here M (by rw[cF ka];rfl))⟩
  ·cases e
 cases dx with
 | str z=>
  cases ax;have e:(if z.length≤1000 then some (D.int z.length,m) else none)=some (d,ae):=e;split at e
  ·rename_i hl
   cases e;exact .inl ⟨_,z.length,rfl,⟨J8 (by lia),rfl⟩,.of (q.here M rfl)⟩
  ·cases e
 | _=>exact gen ax e
theorem oK(hg:Gl X "len")(hm:X.mg "len" = none)(ha:PE X a (tD C X.K pa))(he:starEach [a] X.env=[(false,eval a X.env)]:=by rfl):PE X (.Call (.Name "len" p) [a] [] pos) (tD C X.K (.b1 .len pa)):=dM vZ Lx PySem.boot_len hg hm ha (by decide) (by decide) he
theorem yD:d7 X (.list mu) (fun xs H Q=>∃p ys,xs=[.ref p]∧(c6 X.K H p ys∨dv X.K H p ys)∧∀l,H l=none→Q (.ref l) (upd H l (.lst ys))):=by
 intro ρ m ae H dx d x Q M ax e q;obtain⟨xs,e1,e⟩:=b5 (show (TX dx m).map (fun xs=>bE mu xs m)=some (d,ae) from e);obtain⟨p,vs,rfl,h,as⟩:=yK M ax e1;have dj:eB X.K ρ H (bE mu xs m).1 (bE mu xs m).2 Q:=by rw[e];exact q
 exact⟨p,vs,rfl,h,fun l hl=>dj.lst M as hl⟩
theorem gH(hg:Gl X "list")(hm:X.mg "list" = none)(ha:PE X a (tD C X.K pa))(he:starEach [a] X.env=[(false,eval a X.env)]:=by rfl):PE X (.Call (.Name "list" p) [a] [] pos) (tD C X.K (.b1 (.list mu) pa)):=jT jB yD PyProof.Rows.boot_list hg hm ha (by decide) (by decide) he
def oU(K:p4):List V→Hp→VK→Prop:=fun xs H Q=>(∃p ys,xs=[.ref p]∧c6 K H p ys∧∀l o,H l=none→o.cls=.type "tuple"→o.dict=none→Q (.ref l) (upd H l (.bt o (.tup ys))))∨∃a ys,xs=[.ref a]∧dv K H a ys∧Q (.ref a) H
theorem mJ:gb X (.type "tuple") (oU X.K):=Rt.or mK
theorem uJ:d7 X .tuple (oU X.K):=by
 intro ρ m ae H dx d x Q M ax e q;have gen:∀{dx:D},At X.K ρ H dx x→((FJ dx m).map fun xs=>(D.tup xs,m))=some (d,ae)→oU X.K [x] H (Fz Q):=fun {dx} ax e=>by
  obtain⟨xs,e1,e⟩:=b5 e;cases e;obtain⟨p,vs,rfl,h,as⟩:=J6 M ax e1;exact .inl ⟨p,vs,rfl,h,fun l o hl hc hd=>.of (q.tup M as hl hc hd)⟩
 cases dx with
 | tup xs=>
  cases e;obtain⟨p,vs,rfl,h,as⟩:=ax;exact .inr ⟨p,vs,rfl,h.sq,.of (q.here M ⟨p,vs,rfl,h,as⟩)⟩
 | _=>exact gen ax e
theorem JW(hg:Gl X "tuple")(hm:X.mg "tuple" = none)(ha:PE X a (tD C X.K pa))(he:starEach [a] X.env=[(false,eval a X.env)]:=by rfl):PE X (.Call (.Name "tuple" p) [a] [] pos) (tD C X.K (.b1 .tuple pa)):=jT mJ uJ PyProof.Rows.boot_tuple hg hm ha (by decide) (by decide) he
theorem Ly:d7 X .int (fun xs H Q=>(∃i,xs=[.int i]∧Q (.int i) H)∨∃k,xs=[.bl k]∧Q (.int (if k then 1 else 0)) H):=by
 intro ρ m ae H dx d x Q M ax e q;cases dx with
 | int i=>cases e;cases ax;exact .inl ⟨i,rfl,.of (q.here M rfl)⟩
 | bl k=>cases e;cases ax;exact .inr ⟨k,rfl,.of (q.here M (by cases k<;>rfl))⟩
 | _=>cases e
theorem LM(hg:Gl X "int")(hm:X.mg "int" = none)(ha:PE X a (tD C X.K pa))(he:starEach [a] X.env=[(false,eval a X.env)]:=by rfl):PE X (.Call (.Name "int" p) [a] [] pos) (tD C X.K (.b1 .int pa)):=jT w6 Ly PyProof.Rows.boot_int hg hm ha (by decide) (by decide) he
theorem cC{K:p4}{ρ:List Addr}{H:Hp}:∀{ds:List D} {vs:List V} {ns:List Int},intsOf ds=some ns→a6 K ρ H ds vs→vs=ns.map V.int∧ds.length=ns.length
 | [],_,_,e,a=>by cases e;cases (show _=[] from a);exact⟨rfl,rfl⟩
 | d::r,_,_,e,a7=>by
  obtain⟨v,vr,ev,a1,as⟩:=a7;subst ev;cases d with
  | int i=>
   obtain⟨Jv,e1,rfl⟩:=b5 (show (intsOf r).map (i::·)=some _ from e);cases a1;obtain⟨h1,h2⟩:=cC e1 as;exact⟨by rw[h1];rfl,by simp[h2]⟩
  | _=>cases e
theorem MB{x:Int}(h:lM ns=some x){y:Int}(hy:y∈ns)(hm:∀a∈ns,a≤y):y=x:=by
 have fold:∀(r:List Int) (a:Int),(r.foldl (fun x y=>if y > x then y else x) a∈a::r)∧∀z∈a::r,z≤r.foldl (fun x y=>if y > x then y else x) a:=by
  intro r
  induction r with
  | nil=>intro a;exact⟨by simp,fun z hz=>by simp at hz;subst hz;exact wy _⟩
  | cons b r ih=>
   intro a;rw[List.foldl_cons];obtain⟨h1,h2⟩:=ih (if b > a then b else a);refine⟨?_,fun z hz=>?_⟩
   ·rcases cg h1 with h1 | h1
    ·rw[h1];split<;>simp
    ·exact b8 _ (b8 _ h1)
   ·have h3:=h2 _ bX
    rcases cg hz with rfl | hz
    ·refine Int.le_trans ?_ h3;split<;>lia
    ·rcases cg hz with rfl | hz
     ·refine Int.le_trans ?_ h3;split<;>lia
     ·exact h2 z (b8 _ hz)
 cases ns with
 | nil=>cases h
 | cons a r=>
  have e:r.foldl (fun x y=>if y > x then y else x) a=x:=cE h;obtain⟨h1,h2⟩:=fold r a;rw[e]at h1 h2;have:=h2 y hy;have:=hm x h1;lia
theorem Lw:d7 X .max (fun xs H Q=>∃(a:Addr) (ns:List Int),xs=[.ref a]∧c6 X.K H a (ns.map V.int)∧0<ns.length∧∀M,M∈ns→(∀a,a∈ns→a≤M)→Q (.int M) H):=by
 intro ρ m ae H dx d x Q M ax e q;obtain⟨xs,e1,e⟩:=aS (show ((FJ dx m).bind fun xs=>(intsOf xs).bind fun ns=>(lM ns).map fun x=>(D.int x,m))=some (d,ae) from e);obtain⟨ns,e2,e⟩:=aS e;obtain⟨y,e3,e⟩:=b5 e;cases e;obtain⟨p,vs,rfl,h,as⟩:=J6 M ax e1;obtain⟨rfl,_⟩:=cC e2 as;refine⟨p,ns,rfl,h,?_,fun z hz hm=>.of (q.here M (by rw[MB e3 hz hm];rfl))⟩;cases ns with
 | nil=>cases e3
 | cons _ _=>exact Nat.succ_pos _
theorem Oi(hc:X.calm=true)(hg:Gl X "max")(hm:X.mg "max" = none)(ha:PE X a (tD C X.K pa))(he:starEach [a] X.env=[(false,eval a X.env)]:=by rfl):PE X (.Call (.Name "max" p) [a] [] pos) (tD C X.K (.b1 .max pa)):=dM (cY hc) Lw PyProof.Rows.boot_max hg hm ha (by decide) (by decide) he
theorem qM(hc:X.calm=true)(hg:Gl X "max")(hm:X.mg "max" = none)(ha:PE X a (tD C X.K pa))(hb:PE X b (tD C X.K pb))(he:starEach [a,b] X.env=[(false,eval a X.env),(false,eval b X.env)]:=by rfl)(qS:starEach [b] X.env=[(false,eval b X.env)]:=by rfl):
  PE X (.Call (.Name "max" p) [a,b] [] pos) (tD C X.K (.max2 pa pb)):=
 RP (r:=fun x y H Q=>∃i j,[x,y]=[.int i,.int j]∧Q (.int (if j > i then j else i)) H) (f:=fun x y m2=>match x,y with | .int i,.int j=>some (.int (if j > i then j else i),m2) | _,_=>none)
  (kO (vY hc) hg hm PyProof.Rows.boot_max (J5 ha (J5 hb JM qS) (by rw[he,qS])) (by decide) (by decide) (by rw[he,qS]) (by rw[qS];rfl)) (by
  intro ρ m ae H dx dy d x y Q M ax ay e q;cases dx<;>cases dy<;>simp only at e<;>try (cases e;done)
  cases e;cases ax;cases ay;exact⟨_,_,rfl,.of (q.here M rfl)⟩) fun _ _=>rfl
theorem QF{K:p4}{ρ:List Addr}{H:Hp}:∀{ds:List D} {vs:List V} {ks:List Key} {us:List D},pairsOf ds=some (ks,us)→a6 K ρ H ds vs→∃kvs,wI K H vs kvs∧dS K ρ H ks us kvs
 | [],_,_,_,e,a=>by
  cases e;cases (show _=[] from a);exact⟨[],.nil,dS.nil⟩
 | d::r,_,ks,us,e,a7=>by
  obtain⟨v,vr,ev,a1,as⟩:=a7;subst ev;unfold pairsOf at e;split at e
  ·rename_i hd;cases hd
  ·rename_i k u cn hd
   cases hd;split at e
   ·rename_i vg bu YY hk hr
    cases e;obtain⟨kvs,h1,h2⟩:=QF hr as;obtain⟨p,ws,rfl,ht,aw⟩:=a1;obtain⟨x,xr,rfl,ax,y,yr,rfl,ay,hn⟩:=aw;cases (show _=[] from hn);refine⟨(vg,y)::kvs,.cons ⟨p,rfl,?_⟩ h1,by rw[ck,h2.1],by rw[ck];exact⟨y,_,rfl,ay,h2.2⟩⟩;have:=cG ax hk;subst this;exact ht.sq
   ·cases e
  ·cases e
theorem yE:d7 X (.dict mu) (fun xs H Q=>∃a o vs kvs,xs=[.ref a]∧(H a=some (.bt o (.tup vs))∨(X.K.lookup a=some o∧∃(its:Array Value) (n:Nat),o.data=.seq its n∧its.size≤sizeLine∧Vals vs its.toList))∧o.cls=.type "tuple"∧o.dict=none∧wI X.K H vs kvs∧kvs.length≤1000∧∀p,H p=none→Q (.ref p) (upd H p (.dK (JN [] kvs)))):=by
 intro ρ m ae H dx d x Q M ax e q;cases dx with
 | tup xs=>
  obtain⟨⟨ks,us⟩,e1,e⟩:=aS (show ((pairsOf xs).bind fun z=>if z.1.length≤1000 then some (hV mu (FP [] [] z.1 z.2).1 (FP [] [] z.1 z.2).2 m) else none)=some (d,ae) from e);split at e
  ·rename_i hl
   have aI:=cE e;obtain⟨p,vs,rfl,⟨o,hc,hd,ht⟩,as⟩:=ax;obtain⟨kvs,h1,h2⟩:=QF e1 as;have dj:eB X.K ρ H (hV mu (FP [] [] ks us).1 (FP [] [] ks us).2 m).1 (hV mu (FP [] [] ks us).1 (FP [] [] ks us).2 m).2 Q:=by rw[aI];exact q
   have h3:=dS.AU (dS.nil (K:=X.K) (ρ:=ρ) (H:=H)) h2;exact⟨p,o,vs,kvs,rfl,ht,hc,hd,h1,by rw[←cF h2];exact hl,fun l hl=>dj.aq M h3.1 h3.2 hl⟩
  ·cases e
 | _=>cases e
theorem pN(hc:X.calm=true):gb X (.type "dict") (fun xs H Q=>∃a o vs kvs,xs=[.ref a]∧(H a=some (.bt o (.tup vs))∨(X.K.lookup a=some o∧∃(its:Array Value) (n:Nat),o.data=.seq its n∧its.size≤sizeLine∧Vals vs its.toList))∧o.cls=.type "tuple"∧o.dict=none∧wI X.K H vs kvs∧kvs.length≤1000∧∀p,H p=none→Q (.ref p) (upd H p (.dK (JN [] kvs)))):=by
 intro pi s σ H xs us Q I r h;obtain⟨a,o,vs,kvs,rfl,ha,cm,hd,hp,hz,q⟩:=h;obtain⟨u,rfl,ru⟩:=vals1 r;cases ru;have key:∃(its:List Value) (m:Nat),s.heap.get? a=some o∧Vals vs its∧o.data=.seq its.toArray m:=by
  rcases ha with ha | ⟨hk,its,n,fA,_,rv⟩
  ·obtain⟨e,z,its,rv,bP,aI,cw,m,fA⟩:=I.az a _ ha
   rw[e]at aI;cases aI;exact⟨its,m,e,rv,fA⟩
  ·exact⟨its.toList,n,I.tJ a o hk,rv,by simpa using fA⟩
 obtain⟨its,m,e,rv,fA⟩:=key;obtain⟨ps,DD,DZ⟩:=zK I hp rv;have hl:its.length=kvs.length:=by rw[←rv.length];exact Paired.length hp
 refine Ni (I.ok.hd hc) e cm hd fA DZ (by lia) I.big fun h' tk hD hk=>?_
 have I2:Inv X pi σ (upd H s.heap.objs.size (.dK (JN [] kvs))) { s with heap:=h',toks:=tk }:=I.laid (fun b ob e=>hk b ob e) (aT _) ?_
 ·exact⟨.ref _,_,I2,rfl,q _ (I.az.fresh (aT _))⟩
 ·refine j4 ?_ ?_ (GN kvs (P:=X.prog) (w:=X.w) DD .nil) hD
  ·have:=KZ kvs []
   simp only[List.length_nil]at this;rw[eI];lia
  ·have:=I.big
   simp only[beq_eq_false_iff_ne];exact i7 this
theorem V7(hc:X.calm=true)(hg:Gl X "dict")(hm:X.mg "dict" = none)(ha:PE X a (tD C X.K pa))(he:starEach [a] X.env=[(false,eval a X.env)]:=by rfl):PE X (.Call (.Name "dict" p) [a] [] pos) (tD C X.K (.b1 (.dict mu) pa)):=jT (pN hc) yE PyProof.Rows.boot_dict hg hm ha (by decide) (by decide) he
end
theorem J9(i:Nat)(hN:X.N.Nodup)(hi:X.N[i]?=some x)(hx:Loc X.env.scope x)(hf:X.fn x=true∨X.env.scope.names.lookup x=some .local:=by first | exact .inl rfl | exact .inr rfl | assumption):PG X (.Name x pos) (qg X.K (.nm i)):=by
 intro pi s σ H v u Q I r h;obtain⟨aj,ρ,d,kf,S,a,e,q⟩:=h;cases e;exact iG hN hi hx hf pi s σ H v u Q I r (q _ (S.set i a))
theorem _root_.L2.PG.imp{t t':TG}(h:PG X tg t)(hi:∀v σ H Q,t' v σ H Q→t v σ H Q):PG X tg t':=fun pi s σ H v u Q I r q=>h pi s σ H v u Q I r (hi v σ H Q q)
theorem qN(h:r9 H aa):Go ρ ρ H aa:=⟨fun b o e _=>h b o e,List.prefix_rfl,fun _ e=>.inl e⟩
theorem bf.same{K:p4}{ρ:List Addr}{m:Mem}{H aa:Hp}(M:bf K ρ m H)(h:r9 H aa):bf K ρ m aa:=M.keep (fun a o u e=>h a _ e) fun a ha=>by
 obtain⟨u,e,_⟩:=M.there ha;rw[e,h a u e]
def WalkAt(K:p4)(w:Walk)(J:It)(ρ:List Addr)(H:Hp):Prop:=∀(i:Nat) (ρ':List Addr) (ae:Mem) (aa:Hp),HJ H aa→iE ρ ρ'→bf K ρ' ae aa→w.ok ae=true→
 (∀d,w.xs[i]?=some d→J.go i aa∧∀x H2,J.yB i aa x H2→r9 aa H2∧At K ρ' H2 d x)∧(w.xs.length≤i→J.stop i aa)
noncomputable def mT(C:String→List D→Mem→Option (D×Mem))(K:p4)(p:Ie):TI:=fun σ H R=>∃aj m ρ w ae,eA K ρ H aj σ∧bf K ρ m H∧ei C p aj m=some (w,ae)∧∀J aa ρ',Go ρ ρ' H aa→bf K ρ' ae aa→WalkAt K w J ρ' aa→R J aa
section
variable{a:Expr}
theorem _root_.L2.PI.imp{Kn:TI}(h:PI X tg a wi)(hi:∀σ H R,Kn σ H R→wi σ H R):PI X tg a Kn:=fun pi s σ H R I q=>h pi s σ H R I (hi σ H R q)
noncomputable def QU(K:p4)(tl:TE):TI:=fun σ H R=>tl σ H fun x H1=>∃a,x=.ref a∧(((∃xs,c6 K H1 a xs)∧R (BQ K a) H1)∨((∃xs,dv K H1 a xs)∧R (zh K a) H1))
theorem OG{l:Expr}{tl:TE}(hl:PE X l tl):PI X tg l (QU X.K tl):=by
 intro pi s σ H R I h;refine a8 (hl pi s σ H _ I h) fun v s1 af=>?_
 obtain⟨x,H1,I1,r1,q1⟩:=af;obtain⟨a,e,q1⟩:=q1;subst e;cases r1;have fin:∀b∈[s1.heap.objs.size],RB X pi H1 b:=fun b hb=>by
  have e:b=s1.heap.objs.size:=by simpa using hb
  subst e;exact I1.pq (aT _) (I1.az.fresh (aT _))
 rcases q1 with ⟨⟨xs,hq⟩,q⟩ | ⟨⟨xs,hq⟩,q⟩
 ·obtain⟨its,rv,p,hz⟩:=I1.list hq
  refine wpAny_pyIter_list p.isList ?_;exact⟨s1.heap.objs.size,[s1.heap.objs.size],_,_,H1,rfl,I1.kept (t':=s1.toks) fun b o e=>cz _ e,uD a _,⟨_,c8 _ rfl,rfl,rfl⟩,fin,q⟩
 ·obtain⟨its,rv,p,hz⟩:=I1.tuple hq
  refine wpAny_pyIter_tuple (show s1.heap.IsTuple a its.toArray from p) ?_;exact⟨s1.heap.objs.size,[s1.heap.objs.size],_,_,H1,rfl,I1.kept (t':=s1.toks) fun b o e=>cz _ e,GW a _,⟨_,c8 _ rfl,rfl,rfl⟩,fin,q⟩
theorem nP{w:Walk}{a:Addr}(h:∀ρ' ae aa,HJ H aa→iE ρ ρ'→bf K ρ' ae aa→w.ok ae=true→∃vs,c6 K aa a vs∧a6 K ρ' aa w.xs vs):WalkAt K w (BQ K a) ρ H:=by
 intro i ρ' ae aa hf hr M ok;obtain⟨vs,hs,as⟩:=h ρ' ae aa hf hr M ok;refine⟨fun d e=>?_,fun hl=>⟨vs,hs,by rw[as.len];exact hl⟩⟩;obtain⟨v,e1,a1⟩:=as.get e;refine⟨⟨vs,v,hs,e1⟩,fun x H2 y=>?_⟩;obtain⟨rfl,y⟩:=y;have:=y vs hs;rw[e1]at this;cases this;exact⟨.refl _,a1⟩
theorem NM{w:Walk}{a:Addr}(h:∀ρ' ae aa,HJ H aa→iE ρ ρ'→bf K ρ' ae aa→w.ok ae=true→∃vs,dv K aa a vs∧a6 K ρ' aa w.xs vs):WalkAt K w (zh K a) ρ H:=by
 intro i ρ' ae aa hf hr M ok;obtain⟨vs,hs,as⟩:=h ρ' ae aa hf hr M ok;refine⟨fun d e=>?_,fun hl=>⟨vs,hs,by rw[as.len];exact hl⟩⟩;obtain⟨v,e1,a1⟩:=as.get e;refine⟨⟨vs,v,hs,e1⟩,fun x H2 y=>?_⟩;obtain⟨rfl,y⟩:=y;have:=y vs hs;rw[e1]at this;cases this;exact⟨.refl _,a1⟩
theorem JD(ha:PE X a (tD C X.K pa)):PI X tg a (mT C X.K (.seq pa)):=(OG ha).imp fun σ H R af=>by
 obtain⟨aj,m,ρ,w,ae,S,M,e,q⟩:=af;obtain⟨⟨x,m1⟩,e1,e⟩:=aS e;obtain⟨xs,e2,e⟩:=b5 e;cases e;refine⟨aj,m,ρ,x,ae,S,M,e1,fun v H1 au g1 M1 A1=>?_⟩;cases x with
 | tup ys=>
  cases e2;obtain⟨p,vs,rfl,h,as⟩:=A1;exact⟨p,rfl,.inr ⟨⟨vs,h.sq⟩,q _ H1 au g1 M1 (NM fun ρ' tN aa hf hr il _=>⟨vs,(h.mono hf).sq,as.di hf hr⟩)⟩⟩
 | lst ys=>
  cases e2;obtain⟨p,o,vs,rfl,h,as⟩:=A1;exact⟨p,rfl,.inl ⟨⟨vs,.inl (.inr ⟨o,h⟩)⟩,q _ H1 au g1 M1 (nP fun ρ' tN aa hf hr il _=>⟨vs,.inl (.inr ⟨o,hf _ _ _ h⟩),as.di hf hr⟩)⟩⟩
 | b6 ns=>
  cases e2;obtain⟨p,rfl,h⟩:=A1;exact⟨p,rfl,.inl ⟨⟨_,h.sq⟩,q _ H1 au g1 M1 (nP fun ρ' tN aa hf hr il _=>⟨_,(h.mono hf).sq,.ints ns⟩)⟩⟩
 | ak i=>
  obtain⟨p,vs,e,h,as⟩:=J6 M1 A1 (show FJ (.ak i) ae=some xs from e2);subst e;obtain⟨f6,hi,e⟩:=A1;cases e;refine⟨p,rfl,.inl ⟨⟨vs,h⟩,q _ H1 au g1 M1 (nP fun ρ' tN aa hf hr il ok=>?_)⟩⟩;have ok:(match tN[i]? with | some (.lst ys)=>D.jt xs ys | _=>false)=true:=ok;split at ok
  ·rename_i ys hm
   have:=D.w8 ok;subst this;obtain⟨us,hu,bs⟩:=il.at' i p _ (hr _ _ hi) hm;exact⟨us,.of hu,bs.di (fun _ _ _ z=>z) (.take ρ' i)⟩
  ·cases ok
 | _=>cases e2
theorem wb(hg:Gl X "range")(hm:X.mg "range" = none)(ha:PE X a (tD C X.K pa))(hs:starEach [a] X.env=[(false,eval a X.env)]:=by rfl):PI X tg (.Call (.Name "range" p) [a] [] pos) (mT C X.K (.iw pa)):=
 (uQ hg hm (J5 ha JM hs) hs).imp fun σ H R af=>by
 obtain⟨aj,m,ρ,w,ae,S,M,e,q⟩:=af;obtain⟨⟨x,m1⟩,e1,e⟩:=aS e;cases x with
 | int j=>
  have e:(if -(2 ^ 62)≤j∧j<2 ^ 62 then some ((⟨(List.range j.toNat).map fun(i:Nat)=>.int i,none⟩:Walk),m1) else none)=some (w,ae):=e;split at e
  ·rename_i hj
   cases e;refine⟨aj,m,ρ,_,ae,S,M,e1,fun v H1 au g1 M1 A1=>?_⟩;cases A1;refine⟨j,rfl,hj.1,hj.2,q _ H1 au g1 M1 fun i ρ' tN aa hf hr il ok=>⟨fun d e=>?_,fun hl=>?_⟩⟩
   ·have hi:i<j.toNat:=by
     have:=(List.getElem?_eq_some_iff.mp e).1;simpa using this
    have ed:d=.int i:=by
     have:((List.range j.toNat).map fun(i:Nat)=>D.int i)[i]?=some d:=e;rw[eS,List.getElem?_range hi]at this;exact(cE this).symm
    subst ed;refine⟨hi,fun x H2 y=>?_⟩;obtain⟨rfl,rfl⟩:=y;exact⟨.refl _,by rw[Int.zero_add];rfl⟩
   ·show j.toNat≤i
    simpa using hl
  ·cases e
 | _=>cases e
theorem X7:∀(xs:List D) (n i:Nat),(O6 xs n)[i]?=(xs[i]?).map fun d=>.tup [.int ((n+i:Nat):Int),d]
 | [],n,i=>by simp[O6]
 | x::r,n,0=>by simp[O6]
 | x::r,n,i+1=>by
  simp only[O6,List.getElem?_cons_succ];rw[X7 r (n+1) i,show n+1+i=n+(i+1) by lia]
theorem X6:∀(xs:List D) (n:Nat),(O6 xs n).length=xs.length
 | [],_=>rfl
 | _::r,n=>by simp[O6,X6 r (n+1)]
theorem LI{k:Nat}{pt:Pos}(hg:Gl X "enumerate")(hm:X.mg "enumerate" = none)(ha:PE X a (tD C X.K pa))(hs:starEach [a] X.env=[(false,eval a X.env)]:=by rfl):PI X (.Tuple elts k pt) (.Call (.Name "enumerate" p) [a] [] pos) (mT C X.K (.enum pa)):=
 (Ma hg hm (J5 ha JM hs) hs).imp fun σ H R af=>by
 obtain⟨aj,m,ρ,w,ae,S,M,e,q⟩:=af;obtain⟨⟨x,m1⟩,e1,e⟩:=aS e;cases x with
 | lst xs=>
  cases e;refine⟨aj,m,ρ,_,ae,S,M,e1,fun v H1 au g1 M1 A1=>?_⟩;obtain⟨p,o,vs,rfl,h,as⟩:=A1;refine⟨p,rfl,⟨vs,.inl (.inr ⟨o,h⟩)⟩,q _ H1 au g1 M1 fun i ρ' tN aa hf hr il ok=>?_⟩;have h':c6 X.K aa p vs:=.inl (.inr ⟨o,hf _ _ _ h⟩);have Cz:=as.di (ρ':=ρ') hf hr;refine⟨fun d e=>?_,fun hl=>⟨vs,h',by rw[as.len];rw[X6]at hl;exact hl⟩⟩;have e:(O6 xs 0)[i]?=some d:=e;rw[X7]at e;obtain⟨d',aI,rfl⟩:=b5 e;obtain⟨v,e3,a3⟩:=Cz.get aI;refine⟨⟨vs,v,h',e3⟩,fun x H2 y=>?_⟩;obtain⟨l,y,hl,rfl,⟨ob,hc,hd,rfl⟩,hy⟩:=y;have:=hy vs h';rw[e3]at this;cases this;have kz:r9 aa (upd aa l (.bt ob (.tup [.int i,v]))):=fun b u z=>by rw[CK (FZ z hl)];exact z
  have uA:HJ aa (upd aa l (.bt ob (.tup [.int i,v]))):=fW hl;exact⟨kz,l,_,rfl,⟨ob,hc,hd,.inl CT⟩,_,_,rfl,by rw[Nat.zero_add];rfl,_,_,rfl,a3.di uA (.refl _),rfl⟩
 | _=>cases e
end
section
variable{a i v:Expr}{pd pk pv:Ex}{rest:List Stmt}{s:Sm}{r:bp}
theorem BX:eC X [] (YH C W X.K .nil):=(qT (X:=X)).imp fun E σ H af=>by
 obtain⟨aj,m,ρ,o,ae,S,M,e,q⟩:=af;cases e;exact q H ρ (.refl _ _) M σ S
theorem Lg{hZ:DS}{o:Out}{m1 ae:Mem}{E:Ends}{r:bp}(e:aE C W r hZ m1=some (o,ae))(q:zd K ρ H o ae E):zd K ρ H (.nx hZ) m1 { E with nx:=fun σ' aa=>YH C W K r E σ' aa }:=fun H1 au g1 M1 σ1 S1=>⟨hZ,m1,au,o,ae,S1,M1,e,fun H2 cS g2 M2=>q H2 cS (g1.trans g2) M2⟩
theorem BL(h1:PS X st (lj C W X.K s))(h2:eC X rest (YH C W X.K r)):eC X (st::rest) (YH C W X.K (.cons s r)):=(VD h1 h2).imp fun E σ H af=>by
 obtain⟨aj,m,ρ,o,ae,S,M,e,q⟩:=af;obtain⟨⟨o1,m1⟩,e1,e⟩:=aS e;refine⟨aj,m,ρ,o1,m1,S,M,e1,?_⟩;cases o1 with
 | nx σ1=>exact Lg e q
 | rt d=>
  cases e;exact q
theorem RN(i:Nat)(hN:X.N.Nodup)(hi:X.N[i]?=some x)(hx:Loc X.env.scope x)(he:PE X a (tD C X.K pa))(hs:swapsWith a (some (.Name x pos')) pos.line X.env=pure false:=by rfl)(hf:X.fn x=true∨X.env.scope.names.lookup x=some .local:=by first | exact .inl rfl | exact .inr rfl | assumption):
  PS X (.Assign [.Name x pos'] a pos) (lj C W X.K (.set i pa)):=(zG hN hi hx he hs hf).imp fun E σ H af=>by
 obtain⟨aj,m,ρ,o,ae,S,M,e,q⟩:=af;obtain⟨⟨d,m1⟩,e1,e⟩:=b5 e;cases e;exact⟨aj,m,ρ,d,ae,S,M,e1,fun v H1 au g1 M1 A1=>q H1 au g1 M1 _ ((S.mono M g1).set i A1)⟩
theorem J2(he:PE X a (tD C X.K pa))(hs:swapsWith a none pos.line X.env=pure false:=by rfl):PS X (.Expr a pos) (lj C W X.K (.drop pa)):=(qU he hs).imp fun E σ H af=>by
 obtain⟨aj,m,ρ,o,ae,S,M,e,q⟩:=af;obtain⟨⟨d,m1⟩,e1,e⟩:=b5 e;cases e;exact⟨aj,m,ρ,d,ae,S,M,e1,fun v H1 au g1 M1 A1=>q H1 au g1 M1 _ (S.mono M g1)⟩
theorem CV(he:PE X a (tD C X.K pa)):PS X (.Return (some a) pos) (lj C W X.K (.ret pa)):=(zH he).imp fun E σ H af=>by
 obtain⟨aj,m,ρ,o,ae,S,M,e,q⟩:=af;obtain⟨⟨d,m1⟩,e1,e⟩:=b5 e;cases e;exact⟨aj,m,ρ,d,ae,S,M,e1,fun v H1 au g1 M1 A1=>q H1 au g1 M1 _ A1⟩
variable{t:Te}{ba bb:List Stmt}{ra rb:bp}
theorem GF(hc:PT X c (fE C X.K t))(ha:eC X ba (YH C W X.K ra))(hb:eC X bb (YH C W X.K rb)):PS X (.If c ba bb pos) (lj C W X.K (.ite t ra rb)):=(FG hc ha hb).imp fun E σ H af=>by
 obtain⟨aj,m,ρ,o,ae,S,M,e,q⟩:=af;obtain⟨⟨k,m1⟩,e1,e⟩:=aS e;refine⟨aj,m,ρ,k,m1,S,M,e1,fun H1 au g1 M1=>?_⟩;cases k with
 | true=>
  try dsimp only at e
  rw[ag rfl]at e ⊢;exact⟨aj,m1,au,o,ae,S.mono M g1,M1,e,fun H2 cS g2 M2=>q H2 cS (g1.trans g2) M2⟩
 | false=>
  try dsimp only at e
  rw[ai dE]at e ⊢;exact⟨aj,m1,au,o,ae,S.mono M g1,M1,e,fun H2 cS g2 M2=>q H2 cS (g1.trans g2) M2⟩
theorem V4(hp:PassesOwn (model X.prog X.w) X.A X.env X.xe)(hc:PT X c (fE C X.K t))(hb:eC X bb (YH C W X.K rb)):PS X (.While c bb [] pos) (lj C W X.K (.bh t rb)):=(zF hp hc hb).imp fun E σ H af=>by
 obtain⟨aj,m,ρ,o,ae,S,M,e,q⟩:=af;refine⟨fun k σ1 H1=>∃hZ m1 au,eA X.K au H1 hZ σ1∧bf X.K au m1 H1∧Go ρ au H H1∧M7 (et C t) (fun σ m=>aE C W rb σ m) k hZ m1=some (o,ae),⟨W,aj,m,ρ,S,M,.refl _ _,e⟩,?_⟩;rintro k σ1 H1 ⟨hZ,m1,au,S1,M1,g1,e⟩;cases k with
 | zero=>cases e
 | succ k=>
  unfold M7 at e;obtain⟨⟨z,m2⟩,e1,e⟩:=aS e;refine⟨hZ,m1,au,z,m2,S1,M1,e1,fun H2 cS g2 M2=>?_⟩;cases z with
  | false=>
   try dsimp only at e
   rw[ai dE]at e ⊢;cases e;exact q H2 cS (g1.trans g2) M2 σ1 (S1.mono M1 g2)
  | true=>
   try dsimp only at e
   rw[ag rfl]at e ⊢;obtain⟨⟨o2,m3⟩,e2,e⟩:=aS e;refine⟨fun σ' aa=>∃hZ m1 au,eA X.K au aa hZ σ'∧bf X.K au m1 aa∧Go ρ au H aa∧M7 (et C t) (fun σ m=>aE C W rb σ m) k hZ m1=some (o,ae),fun σ' aa h=>⟨k,sf k,h⟩,hZ,m2,cS,o2,m3,S1.mono M1 g2,M2,e2,?_⟩;cases o2 with
   | nx hX=>exact fun H3 iy g3 M3 σ' S3=>⟨hX,m3,iy,S3,M3,g1.trans (g2.trans g3),e⟩
   | rt d=>
    cases e;exact fun H3 iy g3 M3 v A=>q H3 iy (g1.trans (g2.trans g3)) M3 v A
variable{g:Tg}{ip:Ie}
theorem Q6(hp:PassesOwn (model X.prog X.w) X.A X.env X.xe)(hc:X.calm=true)(hi:PI X tg iter (mT C X.K ip))(hg:PG X tg (qg X.K g))(hb:eC X bb (YH C W X.K rb))(hs:∀x,foldedSetIterable iter X.env x=pure x:=by intro _;rfl):
  PS X (.For tg iter bb [] pos) (lj C W X.K (.fr g ip rb)):=(zJ hp hc hi hg hb hs).imp fun E σ H af=>by
 obtain⟨aj,m,ρ,o,ae,S,M,e,q⟩:=af;obtain⟨⟨w,m1⟩,e1,e⟩:=aS e;refine⟨aj,m,ρ,w,m1,S,M,e1,fun J H0 t9 g0 M0 wk=>?_⟩;refine⟨fun i k σ1 H1=>k=w.xs.length-i∧i≤w.xs.length∧∃hZ m1 au,eA X.K au H1 hZ σ1∧bf X.K au m1 H1∧Go t9 au H0 H1∧forL w g (fun σ m=>aE C W rb σ m) (w.xs.drop i) hZ m1=some (o,ae),⟨_,rfl,eM _,aj,m1,t9,S.mono M g0,M0,.refl _ _,e⟩,?_⟩;rintro i k σ1 H1 ⟨rfl,Al,hZ,m2,au,S1,M1,g1,e⟩
 by_cases bx:i<w.xs.length
 ·have hd:w.xs.drop i=w.xs[i]::w.xs.drop (i+1):=List.drop_eq_getElem_cons bx
  rw[hd]at e;unfold forL at e;split at e
  ·rename_i ok
   obtain⟨oq,e2,e⟩:=aS e;obtain⟨⟨o3,m3⟩,e3,e⟩:=aS e;obtain⟨k1,k2⟩:=(wk i au m2 H1 (g1.fz M0) (.pre g1.ex) M1 ok).1 _ (fo bx);refine .inr ⟨k1,fun σ' aa=>∃hZ m1 au,eA X.K au aa hZ σ'∧bf X.K au m1 aa∧Go t9 au H0 aa∧forL w g (fun σ m=>aE C W rb σ m) (w.xs.drop (i+1)) hZ m1=some (o,ae),fun σ' aa h=>⟨_,by omega,rfl,bx,h⟩,fun x H2 y=>?_⟩;obtain⟨kz,ax⟩:=k2 x H2 y;have g2:Go au au H1 H2:=qN kz;have M2:=M1.same kz;refine⟨hZ,au,_,oq,S1.mono M1 g2,ax,e2,fun hX S2=>⟨oq,m2,au,o3,m3,S2,M2,e3,?_⟩⟩;cases o3 with
   | nx kQ=>exact fun H3 iy g3 M3 σ' S3=>⟨kQ,m3,iy,S3,M3,g1.trans (g2.trans g3),e⟩
   | rt d=>
    cases e;exact fun H3 iy g3 M3 v A=>q H3 iy (g0.trans (g1.trans (g2.trans g3))) M3 v A
  ·cases e
 ·have kr:w.xs.drop i=[]:=List.drop_eq_nil_of_le (by omega)
  rw[kr]at e;unfold forL at e;split at e
  ·rename_i ok
   cases e;exact .inl ⟨(wk i au ae H1 (g1.fz M0) (.pre g1.ex) M1 ok).2 (by omega),q H1 au (g0.trans g1) M1 σ1 S1⟩
  ·cases e
end
section
variable{es:List Expr}{g:Tg}{gs:List Tg}{a:Expr}
theorem _root_.L2.lI.imp{t t':oP}(h:lI X es t)(hi:∀v σ H Q,t' v σ H Q→t v σ H Q):lI X es t':=fun pi s σ H v u Q I r q=>h pi s σ H v u Q I r (hi v σ H Q q)
theorem MK:lI X [] (yY X.K []):=(qY (X:=X)).imp fun vs σ H Q af=>by
 obtain⟨aj,ρ,ds,kf,S,as,e,q⟩:=af;cases ds with
 | nil=>
  cases e;cases (show _=[] from as);exact⟨rfl,q σ S⟩
 | cons _ _=>cases e
theorem G9(h1:PG X e (qg X.K g))(h2:lI X es (yY X.K gs))(hs:(assignEach (e::es) X.env).map (·.2)=assign e X.env::(assignEach es X.env).map (·.2):=by rfl):lI X (e::es) (yY X.K (g::gs)):=
 (aG h1 h2 hs).imp fun vs σ H Q af=>by
 obtain⟨aj,ρ,ds,kf,S,as,e,q⟩:=af;cases ds with
 | nil=>cases e
 | cons d ds=>
  obtain⟨v,vr,rfl,a1,as⟩:=as;unfold O7 at e;obtain⟨σ1,e1,e⟩:=aS e;exact⟨v,vr,rfl,aj,ρ,d,σ1,S,a1,e1,fun σ' Cq=>⟨σ1,ρ,ds,kf,Cq,as,e,q⟩⟩
theorem V6{k:Nat}(hc:X.calm=true)(h:lI X es (yY X.K gs))(hn:(assignEach es X.env).length=gs.length:=by rfl)(mE:(assignEach es X.env).findIdx? (·.1)=none:=by rfl):PG X (.Tuple es k pos) (qg X.K (.tp gs)):=
 (zN hc h hn mE).imp fun v σ H Q af=>by
 obtain⟨aj,ρ,d,kf,S,a,e,q⟩:=af;cases d with
 | tup xs=>
  obtain⟨p,vs,rfl,ht,as⟩:=a;have e:(if gs.length=xs.length then O7 gs xs aj else none)=some kf:=e;split at e
  ·rename_i hl
   exact⟨p,vs,rfl,ht.sq,by rw[as.len,hl],aj,ρ,xs,kf,S,as,e,q⟩
  ·cases e
 | _=>cases e
theorem NX(he:PE X a (tD C X.K pa))(hg:PG X tg (qg X.K g))(hs:swapsWithSole [tg] a pos.line X.env=pure false:=by rfl)(hw:swappedStores [tg] a X.env=pure none:=by rfl)(h1:(assignEach [tg] X.env).map (·.2)=[assign tg X.env]:=by rfl):
  PS X (.Assign [tg] a pos) (lj C W X.K (.asg g pa)):=(OC he hg hs hw h1).imp fun E σ H af=>by
 obtain⟨aj,m,ρ,o,ae,S,M,e,q⟩:=af;obtain⟨⟨d,m1⟩,e1,e⟩:=aS e;obtain⟨σ1,e2,e⟩:=b5 e;cases e;exact⟨aj,m,ρ,d,ae,S,M,e1,fun v H1 au g1 M1 A1=>⟨aj,au,d,σ1,S.mono M g1,A1,e2,fun σ' Cq=>q H1 au g1 M1 σ' Cq⟩⟩
end
section
variable{a:Expr}
theorem gA(hu:X.A.units+1<cLine)(ho:PE X a (tD C X.K pa))(hi:PE X b (tD C X.K pb))(hv:PE X c (tD C X.K pc))(hs:swapsWith c (some (.Subscript a b pos')) pos.line X.env=pure false:=by rfl):
  PS X (.Assign [.Subscript a b pos'] c pos) (lj C W X.K (.put pa pb pc)):=(qW hu ho hi hv hs).imp fun E σ H af=>by
 obtain⟨aj,m,ρ,o,ae,S,M,e,q⟩:=af;obtain⟨⟨z,m1⟩,e1,e⟩:=aS e;obtain⟨⟨x,m2⟩,e2,e⟩:=aS e;obtain⟨⟨y,m3⟩,e3,e⟩:=aS e;refine⟨aj,m,ρ,z,m1,S,M,e1,fun v H1 au g1 M1 A1=>⟨aj,m1,au,x,m2,S.mono M g1,M1,e2,fun u H2 cS g2 M2 A2=>⟨aj,m2,cS,y,m3,(S.mono M g1).mono M1 g2,M2,e3,fun w H3 iy g3 M3 A3=>?_⟩⟩⟩;have ot:=(A1.mono M1 g2).mono M2 g3;have KU:=A2.mono M2 g3;have S3:=((S.mono M g1).mono M1 g2).mono M2 g3;cases x with
 | ak i=>
  obtain⟨p,hi,rfl⟩:=KU;have e:(match m3[i]?,MF y with
   | some (.aq ks vs),some k=>if z.clean&&decide (ks.length<10000) then some (Out.nx aj,m3.set i (.aq (putD ks vs k z).1 (putD ks vs k z).2)) else none
   | _,_=>none)=some (o,ae):=e
  split at e
  ·rename_i ks vs k hm hk
   split at e
   ·rename_i hz
    rw[gh,decide_eq_true_eq]at hz;cases e;obtain⟨kvs,hp,ka⟩:=M3.at' i p _ hi hm;have hy:=cG A3 hk;subst hy;have eJ:HJ H3 (upd H3 p (.dK (putK kvs k v))):=fun i5 bP gz cp=>by
     rw[CK]
     ·exact cp
     ·rintro rfl;rw[hp]at cp;cases cp
    have kp:=dS.put (K:=X.K) (ρ:=iy.take i) (H:=upd H3 p (.dK (putK kvs k v))) (k:=k) (ot.clean (ρ':=iy.take i) eJ hz.1) (dS.di eJ (.refl _) ka);obtain⟨M4,g4⟩:=M3.write (o:=.dK (putK kvs k v)) (q:=.aq (putD ks vs k z).1 (putD ks vs k z).2) hi ⟨_,CT,kp⟩;have hlen:=cF (K:=X.K) (ρ:=iy.take i) (H:=H3) ka;exact⟨p,_,rfl,vx.k hp (g6 (by lia:kvs.length<100000) (J8 (aT _))),q _ iy (g1.trans (g2.trans (g3.trans g4))) M4 σ (S3.mono M3 g4)⟩
   ·cases e
  ·cases e
 | _=>cases e
theorem RQ(hu:X.A.units+1<cLine)(ho:PE X a (tD C X.K pa))(he:PE X b (tD C X.K pb))(hf:PE X c (tD C X.K pc))(mm:M2 X a "get" apos b c bS:=by exact⟨rfl,rfl,rfl,rfl⟩):PE X (.Call (.Attribute a "get" apos) [b,c] [] bS) (tD C X.K (.get pa pb pc)):=
 (zT hu ho he hf mm).imp fun σ H Q af=>by
 obtain⟨aj,m,ρ,d,ae,S,M,e,q⟩:=af;obtain⟨⟨x,m1⟩,e1,e⟩:=aS e;obtain⟨⟨ib,RA⟩,e0,e⟩:=aS e;obtain⟨⟨y,m2⟩,e2,e⟩:=aS e;obtain⟨⟨z,m3⟩,e3,e⟩:=aS e;obtain⟨⟨ks,ds⟩,e4,e⟩:=aS e;obtain⟨k,e5,e⟩:=b5 e;cases e;refine⟨aj,m,ρ,x,m1,S,M,e1,fun v H1 au g1 M1 A1=>?_⟩;obtain⟨p,Ek,rfl,D3,_⟩:=S6 M1 A1 e0;refine⟨p,rfl,.inl ⟨Ek,D3⟩,aj,m1,au,y,m2,S.mono M g1,M1,e2,fun u H2 cS g2 M2 A2=>⟨aj,m2,cS,z,ae,(S.mono M g1).mono M1 g2,M2,e3,fun w H3 iy g3 M3 A3=>?_⟩⟩;obtain⟨f6,kvs,e6,hr,ka⟩:=S6 M3 ((A1.mono M1 g2).mono M2 g3) e4;cases e6;have hy:=cG (A2.mono M2 g3) e5;refine⟨K4 kvs k,.inl ⟨kvs,k,hr,hy,rfl⟩,q _ H3 iy (g1.trans (g2.trans g3)) M3 ?_⟩;cases hl:GC ks ds k with
 | none=>
  rw[(ka.look k).2 hl];exact A3
 | some d'=>
  obtain⟨yw,CL,Ro⟩:=(ka.look k).1 d' hl;rw[CL];exact Ro
theorem yM(ho:PE X a (tD C X.K pa))(g9:attributeBase a "pop" X.env (eval a X.env)=eval a X.env:=by rfl)(ia:(apos.endLine==bS.line)=true:=by rfl):PE X (.Call (.Attribute a "pop" apos) [] [] bS) (tD C X.K (.pop pa)):=
 (OL PySem.F.plainAttrs_list PySem.F.slot_list_pop PySem.F.type_list_pop OT ho g9 ia).imp fun σ H Q af=>by
 obtain⟨aj,m,ρ,d,ae,S,M,e,q⟩:=af;obtain⟨⟨x,m1⟩,e1,e⟩:=aS e;refine⟨aj,m,ρ,x,m1,S,M,e1,fun v H1 au g1 M1 A1=>?_⟩;cases x with
 | ak i=>
  obtain⟨p,hi,rfl⟩:=A1;have e:(match m1[i]? with
   | some (.lst xs)=>(xs[xs.length-1]?).map fun d=>(d,m1.set i (.lst xs.dropLast))
   | _=>none)=some (d,ae):=e
  split at e
  ·rename_i xs hm
   obtain⟨d',e2,e⟩:=b5 e;cases e;obtain⟨vs,hp,as⟩:=M1.at' i p _ hi hm;obtain⟨y,e3,a3⟩:=as.get e2;have eJ:HJ H1 (upd H1 p (.lst vs.dropLast)):=fun i5 bP gz cp=>by
    rw[CK]
    ·exact cp
    ·rintro rfl;rw[hp]at cp;cases cp
   have hd:a6 X.K (au.take i) H1 xs.dropLast vs.dropLast:=by
    rw[List.dropLast_eq_take,List.dropLast_eq_take,as.len];exact as.take _
   obtain⟨M4,g4⟩:=M1.write (o:=.lst vs.dropLast) (q:=.lst xs.dropLast) hi ⟨_,CT,hd.di eJ (.refl _)⟩;exact⟨.inl ⟨rfl,vs,.of hp⟩,p,vs,y,rfl,rfl,hp,by rw[as.len];exact e3,q _ _ au (g1.trans g4) M4 ((a3.di (fun _ _ _ z=>z) (.take au i)).mono M1 g4)⟩
  ·cases e
 | _=>cases e
section
variable(g9:attributeBase a "append" X.env (eval a X.env)=eval a X.env)
end
theorem WQ(ho:PE X a (tD C X.K pa))(hb:PE X b (tD C X.K pb))(g9:attributeBase a "append" X.env (eval a X.env)=eval a X.env:=by rfl)(ml:((backTo bS (starEach [b] X.env)).all (fun x=>!x.1)&&(backToKw bS (keywordEach [] X.env)).all (fun x=>x.1.isSome)
   &&decide (([b]:List Expr).length+([]:List Keyword).length+(if ([]:List Keyword).isEmpty then 0 else 1)<30))=true:=by rfl)(ia:(apos.endLine==bS.line)=true:=by rfl)(hs:starEach [b] X.env=[(false,eval b X.env)]:=by rfl):PE X (.Call (.Attribute a "append" apos) [b] [] bS) (tD C X.K (.app pa pb)):=
 (dR PySem.F.plainAttrs_list PySem.F.slot_list_append PySem.F.type_list_append X3 ho (J5 hb JM hs) g9 ml ia hs rfl).imp fun σ H Q af=>by
 obtain⟨aj,m,ρ,d,ae,S,M,e,q⟩:=af;obtain⟨⟨x,m1⟩,e1,e⟩:=aS e;obtain⟨Kp,e0,e⟩:=aS e;obtain⟨⟨y,m2⟩,e2,e⟩:=aS e;refine⟨aj,m,ρ,x,m1,S,M,e1,fun v H1 au g1 M1 A1=>?_⟩;obtain⟨p,ig,rfl,h0,_⟩:=J6 M1 A1 e0;refine⟨.inl ⟨rfl,ig,h0⟩,aj,m1,au,y,m2,S.mono M g1,M1,e2,fun u H2 cS g2 M2 A2=>?_⟩;have ot:=A1.mono M1 g2;cases x with
 | ak i=>
  obtain⟨f6,hi,e6⟩:=ot;cases e6;have e:(match m2[i]? with
   | some (.lst xs)=>if y.clean&&decide (xs.length<100000) then some (D.ao,m2.set i (.lst (xs++[y]))) else none
   | _=>none)=some (d,ae):=e
  split at e
  ·rename_i xs hm
   split at e
   ·rename_i hz
    rw[gh,decide_eq_true_eq]at hz;cases e;obtain⟨vs,hp,as⟩:=M2.at' i p _ hi hm;have eJ:HJ H2 (upd H2 p (.lst (vs++[u]))):=fun i5 bP gz cp=>by
     rw[CK]
     ·exact cp
     ·rintro rfl;rw[hp]at cp;cases cp
    obtain⟨M4,g4⟩:=M2.write (o:=.lst (vs++[u])) (q:=.lst (xs++[y])) hi ⟨_,CT,(as.di eJ (.refl _)).snoc (A2.clean eJ hz.1)⟩;exact⟨p,vs,u,rfl,rfl,hp,g6 (by rw[as.len];exact hz.2) (J8 (aT _)),q _ _ cS (g1.trans (g2.trans g4)) M4 rfl⟩
   ·cases e
  ·cases e
 | _=>cases e
def FE(K:p4):V→List V→Hp→VK→Prop:=fun x vs H Q=>∃l b xs zs,x=.ref l∧vs=[.ref b]∧H l=some (.lst xs)∧(Rd H b (.lst zs)∨lz K H b zs)∧xs.length+zs.length≤100000∧Q .ao (upd H l (.lst (xs++zs)))
theorem U4(l:Addr)(items:Array Value)(n:Nat)(b:Addr)(yb:Array Value)(n2:Nat)(nK:Option Addr)(qe:Array (Option Value))(Uq:¬(!items.isEmpty&&Builtin.List.listTooLong (items.size+yb.size))=true)(dh:items.size≤sizeLine)(ee:items.size+yb.size≤sizeLine+1):
  Meets (Builtin.«list.extend» ⟨[.ref l,.ref b],[]⟩) (fun _ R s=>s.heap.get? l=some { cls:=.type "list",dict:=none,data:=.seq items n,slots:=#[] }∧s.heap.get? b=some { cls:=.type "tuple",dict:=nK,data:=.seq yb n2,slots:=qe }∧R (.ok (.ret Value.none)) { s with heap:=s.heap.update l (Obj.mapSeq fun x=>x++yb),toks:=s.toks }):=
 .of_wp fun prog w A R s h=>by
  obtain⟨hp,g,d,tk,os⟩:=s;obtain⟨hl,hb,h⟩:=h;have f1:=AutoSeq1.idx_int;have f2:=AutoSeq1.sub_tuple_tuple;have f3:=AutoSeq1.sub_list_list;have f4:=AutoSeq1.sub_tuple_list;have f5:=AutoSeq1.sub_list_tuple;have tu:(items++yb).size≤sizeLine+1:=by rw[Array.size_append];exact ee
  wp_walk using (wpAny_updateSeq hl rfl (hz:=dh) (_hz':=tu)),wpAny_loadPart' hl,wpAny_loadPart' hb;exact⟨_,rfl,h⟩
theorem Mz:zi X "list.extend" (FE X.K):=by
 intro pi s σ H x vs v us Q I rx rv h;obtain⟨l,b,xs,zs,rfl,rfl,hH,hB,hz,q⟩:=h;cases rx;obtain⟨u,rfl,ru⟩:=rv.one;cases ru;obtain⟨z,its,n,r,hl,e⟩:=I.AJ hH;have Yy:=J8 (aT 100000);have key:∀fT:List Value,Vals zs fT→its.toArray.size+fT.toArray.size≤sizeLine∧¬(!its.toArray.isEmpty&&Builtin.List.listTooLong (its.toArray.size+fT.toArray.size))=true:=fun fT r2=>by
  have sD:=r2.length;have hsz:its.toArray.size+fT.toArray.size≤sizeLine:=by rw[dr,dr];lia
  refine⟨hsz,?_⟩;rw[Js hsz,Bool.and_false];exact dE
 have fin:∀fT:List Value,Vals zs fT→EP X pi σ Q .none { s with heap:=s.heap.update l (Obj.mapSeq fun x=>x++fT.toArray),toks:=s.toks }:=fun fT r2=>by
  refine⟨.ao,_,I.AI (its':=its++fT) hH e (by simp) (r.append r2) ?_,rfl,q⟩;rw[fN];lia
 rcases hB with hB | hB
 ·obtain⟨z2,fT,n2,r2,e2⟩:=hB.ok I.az
  obtain⟨hsz,DH⟩:=key fT r2;exact call_meets F.slot_list_extend ⟨_,e,rfl⟩ F.entry_list_extend (F.args_list_extend_2 _ _)
   (AutoSeq1.list_extend_list_list_0 l its.toArray n b fT.toArray n2 DH (by rw[dr];lia) (by lia)) ⟨e,e2,fin fT r2⟩
 ·obtain⟨fT,r2,⟨⟨Hs,nK,data2,qe⟩,iO,ja,n2,hd2⟩,_⟩:=I.tuple hB.sq
  simp only at ja hd2;subst ja hd2;obtain⟨hsz,DH⟩:=key fT r2;exact call_meets F.slot_list_extend ⟨_,e,rfl⟩ F.entry_list_extend (F.args_list_extend_2 _ _)
   (U4 l its.toArray n b fT.toArray n2 nK qe DH (by rw[dr];lia) (by lia)) ⟨e,iO,fin fT r2⟩
theorem oM(ho:PE X a (tD C X.K pa))(hb:PE X b (tD C X.K pb))(g9:attributeBase a "extend" X.env (eval a X.env)=eval a X.env:=by rfl)(ml:((backTo bS (starEach [b] X.env)).all (fun x=>!x.1)&&(backToKw bS (keywordEach [] X.env)).all (fun x=>x.1.isSome)
   &&decide (([b]:List Expr).length+([]:List Keyword).length+(if ([]:List Keyword).isEmpty then 0 else 1)<30))=true:=by rfl)(ia:(apos.endLine==bS.line)=true:=by rfl)(hs:starEach [b] X.env=[(false,eval b X.env)]:=by rfl):PE X (.Call (.Attribute a "extend" apos) [b] [] bS) (tD C X.K (.ext pa pb)):=
 (dR PySem.F.plainAttrs_list PySem.F.slot_list_extend PySem.F.type_list_extend Mz ho (J5 hb JM hs) g9 ml ia hs rfl).imp fun σ H Q af=>by
 obtain⟨aj,m,ρ,d,ae,S,M,e,q⟩:=af;obtain⟨⟨x,m1⟩,e1,e⟩:=aS e;obtain⟨Kp,e0,e⟩:=aS e;obtain⟨⟨y,m2⟩,e2,e⟩:=aS e;refine⟨aj,m,ρ,x,m1,S,M,e1,fun v H1 au g1 M1 A1=>?_⟩;obtain⟨p,ig,rfl,h0,_⟩:=J6 M1 A1 e0;refine⟨.inl ⟨rfl,ig,h0⟩,aj,m1,au,y,m2,S.mono M g1,M1,e2,fun u H2 cS g2 M2 A2=>?_⟩;have ot:=A1.mono M1 g2;cases x with
 | ak i=>
  obtain⟨f6,hi,e6⟩:=ot;cases e6;have fin:∀{xs ys:List D} {b:Addr} {zs:List V},m2[i]?=some (.lst xs)→u=.ref b→(Rd H2 b (.lst zs)∨lz X.K H2 b zs)→a6 X.K cS H2 ys zs→(if D.clean.cj ys&&decide (xs.length+ys.length≤100000) then some (D.ao,m2.set i (.lst (xs++ys))) else none)=some (d,ae)→FE X.K (.ref p) [u] H2 Q:=fun {xs ys b zs} hm eu hb oQ e=>by
   subst eu;split at e
   ·rename_i hz
    rw[gh,decide_eq_true_eq]at hz;cases e;obtain⟨vs,hp,as⟩:=M2.at' i p _ hi hm;have eJ:HJ H2 (upd H2 p (.lst (vs++zs))):=fun i5 bP gz cp=>by
     rw[CK]
     ·exact cp
     ·rintro rfl;rw[hp]at cp;cases cp
    obtain⟨M4,g4⟩:=M2.write (o:=.lst (vs++zs)) (q:=.lst (xs++ys)) hi ⟨_,CT,(as.di eJ (.refl _)).app (oQ.clean eJ hz.1)⟩;have l1:=as.len;have l2:=oQ.len;exact⟨p,b,vs,zs,rfl,rfl,hp,hb,by lia,q _ _ cS (g1.trans (g2.trans g4)) M4 rfl⟩
   ·cases e
  dsimp only at e;split at e
  ·rename_i xs ys hm
   obtain⟨b,o,zs,rfl,hb,oQ⟩:=A2;exact fin hm rfl (.inl (.inr ⟨o,hb⟩)) oQ e
  ·rename_i xs ys hm
   obtain⟨b,zs,rfl,hb,oQ⟩:=A2;exact fin hm rfl (.inr hb) oQ e
  ·cases e
 | _=>cases e
theorem VL{K:p4}{ρ:List Addr}{H:Hp}{y:D}{v:V}(fy:y.flat=true)(ay:At K ρ H y v):∀{xs:List D} {vs:List V} {n k:Nat},xs.all D.flat=true→a6 K ρ H xs vs→findD y xs n=some k→∃j,k=n+j∧j<vs.length∧(∃u,vs[j]?=some u∧fI u v=true)∧∀i u,i<j→vs[i]?=some u→fI u v=false
 | [],_,_,_,_,_,e=>by cases e
 | x::r,_,n,k,fs,a7,e=>by
  obtain⟨w,vr,ev,a1,as⟩:=a7;subst ev;rw[List.all_cons,gh]at fs;have h1:=(T5 fy ay).2 fs.1 a1;unfold findD at e;split at e
  ·rename_i h
   cases e;exact⟨0,rfl,by simp,⟨w,rfl,by rw[h1];exact h⟩,fun i u hi=>absurd hi (o5 _)⟩
  ·rename_i h
   obtain⟨j,e1,h2,⟨u,h3,C4⟩,h4⟩:=VL fy ay fs.2 as e;refine⟨j+1,by lia,by simp;lia,⟨u,by simpa using h3,C4⟩,fun i gz hi aI=>?_⟩;cases i with
   | zero=>
    have:w=gz:=by simpa using aI
    subst this;rw[h1];simpa using h
   | succ i=>exact h4 i gz (by lia) (by simpa using aI)
theorem EV{x:V}:∀{xs:List V} {j:Nat} {u:V},xs[j]?=some u→fI u x=true→tF x xs=true
 | [],_,_,e,_=>by simp at e
 | y::r,0,u,e,h=>by
  have:y=u:=by simpa using e
  subst this;simp[tF,h]
 | y::r,j+1,u,e,h=>by
  have:=EV (xs:=r) (j:=j) (by simpa using e) h;unfold tF at this ⊢;rw[List.any_cons,this,Bool.or_true]
theorem yN(ho:PE X a (tD C X.K pa))(hb:PE X b (tD C X.K pb))(g9:attributeBase a "index" X.env (eval a X.env)=eval a X.env:=by rfl)(ml:((backTo bS (starEach [b] X.env)).all (fun x=>!x.1)&&(backToKw bS (keywordEach [] X.env)).all (fun x=>x.1.isSome)
   &&decide (([b]:List Expr).length+([]:List Keyword).length+(if ([]:List Keyword).isEmpty then 0 else 1)<30))=true:=by rfl)(ia:(apos.endLine==bS.line)=true:=by rfl)(hs:starEach [b] X.env=[(false,eval b X.env)]:=by rfl):PE X (.Call (.Attribute a "index" apos) [b] [] bS) (tD C X.K (.index pa pb)):=
 (dR PySem.F.plainAttrs_list PySem.F.slot_list_index PySem.F.type_list_index Kw ho (J5 hb JM hs) g9 ml ia hs rfl).imp fun σ H Q af=>by
 obtain⟨aj,m,ρ,d,ae,S,M,e,q⟩:=af;obtain⟨⟨x,m1⟩,e1,e⟩:=aS e;obtain⟨Kp,e0,e⟩:=aS e;obtain⟨⟨y,m2⟩,e2,e⟩:=aS e;obtain⟨xs,e3,e⟩:=aS e;split at e
 ·rename_i hz
  rw[gh,gh,decide_eq_true_eq]at hz;obtain⟨k,e4,e⟩:=b5 e;cases e;refine⟨aj,m,ρ,x,m1,S,M,e1,fun v H1 au g1 M1 A1=>?_⟩;obtain⟨p,ig,rfl,h0,_⟩:=J6 M1 A1 e0;refine⟨.inl ⟨rfl,ig,h0⟩,aj,m1,au,y,ae,S.mono M g1,M1,e2,fun u H2 cS g2 M2 A2=>?_⟩;obtain⟨f6,vs,e6,h,as⟩:=J6 M2 (A1.mono M1 g2) e3;cases e6;obtain⟨j,ek,h1,⟨w,h2,h3⟩,h4⟩:=VL hz.1.1 A2 hz.1.2 as e4;have uy:=(VH hz.1.1 A2 hz.1.2 as).1;refine⟨p,vs,u,rfl,rfl,h,(T5 hz.1.1 A2).1,uy,by rw[as.len];exact hz.2,EV h2 h3,fun i hi ⟨z,e7,e8⟩ Td=>?_⟩;have gu:i=j:=by
   rcases Nat.lt_trichotomy i j with bx | heq | To
   ·rw[h4 i z bx e7]at e8;cases e8
   ·exact heq
   ·rw[Td j w To h2]at h3;cases h3
  subst gu;refine q _ H2 cS (g1.trans g2) M2 ?_;rw[ek,Nat.zero_add];rfl
 ·cases e
theorem n8{K:p4}{ρ:List Addr}{H:Hp}:∀{ds:List D} {vs:List V} {ns:List Str},strsOf ds=some ns→a6 K ρ H ds vs→vs=ns.map V.str
 | [],_,_,e,a=>by cases e;cases (show _=[] from a);rfl
 | d::r,_,_,e,a7=>by
  obtain⟨v,vr,ev,a1,as⟩:=a7;subst ev;cases d with
  | str i=>
   obtain⟨Jv,e1,rfl⟩:=b5 (show (strsOf r).map (i::·)=some _ from e);cases a1;rw[n8 e1 as];rfl
  | _=>cases e
theorem LL(ho:PE X a (tD C X.K pa))(hb:PE X b (tD C X.K pb))(g9:attributeBase a "join" X.env (eval a X.env)=eval a X.env:=by rfl)(ml:((backTo bS (starEach [b] X.env)).all (fun x=>!x.1)&&(backToKw bS (keywordEach [] X.env)).all (fun x=>x.1.isSome)
   &&decide (([b]:List Expr).length+([]:List Keyword).length+(if ([]:List Keyword).isEmpty then 0 else 1)<30))=true:=by rfl)(ia:(apos.endLine==bS.line)=true:=by rfl)(hs:starEach [b] X.env=[(false,eval b X.env)]:=by rfl):PE X (.Call (.Attribute a "join" apos) [b] [] bS) (tD C X.K (.join pa pb)):=
 (dR PySem.F.plainAttrs_str PySem.F.slot_str_join PySem.F.type_str_join My ho (J5 hb JM hs) g9 ml ia hs rfl).imp fun σ H Q af=>by
 obtain⟨aj,m,ρ,d,ae,S,M,e,q⟩:=af;obtain⟨⟨x,m1⟩,e1,e⟩:=aS e;obtain⟨⟨y,m2⟩,e2,e⟩:=aS e;refine⟨aj,m,ρ,x,m1,S,M,e1,fun v H1 au g1 M1 A1=>?_⟩;cases x with
 | str sep=>
  cases A1;refine⟨rfl,aj,m1,au,y,m2,S.mono M g1,M1,e2,fun u H2 cS g2 M2 A2=>?_⟩;obtain⟨xs,e3,e⟩:=aS (show ((FJ y m2).bind fun xs=>(strsOf xs).bind fun ys=>if (ys.map (·.length)).sum+ys.length*sep.length≤100000 then some (D.str (Txt.join sep ys),m2) else none)=some (d,ae) from e);obtain⟨ys,e4,e⟩:=aS e;split at e
  ·rename_i hz
   cases e;obtain⟨p,vs,rfl,h,as⟩:=J6 M2 A2 e3;have:=n8 e4 as;subst this;exact⟨sep,p,ys,rfl,rfl,h,by lia,q _ H2 cS (g1.trans g2) M2 rfl⟩
  ·cases e
 | _=>cases e
end
section
variable{elt:Expr}{ip:Ie}{g:Tg}{t:Te}{pe:Ex}
theorem K5:oC X [] (fE C X.K .tt):=fun pi s σ H Q I af=>by
 obtain⟨aj,m,ρ,c,ae,S,M,e,q⟩:=af;cases e;exact L3 pi s σ H Q I (q H ρ (.refl _ _) M)
theorem SN(h:PT X c (fE C X.K t)):oC X [c] (fE C X.K t):=L1 h
theorem xW{aj:DS}{σ:L2.St}(S:eA K ρ H aj σ)(k:Nat):eA K ρ H (aj++List.replicate k none) (σ++List.replicate k none):=by
 refine⟨by simp[S.1],fun i d e=>?_⟩
 by_cases hi:i<aj.length
 ·rw[ko hi]at e
  obtain⟨v,e1,a⟩:=S.2 i d e;exact⟨v,by rw[ko (by rw[←S.1];exact hi)];exact e1,a⟩
 ·rw[so (by lia)]at e
  have:=jw e;rw[List.mem_replicate]at this;cases this.2
noncomputable def wR(C:String→List D→Mem→Option (D×Mem))(k:Nat)(g:Tg)(t:Te)(pe:Ex)(σ:DS):D→Mem→Option (Option D×Mem):=fun d m=>(JL g d (σ++List.replicate k none)).bind fun σ1=>(et C t σ1 m).bind fun(c,m2)=>if c then (ev C pe σ1 m2).map fun(y,m3)=>(some y,m3) else some (none,m2)
mutual
theorem mU{n:Nat}:∀{g:Tg} {d:D} {σ σ':DS},k9 n g=true→JL g d σ=some σ'→∀i,i<n→σ'[i]?=σ[i]?
 | .nm j,d,σ,σ',o,e=>by
  cases e;have:n≤j:=gq o;intro i hi;rw[List.getElem?_set_ne (by lia)]
 | .tp ts,d,σ,σ',o,e=>by
  cases d with
  | tup xs=>
   have e:(if ts.length=xs.length then O7 ts xs σ else none)=some σ':=e;split at e
   ·exact eZ o e
   ·cases e
  | _=>cases e
theorem eZ{n:Nat}:∀{gs:List Tg} {ds:List D} {σ σ':DS},k9.Ez n gs=true→O7 gs ds σ=some σ'→∀i,i<n→σ'[i]?=σ[i]?
 | [],ds,σ,σ',_,e=>by
  cases ds with
  | nil=>cases e;intro _ _;rfl
  | cons _ _=>cases e
 | t::ts,ds,σ,σ',o,e=>by
  cases ds with
  | nil=>cases e
  | cons d ds=>
   have bP:=Bool.and_eq_true_iff.mp o;obtain⟨σ1,e1,e⟩:=aS (show (JL t d σ).bind (fun σ'=>O7 ts ds σ')=some σ' from e);intro i hi;rw[eZ bP.2 e i hi,mU bP.1 e1 i hi]
end
mutual
theorem mV:∀{g:Tg} {d:D} {σ σ':DS},JL g d σ=some σ'→σ'.length=σ.length
 | .nm i,d,σ,σ',e=>by cases e;simp
 | .tp ts,d,σ,σ',e=>by
  cases d with
  | tup xs=>
   have e:(if ts.length=xs.length then O7 ts xs σ else none)=some σ':=e;split at e
   ·exact f9 e
   ·cases e
  | _=>cases e
theorem f9:∀{gs:List Tg} {ds:List D} {σ σ':DS},O7 gs ds σ=some σ'→σ'.length=σ.length
 | [],ds,σ,σ',e=>by
  cases ds with
  | nil=>cases e;rfl
  | cons _ _=>cases e
 | t::ts,ds,σ,σ',e=>by
  cases ds with
  | nil=>cases e
  | cons d ds=>
   obtain⟨σ1,e1,e⟩:=aS (show (JL t d σ).bind (fun σ'=>O7 ts ds σ')=some σ' from e);rw[f9 e,mV e1]
end
theorem GY{aj oq:DS}{k:Nat}{g:Tg}{σ:L2.St}(o:k9 aj.length g=true)(e:JL g d (aj++List.replicate k none)=some oq)(S:eA K ρ H oq σ):eA K ρ H (aj++List.replicate k none) σ:=by
 refine⟨by rw[←mV e];exact S.1,fun i d' h=>?_⟩
 by_cases hi:i<aj.length
 ·rw[←mU o e i hi]at h
  exact S.2 i d' h
 ·rw[so (by lia)]at h
  have:=jw h;rw[List.mem_replicate]at this;cases this.2
theorem bf.VT{p:Addr}{q:MO}(M:bf K ρ m H)(hn:p∉ρ)(h:nj K ρ H p q):bf K (ρ++[p]) (m++[q]) H:=by
 refine⟨by simp[M.len],List.nodup_append.mpr ⟨M.nd,by simp,fun a ha b hb=>?_⟩,fun j a u e1 e2=>?_⟩
 ·have:b=p:=by simpa using hb
  subst this;exact fun z=>hn (z▸ha)
 ·by_cases hj:j<ρ.length
  ·rw[ko hj]at e1
   rw[ko (by rw[←M.len];exact hj)]at e2;rw[List.take_append_of_le_length (nz hj)];exact M.at' j a u e1 e2
  ·have sC:j=ρ.length:=by
    have:=(List.getElem?_eq_some_iff.mp e1).1;simp at this;lia
   subst sC;have sk:p=a:=by simpa using e1
   rw[M.len]at e2;have nL:q=u:=by simpa using e2
   subst sk nL;rw[List.take_append_of_le_length (aT _),List.take_length];exact h
theorem mF{k:Nat}(D9:wi=mT C K ip)(Uy:te=tD C K pe):∀{σ:L2.St} {H:Hp} {Q:VK},tD C K (.comp mu k g ip t pe) σ H Q→jM wi k (qg K g) (fE C K t) te σ H (Fz Q):=by
 rintro σ H Q ⟨aj,m,ρ,d,ae,S,M,e,q⟩;subst D9 Uy;change (if k9 aj.length g=true then (ei C ip aj m).bind _ else none)=_ at e;split at e
 case isFalse=>cases e
 rename_i n5
 obtain⟨⟨w,m1⟩,e1,e⟩:=aS e;obtain⟨⟨ys,m2⟩,e2,e⟩:=aS e;dsimp only at e;have e2:S8 w (wR C k g t pe aj) w.xs m1=some (ys,m2):=e2;split at e
 case isFalse=>cases e
 rename_i UN
 have aI:=cE e;refine⟨aj,m,ρ,w,m1,S,M,e1,fun J H0 t9 g0 M0 wk D hD=>?_⟩;have dj:eB K t9 H0 (bE mu ys m2).1 (bE mu ys m2).2 Q:=by rw[aI];exact q.go g0
 refine⟨fun i n σ1 H1=>n=w.xs.length-i∧i≤w.xs.length∧∃zs us vs m3 au,eA K au H1 (aj++List.replicate k none) σ1∧bf K au m3 H1∧Go t9 au H0 H1∧H1 D=some (.lst vs)∧D∉au∧a6 K au H1 zs vs∧S8 w (wR C k g t pe aj) (w.xs.drop i) m3=some (us,m2)∧ys=zs++us,
  ⟨_,rfl,eM _,[],ys,[],m1,t9,(xW (S.mono M g0) k).mono M0 (Q8 hD),M0.new hD,Q8 hD,CT,M0.fresh hD,rfl,e2,rfl⟩,?_⟩
 rintro i n σ1 H1 ⟨rfl,Al,zs,us,vs,m3,au,S1,M1,g1,hv,DJ,as,e3,tq⟩
 by_cases bx:i<w.xs.length
 ·have hd:w.xs.drop i=w.xs[i]::w.xs.drop (i+1):=List.drop_eq_getElem_cons bx
  rw[hd]at e3;unfold S8 at e3;split at e3
  case isFalse=>cases e3
  rename_i ok
  obtain⟨⟨oy,m4⟩,e4,e3⟩:=aS e3;obtain⟨⟨EK,m5⟩,e5,e3⟩:=aS e3;cases e3;obtain⟨k1,k2⟩:=(wk i au m3 H1 (g1.fz M0) (.pre g1.ex) M1 ok).1 _ (fo bx);refine .inr ⟨k1,fun x H2 y=>?_⟩;obtain⟨kz,ax⟩:=k2 x H2 y;have g2:Go au au H1 H2:=qN kz;have M2:=M1.same kz;unfold wR at e4;obtain⟨oq,e6,e4⟩:=aS e4;obtain⟨⟨c,m6⟩,e7,e4⟩:=aS e4;refine⟨_,au,_,oq,S1.mono M1 g2,ax,e6,fun hX S2=>⟨oq,m3,au,c,m6,S2,M2,e7,fun H3 iy g3 M3=>?_⟩⟩;have aQ:∀{EO Bc:List Addr} {Ha Hb:Hp} {m:Mem},Go EO Bc Ha Hb→bf K Bc m Hb→Ha D=some (.lst vs)→D∉EO→Hb D=some (.lst vs)∧D∉Bc:=fun {EO Bc Ha Hb m} ga Mb ha hn=>⟨ga.fr D _ ha hn,fun z=>(ga.nw D z).elim hn fun y=>by rw[ha]at y;cases y⟩
  obtain⟨UH,DI⟩:=aQ g2 M2 hv DJ;obtain⟨IQ,Iz⟩:=aQ g3 M3 UH DI;cases c with
  | false=>
   dsimp only;rw[ai dE];cases e4;exact⟨_,by lia,rfl,bx,zs,_,vs,_,iy,GY n5 e6 (S2.mono M2 g3),M3,g1.trans (g2.trans g3),IQ,Iz,(as.mono M1 g2).mono M2 g3,e5,tq⟩
  | true=>
   dsimp only;rw[ag rfl];obtain⟨⟨y,m7⟩,e8,e4⟩:=b5 (show (ev C pe oq m6).map (fun z=>(some z.1,z.2))=some (oy,m4) from e4);cases e4;refine⟨oq,m6,iy,y,m7,S2.mono M2 g3,M3,e8,fun v H5 WV g5 M5 A5=>?_⟩;obtain⟨IS,IA⟩:=aQ g5 M5 IQ Iz;have Rk:=((as.mono M1 g2).mono M2 g3).mono M3 g5;have hlen:vs.length<1001:=by
    have h1:=as.len;rw[tq,fN]at UN;lia
   have eJ:HJ H5 (upd H5 D (.lst (vs++[v]))):=fun i5 bP gz cp=>by
    rw[CK]
    ·exact cp
    ·rintro rfl;rw[IS]at cp;cases cp
   have C3:=g1.trans (g2.trans (g3.trans g5));refine⟨vs,IS,g6 hlen (J8 (by lia)),_,by lia,rfl,bx,zs++[y],EK,vs++[v],m7,WV,(GY n5 e6 ((S2.mono M2 g3).mono M3 g5)).di eJ (.refl _),M5.keep eJ fun i5 Di=>CK fun z=>IA (z▸Di),⟨fun fm bP g7 nV=>?_,C3.ex,C3.nw⟩,CT,IA,(Rk.di eJ (.refl _)).snoc (A5.di eJ (.refl _)),e5,by rw[tq];simp⟩;rw[CK (FZ g7 hD)];exact C3.fr fm bP g7 nV
 ·have kr:w.xs.drop i=[]:=List.drop_eq_nil_of_le (by lia)
  rw[kr]at e3;unfold S8 at e3;split at e3
  case isFalse=>cases e3
  rename_i ok
  cases e3;rw[pw]at tq;subst tq;refine .inl ⟨(wk i au _ H1 (g1.fz M0) (.pre g1.ex) M1 ok).2 (by lia),?_⟩;cases mu with
  | true=>
   refine .inl (dj _ H1 (au++[D]) ⟨g1.fr,g1.ex.trans (List.prefix_append _ _),fun b hb=>?_⟩ (M1.VT DJ ⟨vs,hv,as⟩) ⟨D,?_,rfl⟩)
   ·rcases de hb with hb | hb
    ·exact g1.nw b hb
    ·have:b=D:=by simpa using hb
     subst this;exact .inr hD
   ·rw[←M1.len];simp
  | false=>
   have eJ:∀o,HJ H1 (upd H1 D (.bt o (.lst vs))):=fun o i5 bP gz cp=>by
    rw[CK]
    ·exact cp
    ·rintro rfl;rw[hv]at cp;cases cp
   refine .inr ⟨D,_,rfl,hv,trivial,fun o=>dj _ _ au ⟨fun fm bP g7 nV=>?_,g1.ex,g1.nw⟩ (M1.keep (eJ o) fun i5 Di=>CK fun z=>DJ (z▸Di)) ⟨D,o,vs,rfl,CT,as.di (eJ o) (.refl _)⟩⟩;rw[CK (FZ g7 hD)];exact g1.fr fm bP g7 nV
theorem JH(B:ij X scope M own)(hc:X.calm=true)(hi:PI X tg iter (mT C X.K ip))(hg:∀lu b7 dq ex,PG (gd X scope M own lu b7 dq ex) tg (qg X.K g))(ht:∀lu b7 dq ex,oC (gd X scope M own lu b7 dq ex) ifs (fE C X.K t))(he:∀lu b7 dq ex,PE (gd X scope M own lu b7 dq ex) elt (tD C X.K pe))(hs:∀x,foldedSetIterable iter X.env x=pure x:=by intro _;rfl):PE X (.ListComp elt [⟨tg,iter,ifs,0⟩] scope pos) (tD C X.K (.comp mu own.length g ip t pe)):=(Mh B hc hi hg ht he hs).tw fun σ H Q h=>mF rfl rfl h
theorem nY{k:Nat}{gg:TG}{tt:TT}{σ:L2.St}{Q nq:VK}(D9:∀σ H R eL,(∀J H1,R J H1→eL J H1)→wi σ H R→wi σ H eL)(hq:∀v H,Q v H→nq v H)(h:jM wi k gg tt te σ H Q):jM wi k gg tt te σ H nq:=by
 refine D9 σ H _ _ (fun J H1 h1 D hD=>?_) h;obtain⟨W,h0,ht⟩:=h1 D hD;refine⟨W,h0,fun i m σ' aa hw=>?_⟩;rcases ht i m σ' aa hw with ⟨a,b⟩ | z
 ·exact .inl ⟨a,hq _ _ b⟩
 ·exact .inr z
theorem xM{ip:Ie}:∀σ H R eL,(∀J H1,R J H1→eL J H1)→mT C K ip σ H R→mT C K ip σ H eL:=by
 intro σ H R eL h af;obtain⟨aj,m,ρ,w,ae,S,M,e,q⟩:=af;exact⟨aj,m,ρ,w,ae,S,M,e,fun J aa ρ' g il wk=>h _ _ (q J aa ρ' g il wk)⟩
def Q4(Q:L2.St→Hp→Prop):L2.St→Hp→Prop:=fun σ H=>Q σ H∨∃a u,H a=some u∧eX u∧∀o,Q σ (upd H a (.bt o u))
theorem _root_.L2.PS.R1{t:TS}(h:PS X st t):PS X st (fun E σ H=>t { E with nx:=Q4 E.nx } σ H):=fun pi s σ H E I q=>a8 (h pi s σ H _ I q) fun f s' z=>by
 cases f with
 | ret u=>exact z
 | brk=>exact z
 | cont=>exact z
 | next=>
  obtain⟨σ',aa,h9,q | ⟨a,w,ha,c,q⟩⟩:=z
  ·exact⟨σ',aa,h9,q⟩
  ·obtain⟨o,I2⟩:=freeze h9 ha c
   exact⟨σ',_,I2,q o⟩
theorem g8(i:Nat){y:Str}{py yu:Pos}(hN:X.N.Nodup)(Dy:X.N[i]?=some y)(hy:X.env.scope.names.lookup y=some .local)(B:ij X scope M own)(hc:X.calm=true)(hi:PI X tg iter (mT C X.K ip))(hg:∀lu b7 dq ex,PG (gd X scope M own lu b7 dq ex) tg (qg X.K g))(ht:∀lu b7 dq ex,oC (gd X scope M own lu b7 dq ex) ifs (fE C X.K t))(he:∀lu b7 dq ex,PE (gd X scope M own lu b7 dq ex) elt (tD C X.K pe))(D7:swapsWith (.ListComp elt [⟨tg,iter,ifs,0⟩] scope pos) (some (.Name y py)) yu.line X.env=pure true:=by rfl)(hs:∀x,foldedSetIterable iter X.env x=pure x:=by intro _;rfl):PS X (.Assign [.Name y py] (.ListComp elt [⟨tg,iter,ifs,0⟩] scope pos) yu) (lj C W X.K (.set i (.comp mu own.length g ip t pe))):=
 (L5 hN Dy hy B hc hi hg ht he D7 hs).R1.imp fun E σ H af=>by
 obtain⟨aj,m,ρ,o,ae,S,M,e,q⟩:=af;obtain⟨⟨d,m1⟩,e1,e⟩:=b5 e;cases e;have h:=mF (C:=C) (K:=X.K) (mu:=mu) (k:=own.length) (g:=g) (t:=t) (pe:=pe) (Q:=fun x H1=>E.nx (σ.set i (some x)) H1) rfl rfl ⟨aj,m,ρ,d,_,S,M,e1,fun v H1 au g1 M1 A1=>q H1 au g1 M1 _ ((S.mono M g1).set i A1)⟩;refine nY xM (fun v H1 z=>?_) h;rcases z with z | ⟨a,u,rfl,ha,cu,z⟩
 ·exact .inl z
 ·exact .inr ⟨a,u,ha,cu,z⟩
end
noncomputable def t6(K:p4)(call:List D→Mem→Option (D×Mem)):Sp:=fun vs H Q _=>∃ds m ρ d ae,a6 K ρ H ds vs∧bf K ρ m H∧call ds m=some (d,ae)∧∀v aa,Go ρ ρ H aa→bf K ρ ae aa→At K ρ aa d v→Q v aa
def Gz(X:Cx)(C:String→List D→Mem→Option (D×Mem))(f:String):Prop:=∃(k:Nat) (fa:Addr) (fd:FuncData) (ps:List Str),iA X.prog X.w X.K X.mg X.base jo k fa fd ps (t6 X.K (C f))∧gm k X.A∧X.mg (Str.ofString f)=some (.ref fa)∧PySem.W.keepIn X.K (.ref fa)=true∧Binds X.K fd ps []
section
variable{es:List Expr}{ps:iz}{f:String}
theorem LP(F:Gz X C f)(hg:Gl X (Str.ofString f))(ha:PA X (e::es) (t8 C X.K ps))(iN:(Str.ofString f==("__debug__" : Str))=false:=by decide)(he:starEach (e::es) X.env=(false,eval e X.env)::starEach es X.env:=by rfl)(n9:(backTo pos (starEach es X.env)).any (·.1)=false:=by rfl):
  PE X (.Call (.Name (Str.ofString f) p) (e::es) [] pos) (tD C X.K (.call f ps)):=by
 obtain⟨k,fa,fd,qs,F,hr,hm,hk,hb⟩:=F;refine(Mj F hr hg hm hk hb .nil Qa ha iN he n9).imp fun σ H Q af=>?_
 obtain⟨aj,m,ρ,d,ae,S,M,e,q⟩:=af;obtain⟨⟨xs,m1⟩,e1,e⟩:=aS e;refine⟨aj,m,ρ,xs,m1,S,M,e1,fun vs H1 au g1 M1 A1=>?_⟩;show t6 X.K (C f) (vs++[]) H1 Q E0;rw[pw];exact⟨xs,m1,au,d,ae,A1,M1,e,fun v aa g il A=>q v aa au (g1.trans g) il A⟩
end
theorem _root_.L2.eC.fz{st:List Stmt}{t:TS}(h:eC X st t):eC X st (fun E σ H=>t { E with rt:=Fz E.rt } σ H):=fun pi s σ H E I q=>a8 (h pi s σ H _ I q) fun f s' z=>by
 cases f with
 | next=>exact z
 | brk=>exact z
 | cont=>exact z
 | ret u=>
  obtain⟨v,σ',aa,h9,r,q | ⟨a,w,e,ha,c,q⟩⟩:=z
  ·exact⟨v,σ',aa,h9,r,q⟩
  ·obtain⟨o,I2⟩:=freeze h9 ha c
   exact⟨v,σ',_,I2,r,q o⟩
theorem xV(h:a6 K ρ H ds vs):eA K ρ H (ds.map some++List.replicate (N.length-ds.length) none) (L2.start N vs):=by
 unfold L2.start;rw[h.len];refine⟨by simp[h.len],fun i d e=>?_⟩
 by_cases hi:i<ds.length
 ·rw[ko (by simpa using hi),eS]at e
  obtain⟨d',e1,e2⟩:=b5 e;cases e2;obtain⟨v,e3,a⟩:=h.get e1;exact⟨v,by rw[ko (by simpa[h.len] using hi),eS,e3];rfl,a⟩
 ·rw[so (by simp;lia)]at e
  have:=jw e;rw[List.mem_replicate]at this;cases this.2
theorem GI(h:ρ <+: ρ'):ρ'.take ρ.length=ρ:=by
 obtain⟨t,rfl⟩:=h;simp
theorem lU{name:String}{ps:List Str}{F:Fn}(FN:r6 K (Str.ofString name) qual st f fd)(S:W4 N ps (GQ st))(IU:Γ name=some F)(mB:F.ps=ps.length)(rg:F.ns=N.length)(me:∀(dz:Value) (A:Around) (outer:List Env) (s:Shared) (H:Hp) (E:XK),gm n (A.deeper (envOfC qual (GQ st) s.heap.objs.size f dz))→eC (m9 jo P w K mg base N qual (GQ st) f dz A outer s H E).vn (JZ st) (YH (BW W Γ n) W K F.body)) :
  iA P w K mg base jo (n+1) f fd ps (t6 K (BW W Γ (n+1) name)):=by
 refine FN.ok S (fun vs H Q E h=>?_) (fun dz A outer s H vs Q E hr h=>?_)
 ·obtain⟨ds,m,ρ,d,ae,as,M,e,_⟩:=h
  unfold BW at e;rw[IU]at e;have e:(if ds.length=F.ps then _ else none)=some (d,ae):=e;split at e
  ·rename_i hl
   rw[as.len,hl,mB]
  ·cases e
 obtain⟨ds,m,ρ,d,ae,as,M,e,q⟩:=h;refine⟨_,(me dz A outer s H E hr).fz,?_⟩;unfold BW at e;rw[IU]at e;dsimp only[Option.bind_some]at e;split at e
 case isFalse=>cases e
 rename_i hl
 obtain⟨⟨o,m1⟩,e1,e⟩:=aS e;rw[rg,←hl]at e1;refine⟨_,m,ρ,o,m1,xV as,M,e1,fun aa ρ' g il=>?_⟩;cases o with
 | nx σ'=>
  have Ee:ρ'.take m.length=ρ:=by rw[←M.len];exact GI g.ex
  have g':Go ρ ρ H aa:=⟨g.fr,List.prefix_rfl,fun _ h=>.inl h⟩
  have Mc:bf K ρ (m1.take m.length) aa:=by have:=il.cut m.length;rw[Ee]at this;exact this
  have e:some (D.ao,m1.take m.length)=some (d,ae):=e;cases e;intro σ1 S1;exact q .ao aa g' Mc rfl
 | rt d0=>
  intro v A0;obtain⟨d1,e2,e⟩:=b5 (show (outD m.length m1 d0).map (fun d=>(d,m1.take m.length))=some (d,ae) from e);cases e;have Ee:ρ'.take m.length=ρ:=by rw[←M.len];exact GI g.ex
  have g':Go ρ ρ H aa:=⟨g.fr,List.prefix_rfl,fun _ h=>.inl h⟩
  have Mc:bf K ρ (m1.take m.length) aa:=by have:=il.cut m.length;rw[Ee]at this;exact this
  have plain:d0.clean=true→d0=d→Fz Q v aa:=fun hc hd=>by
   subst hd;exact .inl (q v aa g' Mc (A0.clean (fun _ _ _ z=>z) hc))
  have frozen:∀{i:Nat} {u:HO} {a:Addr},ρ'[i]?=some a→m.length≤i→v=.ref a→aa a=some u→eX u→(∀o,HJ aa (upd aa a (.bt o u))→At K ρ (upd aa a (.bt o u)) d v)→Fz Q v aa:=fun {i u a} hi hle hv ha hu xj=>by
   have hn:a∉ρ:=fun z=>by
    obtain⟨j,hj,ej⟩:=nE z;have e3:ρ'[j]?=some a:=iE.pre g.ex j a (by rw[fo hj,ej]);obtain⟨h1,x1⟩:=List.getElem?_eq_some_iff.mp hi;obtain⟨h2,x2⟩:=List.getElem?_eq_some_iff.mp e3;have:=(List.getElem_inj il.nd).mp (x1.trans x2.symm);rw[M.len]at hj;lia
   have uz:H a=none:=by
    rcases g.nw a (jw hi) with z | z
    ·exact absurd z hn
    ·exact z
   have eJ:∀o,HJ aa (upd aa a (.bt o u)):=fun o i5 bP gz cp=>by
    rw[CK]
    ·exact cp
    ·rintro rfl;rw[ha]at cp;cases cp;exact hu
   refine .inr ⟨a,u,hv,ha,hu,fun o=>q v _ ⟨fun b ob hb T1=>?_,List.prefix_rfl,fun _ h=>.inl h⟩ (Mc.keep (eJ o) fun b hb=>CK fun z=>hn (z▸hb)) (xj o (eJ o))⟩;rw[CK (FZ hb uz)];exact g.fr b ob hb T1
  cases d0 with
  | ak i=>
   obtain⟨a,hi,rfl⟩:=A0;have e2:(if i<m.length then none else match m1[i]? with
    | some (.lst xs)=>if D.clean.cj xs then some (D.lst xs) else none
    | some (.aq ks vs)=>if D.clean.cj vs then some (D.aq ks vs) else none
    | _=>none)=some d:=e2
   split at e2
   case isTrue=>cases e2
   rename_i Yd
   split at e2
   ·rename_i xs hm
    split at e2
    ·rename_i hc
     cases e2;obtain⟨us,ha,bs⟩:=il.at' i a _ hi hm;exact frozen hi (by lia) rfl ha trivial fun o hz=>⟨a,o,us,rfl,CT,bs.clean hz hc⟩
    ·cases e2
   ·rename_i ks xs hm
    split at e2
    ·rename_i hc
     cases e2;obtain⟨kvs,ha,hk,bs⟩:=il.at' i a _ hi hm;exact frozen hi (by lia) rfl ha trivial fun o hz=>⟨a,o,kvs,rfl,CT,hk,bs.clean hz hc⟩
    ·cases e2
   ·cases e2
  | _=>
   unfold outD at e2;dsimp only at e2;split at e2
   ·rename_i hc
    exact plain hc (cE e2)
   ·cases e2
end WL
namespace PySem
end PySem
namespace WL
open PySem PySem.Spec PyProof.Rows L2
theorem TJ{t sl:Addr}{vl vu:Value}{lo hi:Option Int}(ht:IsTup s.heap t items)(hs:s.heap.IsSliceOf sl vl vu .none)(pl:IsPart vl lo)(pu:IsPart vu hi)(hw:HT.bj items.size 0 lo=0∧HT.bj items.size items.size hi=items.size)(h:Q (.ref t) s)(hsz:items.size≤sizeLine):wpAny (model prog w) A (getItem (.ref t) (.ref sl)) Q E s:=by
 obtain⟨os,sM,uw,qE⟩:=id hs;have Dh:s.TypeIs (.ref sl) "slice":=⟨os,sM,uw⟩
 unfold getItem
 try with_reducible refine gX ?_
 first | refine ab (ah ?_) | skip
 refine ab (wpAny_sequenceKey ht.typeIs (by decide) ?_);refine ab (wpAny_callSpecial?_slot (name:=Str.ofString "__getitem__") ht.typeIs PyProof.Rows.slot_tuple_getitem
  (gn PyProof.Rows.slot_tuple_getitem ht.typeIs entry_tuple_getitem ?_ (args_tuple_getitem _ _)))
 show wpAny _ _ (Builtin.Tuple.tupleItemsOf (.ref t) >>= _) _ _ s;refine ab (tupleItemsOf_ ht ?_);refine ab (wpAny_typeOf Dh ?_);rw[ag (by decide)];refine ab (HT.Kb hs pl pu ?_);have UM:((((HT.bj items.size 0 lo:Nat):Int)==0&&(1:Int)==1&&(HT.bj items.size items.size hi-HT.bj items.size 0 lo)==items.size)=true):=by
  rw[hw.1,hw.2];simp
 show wpAny _ _ (if (((HT.bj items.size 0 lo:Nat):Int)==0&&(1:Int)==1&&(HT.bj items.size items.size hi-HT.bj items.size 0 lo)==items.size)=true then _ else _) _ _ s;rw[ag UM];refine ab (m:=Builtin.Tuple.tupleIsExact (.ref t)) ?_;unfold Builtin.Tuple.tupleIsExact;refine ab (wpAny_typeOf ht.typeIs (ah ?_));rw[ag (by decide)]
 first
  | exact ab (jn (ah ⟨_,rfl,ah h⟩))
  | exact jn (ah ⟨_,rfl,ah h⟩)
  | exact ab (ah (ah ⟨_,rfl,ah h⟩))
  | exact ah ⟨_,rfl,ah h⟩
section
variable{a:Expr}{lo hi:Option Expr}{ol oh:Oe}
theorem Wz:oI X (By X.K):=by
 intro pi s σ H x v vl vu lo hi sl Q I rx hs pl pu h;obtain⟨a,xs,rfl,hx,hw,hn⟩:=h;cases rx;obtain⟨its,r,ht,hz⟩:=I.tuple hx.sq;have hlen:its.toArray.size=xs.length:=by rw[dr];exact r.length.symm
 refine⟨"tuple",_,PyProof.Rows.slot_tuple_getitem.lookup,ht.typeIs,?_⟩
 by_cases c:HT.bj xs.length 0 lo=0∧HT.bj xs.length xs.length hi=xs.length
 ·exact TJ ht hs pl pu (by rw[hlen];exact c) ⟨.ref a,H,I,rfl,hw c⟩ (by rw[hlen];exact hz)
 ·refine HT.Se ht hs pl pu (by rw[hlen];exact c) ?_ (by rw[hlen];exact hz)
  rw[hlen];refine⟨.ref s.heap.objs.size,_,I.laid (t':=s.toks) (o:=.bt { cls:=.type "tuple",data:=.seq ((its.toArray.toList.drop (HT.bj xs.length 0 lo)).take (HT.bj xs.length xs.length hi-HT.bj xs.length 0 lo)).toArray } (.tup (mC xs lo hi))) (fun b ob q=>cz _ q) (aT _) ?_,rfl,hn c _ _ (I.az.fresh (aT _)) rfl rfl⟩;exact⟨c8 _ rfl,eR (GO xs lo hi) hz,_,(r.drop (HT.bj xs.length 0 lo)).take (HT.bj xs.length xs.length hi-HT.bj xs.length 0 lo),IsTup.new _ _⟩
theorem QA:oI X (fun x lo hi H Q=>By X.K x lo hi H Q∨Bx X.K x lo hi H Q∨Bw x lo hi H Q):=Wz.or (Wy.or N4)
theorem a6.cut(h:a6 K ρ H ds vs)(lo hi:Option Int):a6 K ρ H (cutD ds lo hi) (mC vs lo hi):=by
 unfold cutD mC;rw[h.len];exact(h.drop _).take _
theorem dJ:PO X none (A8 C X.K .no):=(L8 (X:=X)).imp fun σ H Q af=>by
 obtain⟨aj,m,ρ,c,ae,S,M,e,q⟩:=af;cases e;exact q H ρ (.refl _ _) M
theorem TV(ha:PE X a (tD C X.K pa)):PO X (some a) (A8 C X.K (.pt pa)):=(L7 ha).imp fun σ H Q af=>by
 obtain⟨aj,m,ρ,c,ae,S,M,e,q⟩:=af;obtain⟨⟨x,m1⟩,e1,e⟩:=aS e;cases x with
 | int i=>
  cases e;refine⟨aj,m,ρ,_,_,S,M,e1,fun v H1 au g1 M1 A1=>?_⟩;cases A1;exact⟨i,rfl,q H1 au g1 M1⟩
 | _=>cases e
theorem P1{d':D}{x:V}{l h:Option Int}{Q:VK}(M:bf X.K ρ m H)(A:At X.K ρ H d x)(e:qf d l h=some d')(q:eB X.K ρ H d' m Q):By X.K x l h H (Fz Q)∨Bx X.K x l h H (Fz Q)∨Bw x l h H (Fz Q):=by
 cases d with
 | tup xs=>
  cases e;obtain⟨p,vs,rfl,ht,as⟩:=A;refine .inl ⟨p,vs,rfl,ht,fun c=>.of ?_,fun c f6 o hp hc hd=>.of (q.tup M (as.cut l h) hp hc hd)⟩;have e1:cutD xs l h=xs:=by
   unfold cutD;rw[as.len]at c;rw[c.1,c.2];simp
  rw[e1]at q;exact q.here M ⟨p,vs,rfl,ht,as⟩
 | lst xs=>
  cases e;obtain⟨p,vs,rfl,hs,as⟩:=J6 M A (show FJ (.lst xs) m=some xs from rfl);exact .inr (.inl ⟨p,vs,rfl,hs,fun f6 hp=>eB.lst (mu:=false) q M (as.cut l h) hp⟩)
 | b6 ns=>
  cases e;obtain⟨p,vs,rfl,hs,as⟩:=J6 M A (show FJ (.b6 ns) m=some (ns.map .int) from rfl);exact .inr (.inl ⟨p,vs,rfl,hs,fun f6 hp=>eB.lst (mu:=false) q M (as.cut l h) hp⟩)
 | str z=>
  cases A;have e:(if z.length≤1000 then some (D.str (StrLaws.sliceText z l h)) else none)=some d':=e;split at e
  ·rename_i hl
   cases e;exact .inr (.inr ⟨z,rfl,J8 (by lia),.of (q.here M rfl)⟩)
  ·cases e
 | _=>cases e
theorem XS(ha:PE X a (tD C X.K pa))(hl:PO X lo (A8 C X.K ol))(hh:PO X hi (A8 C X.K oh)):PE X (.Subscript a (.Slice lo hi none p2) pos) (tD C X.K (.sl pa ol oh)):=(zO QA ha hl hh).tw fun σ H Q af=>by
 obtain⟨aj,m,ρ,d,ae,S,M,e,q⟩:=af;obtain⟨⟨x,m1⟩,e1,e⟩:=aS e;obtain⟨⟨l,m2⟩,e2,e⟩:=aS e;obtain⟨⟨h,m3⟩,e3,e⟩:=aS e;obtain⟨d',e4,e⟩:=b5 e;cases e;exact⟨aj,m,ρ,x,m1,S,M,e1,fun v H1 au g1 M1 A1=>⟨aj,m1,au,l,m2,S.mono M g1,M1,e2,fun H2 cS g2 M2=>⟨aj,m2,cS,h,_,(S.mono M g1).mono M1 g2,M2,e3,fun H3 iy g3 M3=>P1 M3 ((A1.mono M1 g2).mono M2 g3) e4 (q.go (g1.trans (g2.trans g3)))⟩⟩⟩
theorem gG{q2:Pos}(hc:X.calm=true)(jk:Gl X "list")(hJ:X.mg "list" = none)(mq:Gl X "reversed")(mr:X.mg "reversed" = none)(ha:PE X a (tD C X.K pa))(dh:starEach [Expr.Call (.Name "reversed" p2) [a] [] q2] X.env=[(false,eval (.Call (.Name "reversed" p2) [a] [] q2) X.env)]:=by rfl)(ee:starEach [a] X.env=[(false,eval a X.env)]:=by rfl) :
  PE X (.Call (.Name "list" p1) [.Call (.Name "reversed" p2) [a] [] q2] [] q1) (tD C X.K (.b1 (.og mu) pa)):=
 wg (r:=fun x H1 Q=>∃a xs,[x]=[V.ref a]∧dv X.K H1 a xs∧∀l,H1 l=none→Q (.ref l) (upd H1 l (.lst xs.reverse))) (f:=cy (.og mu)) (Me hc jk hJ mq mr ha dh ee) (by
  intro ρ m ae H dx d x Q M ax e q;cases dx with
  | tup xs=>
   obtain⟨p,vs,rfl,h,as⟩:=ax;have aI:bE mu xs.reverse m=(d,ae):=cE e;have dj:eB X.K ρ H (bE mu xs.reverse m).1 (bE mu xs.reverse m).2 Q:=by rw[aI];exact q
   exact⟨p,vs,rfl,h.sq,fun l hl=>dj.lst M as.rev hl⟩
  | _=>cases e) fun _ _=>rfl
theorem xU(a b:Str):FT a b=!ltCps b.cps.toList a.cps.toList:=by unfold FT;rw[ltCps_eq]
theorem Lo{a b:Str}(h:a.cps.toList=b.cps.toList):a=b:=by
 obtain⟨x⟩:=a;obtain⟨y⟩:=b;have:x=y:=by simpa using congrArg List.toArray h
 rw[this]
theorem QJ{a b:Str}(h1:FT a b=true)(h2:FT b a=true):a=b:=by
 unfold FT at h1 h2;simp only[Bool.not_eq_true',decide_eq_false_iff_not]at h1 h2;exact Lo (List.le_antisymm h1 h2)
theorem RK{a b c:Str}(h1:FT a b=true)(h2:FT b c=true):FT a c=true:=by
 unfold FT at *;simp only[Bool.not_eq_true',decide_eq_false_iff_not]at *;exact List.le_trans h1 h2
theorem XJ(a b:Str):(FT a b||FT b a)=true:=by
 unfold FT;rcases List.le_total a.cps.toList b.cps.toList with h | h
 ·rw[dm (show ¬b.cps.toList<a.cps.toList from h)];rfl
 ·rw[dm (show ¬a.cps.toList<b.cps.toList from h),Bool.or_comm];rfl
theorem o9:∀{l:List Str},sortedS l=true→l.Pairwise fun a b=>FT a b=true
 | [],_=>.nil
 | x::r,h=>by
  have go:∀(r:List Str) (p:Str),risingS p r=true→(p::r).Pairwise fun a b=>FT a b=true:=by
   intro r
   induction r with
   | nil=>intro p _;exact List.pairwise_singleton _ _
   | cons y r ih=>
    intro p h;have h':(!ltCps y.cps.toList p.cps.toList)=true∧risingS y r=true:=Bool.and_eq_true_iff.mp h;have i:=ih y h'.2;have hp:FT p y=true:=by rw[xU];exact h'.1
    refine List.pairwise_cons.mpr ⟨fun z hz=>?_,i⟩;rcases cg hz with rfl | hz
    ·exact hp
    ·exact RK hp (List.rel_of_pairwise_cons i hz)
  exact go r x h
theorem Lr{ss ie:List Str}(hp:ie.Perm ss)(hs:sortedS ie=true):ie=DQ ss:=by
 have h1:(DQ ss).Pairwise fun a b=>FT a b=true:=List.pairwise_mergeSort (le:=FT) (fun a b c h1 h2=>RK h1 h2) XJ ss
 exact List.Perm.eq_of_pairwise (fun x y _ _ h1 h2=>QJ h1 h2) (o9 hs) h1 (hp.trans (ir ss FT).symm)
theorem vA:∀{ss:List Str},strsOf (ks.map cy.kD)=some ss→ks=ss.map Sum.inr:=by
 induction ks with
 | nil=>intro ss e;cases e;rfl
 | cons k r ih=>
  intro ss e;cases k with
  | inl i=>cases e
  | inr x=>
   obtain⟨ie,e1,rfl⟩:=b5 (show (strsOf (r.map cy.kD)).map (x::·)=some ss from e);rw[ih e1];rfl
theorem G1(hc:X.calm=true)(hg:Gl X "sorted")(hm:X.mg "sorted" = none)(ha:PE X a (tD C X.K pa))(he:starEach [a] X.env=[(false,eval a X.env)]:=by rfl):PE X (.Call (.Name "sorted" p1) [a] [] q1) (tD C X.K (.b1 (.t5 mu) pa)):=
 dM (jA hc) (by
  intro ρ m ae H dx d x Q M ax e q;obtain⟨⟨ks,vs⟩,e1,e⟩:=aS (show ((GX dx m).bind fun z=>if z.1.length<64 then (strsOf (z.1.map cy.kD)).map fun ss=>bE mu ((DQ ss).map .str) m else none)=some (d,ae) from e);split at e
  case isFalse=>cases e
  rename_i bw
  obtain⟨ss,e2,e⟩:=b5 e;obtain⟨p,kvs,rfl,hr,ka⟩:=S6 M ax e1;have hk:=vA e2;refine⟨p,kvs,ss,rfl,hr,by rw[ka.1];exact hk,by rw[←cF ka];exact bw,fun l ie hl hp hs=>?_⟩;rw[Lr hp hs];have dj:eB X.K ρ H (bE mu ((DQ ss).map D.str) m).1 (bE mu ((DQ ss).map D.str) m).2 Q:=by rw[e];exact q
  refine dj.lst M ?_ hl;have:∀l:List Str,a6 X.K ρ H (l.map D.str) (l.map V.str):=fun l=>by
   induction l with
   | nil=>rfl
   | cons y r ih=>exact⟨_,_,rfl,rfl,ih⟩
  exact this _) PyProof.Rows.boot_sorted hg hm ha (by decide) (by decide) he
theorem Cw{ps:List (Str×Int)}(hn:(ps.map (·.1)).Nodup):∀{js:List Nat},(∀j∈js,j<ps.length)→PySem.W.kN (KQ ps) js=true→js.Pairwise fun i j=>KQ ps i j=true
 | [],_,_=>.nil
 | [_],_,_=>List.pairwise_singleton _ _
 | a::b::r,hj,h=>by
  have h':KQ ps a b=true∧PySem.W.kN (KQ ps) (b::r)=true:=Bool.and_eq_true_iff.mp h;have ih:=Cw hn (js:=b::r) (fun j sC=>hj j (b8 _ sC)) h'.2;refine List.pairwise_cons.mpr ⟨fun z hz=>?_,ih⟩;rcases cg hz with rfl | hz
  ·exact h'.1
  ·exact(cH hn).2.2 a b z (hj a (by simp)) (hj b (by simp)) (hj z (by simp[hz])) h'.1 (List.rel_of_pairwise_cons ih hz)
theorem dX{K:p4}{ρ:List Addr}{H:Hp}:∀{ds:List D} {vs:List V} {ps:List (Str×Int)},QL ds=some ps→a6 K ρ H ds vs→Cs K H vs ps∧ds=ps.map QC
 | [],_,_,e,a=>by
  cases e;cases (show _=[] from a);exact⟨.nil,rfl⟩
 | d::r,_,ps,e,a7=>by
  obtain⟨v,vr,ev,a1,as⟩:=a7;subst ev;unfold QL at e;split at e
  ·rename_i hd;cases hd
  ·rename_i a b cn hd
   cases hd;obtain⟨qd,e1,rfl⟩:=b5 e;obtain⟨h1,h2⟩:=dX e1 as;obtain⟨p,ws,rfl,ht,aw⟩:=a1;obtain⟨x,xr,rfl,ax,y,yr,rfl,ay,hn⟩:=aw;cases (show _=[] from hn);cases ax;cases ay;exact⟨.cons ⟨p,rfl,ht.sq⟩ h1,by rw[h2];rfl⟩
  ·cases e
theorem dI{L:List (Str×Int)}(hn:(ps.map (·.1)).Nodup)(hp:L.Perm ps)(hs:L.Pairwise fun p q=>FT p.1 q.1=true):L=J0 ps:=by
 have h1:(J0 ps).Pairwise fun p q=>FT p.1 q.1=true:=List.pairwise_mergeSort (le:=fun p q:Str×Int=>FT p.1 q.1) (fun a b c h1 h2=>RK h1 h2) (fun a b=>XJ _ _) ps
 refine List.Perm.eq_of_pairwise (fun x y hx hy h1 h2=>?_) hs h1 (hp.trans (ir ps _).symm);have kK:=hp.mem_iff.mp hx;have Ec:y∈ps:=(ir ps _).mem_iff.mp hy;have hk:=QJ h1 h2;obtain⟨i,hi,ei⟩:=nE kK;obtain⟨j,hj,ej⟩:=nE Ec;have:i=j:=(List.getElem_inj hn (h₀:=by simpa using hi) (h₁:=by simpa using hj)).mp (by simp[ei,ej,hk]);subst this;rw[←ei,←ej]
theorem nA{K:p4}{ρ:List Addr}{H:Hp}{ds:List D}{vs:List V}(as:a6 K ρ H ds vs):∀js:List Nat,(∀j∈js,j<ds.length)→a6 K ρ H (js.map fun j=>ds.getD j .ao) (js.map fun j=>vs.getD j .ao)
 | [],_=>rfl
 | j::js,h=>by
  have hj:=h j bX;obtain⟨v,e,a⟩:=as.get (show ds[j]?=some ds[j] by simp[hj]);refine⟨_,_,rfl,?_,nA as js fun i hi=>h i (b8 _ hi)⟩;show At K ρ H (ds.getD j .ao) (vs.getD j .ao);rw[List.getD_eq_getElem?_getD,List.getD_eq_getElem?_getD,e];simpa[hj] using a
theorem dO{α:Type}(l:List α)(d:α){js:List Nat}(h:js.Perm (List.range l.length)):(js.map fun j=>l.getD j d).Perm l:=by
 have e:(List.range l.length).map (fun j=>l.getD j d)=l:=by
  apply List.ext_getElem?;intro i
  by_cases hi:i<l.length
  ·rw[eS,List.getElem?_range hi]
   simp[List.getD_eq_getElem?_getD,hi]
  ·rw[List.getElem?_eq_none (by simp;lia),List.getElem?_eq_none (by lia)]
 have:=h.map fun j=>l.getD j d
 rwa [e]at this
theorem uM(hg:Gl X "sorted")(hm:X.mg "sorted" = none)(ha:PE X a (tD C X.K pa))(he:starEach [a] X.env=[(false,eval a X.env)]:=by rfl):PE X (.Call (.Name "sorted" p1) [a] [] q1) (tD C X.K (.b1 (.sorted mu) pa)):=
 dM j8 (by
  intro ρ m ae H dx d x Q M ax e q;obtain⟨xs,e1,e⟩:=aS (show ((FJ dx m).bind fun xs=>(QL xs).bind fun ps=>if xs.length≤4∧(ps.map (·.1)).Nodup then some (bE mu ((J0 ps).map QC) m) else none)=some (d,ae) from e);obtain⟨ps,e2,e⟩:=aS e;split at e
  case isFalse=>cases e
  rename_i hc
  have aI:=cE e;obtain⟨p,vs,rfl,hr,as⟩:=J6 M ax e1;obtain⟨si,qE⟩:=dX e2 as;have pS:=as.len;have sD:xs.length=ps.length:=by rw[qE,a9]
  refine⟨p,vs,ps,rfl,hr,si,by lia,hc.2,fun l js hl hp hs=>?_⟩;have dj:eB X.K ρ H (bE mu ((J0 ps).map QC) m).1 (bE mu ((J0 ps).map QC) m).2 Q:=by rw[aI];exact q
  refine dj.lst M ?_ hl;have pM:∀j∈js,j<vs.length:=fun j hj=>List.mem_range.mp (hp.mem_iff.mp hj)
  have tf:=Cw hc.2 (fun j hj=>by have:=pM j hj;lia) hs;have hL:(js.map fun j=>ps.getD j (⟨#[]⟩,0))=J0 ps:=by
   refine dI hc.2 (dO ps _ (by rw[←sD,←pS];exact hp)) ?_;rw[List.pairwise_map];have b9:js.Nodup:=hp.nodup_iff.mpr List.nodup_range;refine List.Pairwise.imp_of_mem (fun {i j} hi hj z=>?_) (List.Pairwise.and tf b9);obtain⟨z1,z2⟩:=z;have ki:=pM i hi;have kj:=pM j hj;unfold KQ at z1;rw[QK (key_ne hc.2 (by lia) (by lia) z2),decide_eq_true_eq]at z1;unfold FT;rw[dm (fun h=>List.lt_irrefl _ (List.lt_trans z1 h))];rfl
  rw[←hL,df];have SE:=nA as js fun j hj=>by have:=pM j hj;lia
  have sA:(js.map (QC∘fun j=>ps.getD j (⟨#[]⟩,0)))=js.map fun j=>xs.getD j .ao:=by
   apply jv;intro j hj;have:=pM j hj;rw[qE];simp only[Function.comp,List.getD_eq_getElem?_getD,eS];have Tw:j<ps.length:=by lia
   rw[fo Tw];rfl
  rw[sA];exact SE) PyProof.Rows.boot_sorted hg hm ha (by decide) (by decide) he
theorem P5{v:V}(hg:Gl X x)(hm:X.mg x=some u)(r:RelV v u)(ha:∀ρ H,At X.K ρ H d v)(hd:(x==("__debug__" : Str))=false:=by decide):PE X (.Name x pos) (tD C X.K (.con d)):=wm (Mf hg hm r hd) ha
end
end WL
namespace WL
open PySem PySem.Spec PyProof.Rows L2
def oz(K:p4)(mg:Str→Option Value)(x:String)(d:D):Prop:=∃v u,mg (Str.ofString x)=some u∧L2.RelV v u∧∀ρ H,At K ρ H d v
theorem gK{x:String}(h:oz X.K X.mg x d)(hg:Gl X (Str.ofString x))(hd:(Str.ofString x==("__debug__" : Str))=false:=by decide):PE X (.Name (Str.ofString x) pos) (tD C X.K (.con d)):=by
 obtain⟨v,u,hm,r,ha⟩:=h;exact P5 hg hm r ha hd
theorem oz.int{K:p4}{mg:Str→Option Value}{x:String}{i:Int}{t:Tok}(h:mg (Str.ofString x)=some (.int i t)):oz K mg x (.int i):=⟨.int i,_,h,⟨t,rfl⟩,fun _ _=>rfl⟩
section
variable(P:Program)(w:World)(K:p4)(mg:Str→Option Value)(base:Heap)
def Ct(name:String)(st:Stmt)(ps:List Str)(fa:Addr)(fd:FuncData):Prop:=r6 K (Str.ofString name) (Str.ofString name) st fa fd∧Binds K fd ps []∧mg (Str.ofString name)=some (.ref fa)
def Def(n:Nat)(C:String→List D→Mem→Option (D×Mem))(g:String):Prop:=∃(fa:Addr) (fd:FuncData) (ps:List Str),iA P w K mg base jo n fa fd ps (t6 K (C g))∧mg (Str.ofString g)=some (.ref fa)∧PySem.W.keepIn K (.ref fa)=true∧Binds K fd ps []
end
theorem Def.Rp{g:String}(h:Def X.prog X.w X.K X.mg X.base n C g)(hr:gm n X.A):Gz X C g:=by
 obtain⟨fa,fd,ps,F,hm,hk,hb⟩:=h;exact⟨n,fa,fd,ps,F,hr,hm,hk,hb⟩
theorem MT{name:String}{ps:List Str}:iA P w K mg base jo 0 f fd ps (t6 K (BW W Γ 0 name)):=by
 have no:∀vs H Q E,¬t6 K (BW W Γ 0 name) vs H Q E:=fun vs H Q E h=>by
  obtain⟨ds,m,ρ,d,ae,_,_,e,_⟩:=h;cases e
 exact⟨fun vs H Q E h=>absurd h (no vs H Q E),fun A outer s H args us vs Q E _ _ _ _ h=>absurd h (no vs H Q E)⟩
theorem Ct.zero{name:String}{ps:List Str}{fa:Addr}(t:Ct K mg name st ps fa fd):Def P w K mg base 0 (BW W Γ 0) name:=⟨fa,fd,ps,MT,t.2.2,t.1.kp,t.2.1⟩
end WL
namespace WL
open PySem PySem.Spec PyProof.Rows L2
noncomputable def qI(K:p4):Sp:=fun vs H Q _=>∃(a:Addr) (ns:List Int),vs=[.ref a]∧qk K H a (ns.map V.int)∧ns.length≤63∧∀aa,Q (.bl true) aa
theorem ME{k:Nat}{ps:List Str}{call:List D→Mem→Option (D×Mem)}(F:iA P w K mg base jo k f fd ps (t6 K call))(h:∀ns:List Int,ns.length≤63→call [.b6 ns] []=some (.bl true,[])):
  iA P w K mg base jo k f fd ps (qI K):=F.imp fun vs H Q E af=>by
 obtain⟨a,ns,e,hs,hl,q⟩:=af;subst e;refine⟨[.b6 ns],[],[],.bl true,[],⟨_,_,rfl,⟨a,rfl,hs⟩,rfl⟩,⟨rfl,nB,fun j a o e=>by simp at e⟩,h ns hl,fun v aa _ _ A=>?_⟩;cases A;exact q aa
theorem Ol(o:zk H)(h:c6 K H a vs):qk K H a vs:=by
 rcases h with (h | ⟨ob,h⟩) | h
 ·rcases o a with z | ⟨ob,xs,z⟩
  ·rw[h]at z;cases z
  ·rw[h]at z;cases z
 ·exact .inl ⟨ob,h⟩
 ·exact .inr h
theorem walk_law{l:PySem.W.OpenLaw}{q:Program}{d:DefRec}{K:Params→p4}(hn:l.most=some 63)(xo:d.params.defaults=[])(hY:∀(w:World) (h:Heap),YP w h→(K w.params).In h)(F:∀(w:World) (mg:Str→Option Value) (fa:Addr) (h:Heap),(K w.params).In h→h.Ns mainGlobals mg→mg d.name=some (.ref fa)→
   ∃fd:FuncData,(∀(s:Shared) (u:Value),BindsTo s fd ⟨[u],[]⟩ [("_law_script",u)])∧∀base:Heap,(K w.params).In base→base.Ns mainGlobals mg→iA l.prog w (K w.params) mg base jo 60 fa fd ["_law_script"] (qI (K w.params))) :
  PySem.W.WalkO q loose XP YP l.row.toRowW d [] (fun f vs=>PySem.call f vs):=
 L2.WO (n:=63) (k:=60) (x:="_law_script") (CX:=fun _=>jo) (sp:=fun w=>qI (K w.params)) hn (by decide) xo ⟨rfl,by decide,by decide⟩ hY F (fun _ _ a ns hl ho hS=>⟨a,ns,rfl,Ol ho hS,hl,fun _=>rfl⟩) fun _ _ _ _ _ z=>z
end WL
namespace WL
open PySem PySem.Spec PyProof.Rows L2
section
variable{a:Expr}
theorem Pa{neg:Bool}{q:Ex}(hq:∀σ m,ev C q σ m=(ev C pa σ m).bind fun z=>(ev C pb σ z.2).bind fun y=>(GX y.1 y.2).bind fun w=>(MF z.1).map fun k=>(.bl (if neg then !(GC w.1 w.2 k).isSome else (GC w.1 w.2 k).isSome),y.2)){σ:L2.St}{Q:VK}(h:tD C X.K q σ H Q):
  tD C X.K pa σ H fun y H1=>tD C X.K pb σ H1 fun x H2=>∃a o,x=.ref a∧jq H2 a y o∧Q (.bl (if neg then !o.isSome else o.isSome)) H2:=by
 obtain⟨aj,m,ρ,d,ae,S,M,e,q⟩:=h;rw[hq]at e;obtain⟨⟨x,m1⟩,e1,e⟩:=aS e;obtain⟨⟨y,m2⟩,e2,e⟩:=aS e;obtain⟨⟨ks,ds⟩,e3,e⟩:=aS e;obtain⟨k,e4,e⟩:=b5 e;cases e;refine⟨aj,m,ρ,x,m1,S,M,e1,fun v H1 au g1 M1 A1=>⟨aj,m1,au,y,m2,S.mono M g1,M1,e2,fun u H2 cS g2 M2 A2=>?_⟩⟩;obtain⟨p,kvs,rfl,hr,ka⟩:=S6 M2 A2 e3;have hk:=cG (A1.mono M1 g2) e4;refine⟨p,K4 kvs k,rfl,.inl ⟨kvs,k,hr,hk,rfl⟩,q _ H2 cS (g1.trans g2) M2 ?_⟩;have:(K4 kvs k).isSome=(GC ks ds k).isSome:=by
  cases hl:GC ks ds k with
  | none=>rw[(ka.look k).2 hl];rfl
  | some d'=>obtain⟨yw,CL,_⟩:=(ka.look k).1 d' hl;rw[CL];rfl
 rw[this];rfl
theorem NN{q:Ex}(hq:∀σ m d ae,ev C q σ m=some (d,ae)→∃z,d=.bl z){σ:L2.St}{Q:Bool→Hp→Prop}(h:fE C X.K (.val q) σ H Q):tD C X.K q σ H fun x H1=>∃c,x=.bl c∧Q c H1:=by
 obtain⟨aj,m,ρ,c,ae,S,M,e,dj⟩:=h;obtain⟨⟨x,m1⟩,e1,e⟩:=aS e;obtain⟨k,e2,e⟩:=b5 e;obtain⟨z,rfl⟩:=hq _ _ _ _ e1;cases e;cases e2;exact⟨aj,m,ρ,_,_,S,M,e1,fun v H1 au g1 M1 A1=>⟨_,A1,dj H1 au g1 M1⟩⟩
theorem qH(hu:X.A.units+1<cLine)(ha:PE X a (tD C X.K pa))(hb:PE X b (tD C X.K pb))(hm:behindInMarks .NotIn b=false:=by rfl):PT X (.Compare a [.NotIn] [b] pos) (fE C X.K (.val (.tS pa pb))):=(zE (dU hu ha hb) hm).imp fun σ H Q h=>Pa (neg:=true) (fun _ _=>rfl) (NN (fun σ m d ae e=>by
 obtain⟨_,_,e⟩:=aS e;obtain⟨_,_,e⟩:=aS e;obtain⟨_,_,e⟩:=aS e;obtain⟨_,_,e⟩:=b5 e;cases e;exact⟨_,rfl⟩) h)
end
end WL
namespace PySem
structure Q3(prog:Program)(w:World)(it l:Addr)(St:Nat→Heap→Prop)(xs:Array Value):Prop where
 item:∀(A:Around) (E:Value→Shared→Prop) (s:Shared) (k:Nat) (x:Value) (Q:Value→Shared→Prop),St k s.heap→xs[k]?=some x→
  (∀h',St (k+1) h'→Heap.SameBut it s.heap h'→Q x { s with heap:=h' })→wpAny (model prog w) A (Builtin.SmallTypes.nextOf (.ref it)) Q E s
 stop:∀(A:Around) (E:Value→Shared→Prop) (s:Shared) (k:Nat) (Q:Value→Shared→Prop),A.handled=none→St k s.heap→xs[k]?=none→
  (∀h' e,Heap.ExtBut it s.heap h'→(∃o,h'.get? e=some o∧o.cls=.type "StopIteration")→E (.ref e) { s with heap:=h' })→wpAny (model prog w) A (Builtin.SmallTypes.nextOf (.ref it)) Q E s
 ext:∀(k:Nat) (h h':Heap),St k h→(∀c o,(c=it∨c=l)→h.get? c=some o→h'.get? c=some o)→St k h'
 obj:∀(k:Nat) (h:Heap),St k h→(∃o,h.get? it=some o∧(∀v,o.data≠.cell v)∧o.cls≠.type "tuple"∧o.cls≠.type "zip")∧∃o,h.get? l=some o∧∀a,o.data≠.fields a
section
theorem aL{t:Addr}(hit:s.heap.IsTupleIter it t i)(ht:s.heap.IsTuple t xs)(h:(∃x,xs[i]?=some x∧∀h',h'.IsTupleIter it t (i+1)→Heap.SameBut it s.heap h'→Q x { s with heap:=h' })∨
   (A.handled=none∧xs[i]?=none∧∀h' e,Heap.ExtBut it s.heap h'→(∃o,h'.get? e=some o∧o.cls=.type "StopIteration")→E (.ref e) { s with heap:=h' })) :
  wpAny (model prog w) A (Builtin.SmallTypes.nextOf (.ref it)) Q E s:=by
 obtain⟨o,ho,hc,hd⟩:=id hit;obtain⟨ol,Au,_,nl,pE⟩:=ht;have e0:¬((Value.ref t==Value.none)=true):=dE;unfold Builtin.SmallTypes.nextOf;refine ab (wpAny_callSpecial?_slot (name:=Str.ofString "__next__") hit.typeIs F.slot_tuple_iterator_next (gn F.slot_tuple_iterator_next hit.typeIs F.entry_tuple_iterator_next ?_ (F.args_tuple_iterator_next_1 _)));show wpAny _ _ (field (.ref it) 0 >>= _) _ _ s;refine ab (wpAny_field ho hd (x:=.ref t) rfl ?_);show wpAny _ _ (if (Value.ref t==Value.none)=true then _ else _) _ _ s;rw[ai e0];show wpAny _ _ (field (.ref it) 1 >>= _) _ _ s;refine ab (wpAny_field ho hd (x:=.int i 0) rfl ?_);show wpAny _ _ (seqItems? (.ref t) >>= _) _ _ s;refine ab (wpAny_seqItems Au pE ?_);rcases h with ⟨x,hx,q⟩ | ⟨hh,hx,q⟩
 ·simp only[Int.toNat_natCast,hx]
  refine ab (wpAny_setField ho hd (by simp) (ah ⟨x,rfl,ah (q _ ⟨_,o4 _ ho (Obj.isFreed_of_fields (Obj.data_mapFields hd _)),(Obj.cls_mapFields ..).trans hc,?_⟩ (uh ..))⟩));rw[Obj.data_mapFields hd];simp[rawInt]
 ·simp only[Int.toNat_natCast,hx]
  refine ab (jn (ab (wpAny_setField ho hd (by simp) ?_)));show wpAny _ _ (newExc (.type "StopIteration") [] >>= _) _ _ _;refine ab ?_;simp only[newExc,newTuple];refine ab (iL (ab (m:=firstArgMember _ _) (wpAny_of_eq (a:=Value.none) (by first | rfl | (simp only[firstArgMember];rfl)) (iL ?_ (by size_fits)))) (by size_fits));simp only[raiseNew];refine ab (wpAny_handled ?_)
  first | rw[show A.in1.handled=none from hh] | rw[hh]
  refine ab (ah (wpAny_throw ?_));exact q _ _ (((uh ..).extBut.push _).push _) ⟨_,c8 _ rfl,rfl⟩
theorem zq{l:Addr}(c9:l≠it):Q3 prog w it l (fun k h=>h.IsTupleIter it l k∧h.IsTuple l xs) xs where
 item:=fun A E s k x Q st hx q=>aL st.1 st.2 (.inl ⟨x,hx,fun h' a b=>q h' ⟨a,let ⟨o,ho,c⟩:=st.2;⟨o,b.extBut l o c9 ho,c⟩⟩ b⟩)
 stop:=fun A E s k Q hh st hx q=>aL st.1 st.2 (.inr ⟨hh,hx,q⟩)
 ext:=fun k h h' st e=>⟨st.1.at fun o z=>e it o (.inl rfl) z,let ⟨o,ho,c⟩:=st.2;⟨o,e l o (.inr rfl) ho,c⟩⟩
 obj:=fun k h st=>by
  obtain⟨⟨o,ho,hc,hd⟩,⟨ol,hl,_,n,pE⟩⟩:=st;exact⟨⟨o,ho,(fun v z=>by rw[hd]at z;cases z),(by rw[hc];decide),(by rw[hc];decide)⟩,ol,hl,(fun a z=>by rw[pE]at z;cases z)⟩
variable{z TI TO i1 i2 l1 l2:Addr}{S1 S2:Nat→Heap→Prop}{ys:Array Value}{k:Nat}{a b:Value}
end
end PySem
namespace L2
open PySem PySem.Spec PyProof.Rows
theorem Le{bs:List Bool}:∀{us:List Value},Vals (bs.map V.bl) us→us=bs.map Value.bool:=by
 induction bs with
 | nil=>intro us r;rw[List.map_nil]at r;cases r;rfl
 | cons n ns ih=>
  intro us r;rw[ck]at r;cases r with
  | cons r1 r2=>cases r1;rw[ih r2];rfl
theorem cZ(hc:X.calm=true):gb X (.builtin "all") (fun xs H Q=>∃(a:Addr) (bs:List Bool),xs=[.ref a]∧c6 X.K H a (bs.map V.bl)∧Q (.bl (bs.all id)) H):=by
 intro pi s σ H xs us Q I r h;obtain⟨a,bs,rfl,hq,q⟩:=h;obtain⟨u,rfl,ru⟩:=vals1 r;cases ru;obtain⟨its,rv,p,hz⟩:=I.list hq;have hi:=Le rv;have pl:=p.isList;have bx:a<s.heap.objs.size:=by obtain⟨_,e,_⟩:=pl;exact bg e
 refine call_all_walk (wpAny_pyIter_list pl ?_);refine⟨s.heap.objs.size,[s.heap.objs.size,a],[s.heap.objs.size],_,_,_,fun i=>(bs[i]?).getD true,rfl,Walks.list (A:=X.A.in1) (I.ok.hd hc) _ a (b0 bx) _,⟨⟨_,c8 _ rfl,rfl,rfl⟩,pl.push _⟩,fun i v s' nq XN hP hQ=>?_,fun h' tk hk=>?_⟩
 ·have hv:its[i]?=some v:=by simpa using hP
  rw[hi,eS]at hv;cases e:bs[i]? with
  | none=>rw[e]at hv;cases hv
  | some b=>
   rw[e]at hv;cases hv;simp only[e,Option.getD_some]at hQ;exact wpAny_truthy_bool hQ
 ·have hl:its.length=bs.length:=by rw[hi,a9]
  have e:((List.range its.toArray.size).all fun i=>(bs[i]?).getD true)=bs.all id:=by
   rw[dr,hl];exact LSm.range_all bs
  rw[e];exact⟨.bl _,H,I.kept (LSm.kept_iter hk),rfl,q⟩
end L2
namespace WL
open PySem L2 PySem.Spec PyProof.Rows
section
theorem tV{K:p4}{ρ:List Addr}{H:Hp}:∀{ds:List D} {bs:List Bool} {vs:List V},bR ds=some bs→a6 K ρ H ds vs→vs=bs.map V.bl
 | [],_,_,e,a=>by
  cases e;exact a
 | .bl b::r,bs,vs,e,a=>by
  obtain⟨cs,e1,rfl⟩:=b5 e;obtain⟨v,us,rfl,a1,a2⟩:=a;cases a1;rw[tV e1 a2];rfl
theorem Lz:d7 X .all (fun xs H Q=>∃(a:Addr) (bs:List Bool),xs=[.ref a]∧c6 X.K H a (bs.map V.bl)∧Q (.bl (bs.all id)) H):=by
 intro ρ m ae H dx d x Q M ax e q;obtain⟨xs,e1,e⟩:=aS (show ((FJ dx m).bind fun xs=>(bR xs).map fun bs=>(D.bl (bs.all id),m))=some (d,ae) from e);obtain⟨bs,e2,e⟩:=b5 e;cases e;obtain⟨p,vs,rfl,h,as⟩:=J6 M ax e1;cases tV e2 as;exact⟨p,bs,rfl,h,.of (q.here M rfl)⟩
variable{a:Expr}
theorem Oj(hc:X.calm=true)(hg:Gl X "all")(hm:X.mg "all" = none)(ha:PE X a (tD C X.K pa))(he:starEach [a] X.env=[(false,eval a X.env)]:=by rfl):PE X (.Call (.Name "all" p) [a] [] pos) (tD C X.K (.b1 .all pa)):=dM (cZ hc) Lz PyProof.Rows.boot_all hg hm ha (by decide) (by decide) he
end
noncomputable def Bs:List Value→Option (List D)
 | []=>some []
 | .str x _::r=>(Bs r).map (.str x::·)
 | _=>none
noncomputable def Gb(its:Array Value):Option D:=if its.size≤100 then (Bs its.toList).map .tup else none
theorem qD{K:p4}:∀{l:List Value} {ds:List D},Bs l=some ds→∃vs,Vals vs l∧∀ρ H,a6 K ρ H ds vs
 | [],ds,e=>by
  cases e;exact⟨[],.nil,fun _ _=>rfl⟩
 | .str x t::r,ds,e=>by
  obtain⟨es,e1,rfl⟩:=b5 e;obtain⟨vs,h1,h2⟩:=qD (K:=K) e1;exact⟨.str x::vs,.cons ⟨t,rfl⟩ h1,fun ρ H=>⟨_,_,rfl,rfl,h2 ρ H⟩⟩
theorem oz.strs{x:String}{its:Array Value}(h:mg (Str.ofString x)=some (.ref a))(hl:K.lookup a=some { cls:=.type "tuple",data:=.seq its n })(he:Gb its=some d):oz K mg x d:=by
 unfold Gb at he;split at he
 ·rename_i hs
  obtain⟨ds,e1,rfl⟩:=b5 he;obtain⟨vs,h1,h2⟩:=qD (K:=K) e1;exact⟨.ref a,.ref a,h,rfl,fun ρ H=>⟨a,vs,rfl,⟨_,rfl,rfl,Or.inr ⟨hl,its,n,rfl,eR hs (by decide),h1⟩⟩,h2 ρ H⟩⟩
 ·cases he
end WL
namespace PySem
open Sem (wp)
namespace F
end F
section
variable{z TI TO i1 i2 b:Addr}{ys:Array Value}{k:Nat}
end
end PySem
namespace L2
open PySem PySem.Spec PyProof.Rows
theorem Inv.tracked{p:Addr}{o:HO}(I:Inv X pi σ H s)(f:RB X pi H p)(new:du X.prog X.w (upd H p o) s.heap p o):Inv X pi σ (upd H p o) s:=by
 have hn:=f.1;have up:∀b u,H b=some u→upd H p o b=some u:=fun b u e=>by rw[CK (FZ e hn)];exact e
 refine I.step (h':=s.heap) (t':=s.toks) (g':=s.gens) (d':=s.drawn) (ch:=[p]) (fun b hb=>?_) (fun b ob _ _ _ e _=>e) (fun b ob _ _ _ e _=>⟨ob.slots,e⟩)
  (fun b ob hc e n=>by rw[CK (fun z=>hc (by simp[z]))];exact n) (fun b ob _ e=>⟨ob,e⟩) (fun b xs e=>up b _ e) (fun b u xs e=>up b _ e) (fun b ps e=>⟨#[],by rw[up b _ e];simp⟩) (fun m hm=>hm) (fun b u e=>?_) I.bare
 ·rw[fg hb]
  exact⟨f.2.2.2.1,f.2.1,f.2.2.2.2.1,f.2.2.2.2.2⟩
 ·by_cases hb:b=p
  ·subst hb;rw[CT]at e;cases e;exact new
  ·rw[CK hb]at e
   exact(I.az b u e).kb (fun c v _ q=>q) (fun c q=>up c _ q) fun c xs q=>up c _ q
def kU(H aa:Hp):Prop:=∀c u,H c=some u→aa c=some u
section
variable{z TI TO i1 i2 b S:Addr}{xs:List V}{oa ob:Obj}
end
end L2
namespace WL
open PySem PySem.Spec PyProof.Rows L2
section
variable{a:Expr}
theorem kU.fz(h:kU H aa):HJ H aa:=fun a o u e=>h a _ e
theorem kU.go(h:kU H aa)(ρ:List Addr):Go ρ ρ H aa:=⟨fun b o e _=>h b o e,List.prefix_rfl,fun _ h=>.inl h⟩
theorem kU.mem(h:kU H aa)(M:bf K ρ m H):bf K ρ m aa:=M.keep (kU.fz h) fun a ha=>by
 obtain⟨u,e,_⟩:=M.there ha;rw[h a u e,e]
end
end WL
namespace PySem
theorem QH(t:SetTable)(n:Nat):(t.orStandIn n).led=t.led∧((t.orStandIn n).plain=true→t.plain=true):=by
 unfold SetTable.orStandIn;split
 ·exact⟨rfl,id⟩
 ·exact⟨rfl,fun q=>by simp[SetTable.standIn]at q⟩
theorem p7(t:SetTable)(es:Array (Int×Value))(h:Int)(x:Value):(layNew t es h x).2.1.led=t.led∧((layNew t es h x).2.1.plain=true→t.plain=true):=by
 unfold layNew;split
 ·rename_i slot wd he
  exact QH (t.put slot).1 (SetTable.insertAt es (t.put slot).2 (h,x)).size
 ·exact⟨rfl,fun q=>by simp[SetTable.standIn]at q⟩
theorem gR(t:SetTable)(es:Array (Int×Value))(wanted:Nat):(relayAll t es wanted).2.1.led=t.led∧((relayAll t es wanted).2.1.plain=true→t.plain=true):=by
 unfold relayAll;split
 ·rename_i t' order he
  have ht:t'.led=t.led∧t'.plain=t.plain:=by
   unfold SetTable.relaid SetTable.laid at he;cases hc:SetTable.layClean (SetTable.sizeAbove wanted-1) (es.map (·.1)) with
   | none=>rw[hc]at he;cases he
   | some owner=>rw[hc]at he;cases he;exact⟨rfl,rfl⟩
  dsimp only;split
  ·exact⟨ht.1,fun q=>by rw[←ht.2];exact q⟩
  ·exact⟨rfl,fun q=>by simp[SetTable.standIn]at q⟩
 ·exact⟨rfl,fun q=>by simp[SetTable.standIn]at q⟩
noncomputable abbrev M8 (es:Array (Int×Value)) (ep:Nat) (t:SetTable):Obj:={ cls:=.type "set",dict:=none,data:=.set es ep t,slots:=#[] }
structure gE(w:World)(h:Heap)(a:Addr)(es:Array (Int×Value))(ep:Nat)(t:SetTable):Prop where
 ob:h.get? a=some (M8 es ep t)
 fit:t.fits es.size=true
 led:t.led=!w.params.followText "set-order"
 pl:1<es.size→t.plain=false
end PySem
namespace PySem
theorem NW{a:Value}{Q₁:Value→Shared→Prop}(h:Q₁ (.ref s.heap.objs.size) { s with heap:=s.heap.push (M8 #[] 0 (.fresh 0 0 (!w.params.followText "set-order"))) }):
  codeAny (model prog w) A (.call (.builtin "set.__new__") ⟨[.type "set",a],[]⟩) (wants Q₁ E) s:=by
 refine codeAny_of_tree ?_;show wpAny _ A.in1 (checkBuiltinCall "set.__new__" ⟨[.type "set",a],[]⟩ >>= fun _=>again (.builtin "set.__new__" ⟨[.type "set",a],[]⟩)) _ _ s;refine ab (wpAny_of_eq (F.newCall_set_1 a) (ah ⟨plainId_quiet F.plain_set_new _,kl F.entry_set_new ?_⟩));rw[k8 F.plain_set_new _];unfold Builtin.«set.__new__» Builtin.Frozenset.newClass;have Uq:=sub_set_self;obtain⟨hp,gg,dd,kk,oo⟩:=s;dsimp only
 wp_walk
 refine wpAny_askSetting (ah ?_);dsimp only;simp only[newObj];exact ab (wpAny_alloc (ah (ah h)))
end PySem
namespace PySem
namespace F
theorem yp:Slot "set_iterator" "__next__" "set_iterator.__next__":=
 .of (owner:="set_iterator") (n:="__next__") (by rw[jx,jy];kernel_rfl) (by decide +kernel) (by decide +kernel) (by decide +kernel)
  (by first | exact .inl (by decide +kernel) | exact .inr (by decide +kernel)) (by rw[isSubtype_type];kernel_rfl)
theorem Ka:Slot "set_iterator" "__iter__" "set_iterator.__iter__":=
 .of (owner:="set_iterator") (n:="__iter__") (by rw[jx,jy];kernel_rfl) (by decide +kernel) (by decide +kernel) (by decide +kernel)
  (by first | exact .inl (by decide +kernel) | exact .inr (by decide +kernel)) (by rw[isSubtype_type];kernel_rfl)
theorem Wv:entryFor table "set_iterator.__next__" = some Builtin.«set_iterator.__next__»:=zI (by kernel_rfl)
theorem Wu:entryFor table "set_iterator.__iter__" = some Builtin.«dict_keyiterator.__iter__»:=
 entryFor_alias (id':="dict_keyiterator.__iter__") (by kernel_rfl) (by first | rfl | decide +kernel | (unfold String.splitOn;simp +decide [String.splitOnAux])) (by decide +kernel) (by kernel_rfl)
theorem jR:Manifest.owners.lookup (String.ofList ['r','o','t','a','r','e','t','i','_','t','e','s'].reverse)=some Manifest.sig_set_iterator:=by kernel_rfl
theorem Wt(a:Value):argsOk "set_iterator.__next__" ⟨[a],[]⟩:=by
 unfold argsOk;rw[signature?_of (id:="set_iterator.__next__") (n:=['_','_','t','x','e','n','_','_']) (o:=['r','o','t','a','r','e','t','i','_','t','e','s']) (by kernel_rfl) jR];kernel_rfl
theorem Ws(a:Value):argsOk "set_iterator.__iter__" ⟨[a],[]⟩:=by
 unfold argsOk;rw[signature?_of (id:="set_iterator.__iter__") (n:=['_','_','r','e','t','i','_','_']) (o:=['r','o','t','a','r','e','t','i','_','t','e','s']) (by kernel_rfl) jR];kernel_rfl
theorem Ww:entryFor table "set.__iter__" = some Builtin.«frozenset.__iter__»:=
 entryFor_alias (id':="frozenset.__iter__") (by kernel_rfl) rfl (by decide +kernel) (by kernel_rfl)
end F
theorem U7{α:Type}:∀(l:List α) (i:Nat) (h:i<l.length),(l[i]::l.eraseIdx i).Perm l
 | [],i,h=>absurd h (o5 _)
 | a::r,0,h=>.refl _
 | a::r,i+1,h=>(List.Perm.swap _ _ _).trans (.cons a (U7 r i (by simpa using h)))
theorem qX{α:Type}(next:Nat→Nat):∀(fuel k:Nat) (left:List α) (out:Array α),fuel=left.length→(pickOrder.go next fuel k left out).toList.Perm (out.toList++left)
 | 0,k,left,out,h=>by
  have:left=[]:=List.eq_nil_of_length_eq_zero h.symm;subst this;simp[pickOrder.go]
 | fuel+1,k,left,out,h=>by
  have hp:0<left.length:=by lia
  have hi:next k % left.length<left.length:=Nat.mod_lt _ hp
  unfold pickOrder.go;rw[fo hi];dsimp only;refine(qX next fuel (k+1) _ _ (by rw[List.length_eraseIdx_of_lt hi];lia)).trans ?_;rw[Array.toList_push,C2];exact List.Perm.append_left _ (U7 _ _ hi)
theorem QD{α:Type}(next:Nat→Nat)(xs:Array α):(pickOrder next xs).toList.Perm xs.toList:=by
 have:=qX next xs.size 0 xs.toList #[] (by simp)
 simpa[pickOrder] using this
theorem cV{src:Source}{Q:Nat→Shared→Prop}(hn:n≠0)(h:∀i d',i<n→Q i { s with drawn:=d' }):wpAny (model prog w) A (choose src n) Q E s:=fun _ _ _=>⟨hn,h _ _ (Nat.mod_lt _ (Nat.pos_of_ne_zero hn))⟩
theorem bG{α:Type}:∀(n:Nat) (xs:List α) (s:Shared) (Q:List α→Shared→Prop),xs.length=n→(∀ys d',ys.Perm xs→Q ys { s with drawn:=d' })→wpAny (model prog w) A (drawOrder n xs) Q E s
 | 0,xs,s,Q,hl,h=>by
  have:xs=[]:=List.eq_nil_of_length_eq_zero hl;subst this;unfold drawOrder;exact ah (h [] s.drawn .nil)
 | n+1,[],s,Q,hl,h=>by simp at hl
 | n+1,x::r,s,Q,hl,h=>by
  unfold drawOrder;refine ab (cV (by simp) fun i d' hi=>?_);rw[fo hi];dsimp only;refine ab (bG n _ _ _ (by rw[List.length_eraseIdx_of_lt hi];simp at hl ⊢;lia) fun ys d2 hp=>?_);exact ah (h _ d2 ((List.Perm.cons _ hp).trans (U7 _ _ hi)))
noncomputable abbrev oD (h:Heap) (I:Addr) (f0:Value) (i:Nat) (a:Addr) (n ep:Nat):Prop:=h.get? I=some { cls:=.type "set_iterator",data:=.fields #[f0,rawInt i,.ref a,rawInt n,rawInt ep] }
section
variable{es:Array (Int×Value)}{ep:Nat}{f0:Value}
theorem SQ(S:gE w s.heap a es ep t)(hI:oD s.heap I f0 i a es.size ep){Q:Option Value→Shared→Prop}(h:(∃sl:Nat,f0=rawInt (sl:Nat)∧wpAny (model prog w) A.in1 (setNext a sl i ep) (fun r s'=>s'=s∧((∃x nx,r=some (x,nx)∧∀h',oD h' I (rawInt (nx:Nat)) (i+1) a es.size ep→Heap.SameBut I s.heap h'→Q (some x) { s with heap:=h' })∨(r=none∧A.handled=none∧∀h',Heap.ExtBut I s.heap h'→Q none { s with heap:=h' }))) (fun _ _=>False) s)∨
   (∃T pl,f0=.ref T∧s.heap.IsTuple T pl∧((∃(p:Nat) (tk:Tok) (e:Int×Value),pl[i]?=some (.int p tk)∧es[p]?=some e∧∀h',oD h' I f0 (i+1) a es.size ep→Heap.SameBut I s.heap h'→Q (some e.2) { s with heap:=h' })∨(pl[i]?=none∧A.handled=none∧∀h',Heap.ExtBut I s.heap h'→Q none { s with heap:=h' })))) :
  wpAny (model prog w) A (pyNext (.ref I)) Q E s:=by
 have hT:s.TypeIs (.ref I) "set_iterator":=⟨_,hI,rfl⟩
 unfold pyNext;refine ab (wpAny_attempt (wpAny_callSpecial?_slot (name:=Str.ofString "__next__") hT F.yp (gn F.yp hT F.Wv ?_ (F.Wt _))));unfold Builtin.«set_iterator.__next__»;refine ab (wpAny_of_eq (a:=(Value.ref I,[])) rfl ?_);refine ab (wpAny_fieldsOf hI rfl ?_);show wpAny _ _ (setEntries a >>= _) _ _ s;refine ab (wpAny_setEntries_of S.ob rfl S.fit ?_);have c9:(((es.size:Nat):Int) != ((es.size:Nat):Int))=false:=by simp
 rw[c9];simp only[Bool.false_eq_true,if_false];rcases h with ⟨sl,rfl,h⟩ | ⟨T,pl,rfl,uv,h⟩
 ·show wpAny _ _ (setNext a (Int.toNat (sl:Int)) (Int.toNat (i:Int)) (Int.toNat (ep:Int)) >>= _) _ _ s
  rw[Int.toNat_natCast,Int.toNat_natCast,Int.toNat_natCast];refine ab (fb h (fun r s' af=>?_) fun _ _ f=>f.elim);obtain⟨km,q⟩:=af;subst km;rcases q with ⟨x,nx,rfl,q⟩ | ⟨rfl,hh,q⟩
  ·dsimp only
   refine ab (wpAny_setField_rec hI (by simp) fun h1 jz s1=>?_);refine ab (wpAny_setField_rec (s:={ s' with heap:=h1 }) jz (by simp) fun h2 HM s2=>ah ⟨x,rfl,ah (q h2 HM (s1.trans s2))⟩)
  ·dsimp only
   refine ab (wpAny_setField_rec hI (by simp) fun h1 jz s1=>?_);exact fb (RM (s:={ s' with heap:=h1 }) (h:=s'.heap) (it:=I) (Q:=Q) (E:=E) hh (fun b o hb e=>s1.extBut b o hb e) fun h' hk=>q h' hk) (fun _ _ f=>f.elim) fun e s2 q=>q
 ·obtain⟨oT,eT,cT,nT,dT⟩:=uv
  show wpAny _ _ (seqItems? (.ref T) >>= _) _ _ s;refine ab (wpAny_seqItems eT dT ?_);rcases h with ⟨p,tk,e,hp,he,q⟩ | ⟨hp,hh,q⟩
  ·dsimp only
   rw[show Int.toNat (i:Int)=i from Int.toNat_natCast i,hp];dsimp only;refine ab ?_;unfold setNextDrawn;refine ab (wpAny_setState_of S.ob rfl S.fit ?_);have h2:(ep != (Int.toNat (ep:Int)))=false:=by rw[Int.toNat_natCast];simp
   dsimp only;rw[h2,show Int.toNat (p:Int)=p from Int.toNat_natCast p,he];simp only[Bool.false_eq_true,if_false];refine ah ?_;refine ab (wpAny_setField_rec hI (by simp) fun h1 jz s1=>ah ⟨e.2,rfl,ah (q h1 jz s1)⟩)
  ·dsimp only
   rw[show Int.toNat (i:Int)=i from Int.toNat_natCast i,hp];dsimp only;refine ab (wpAny_setField_rec hI (by simp) fun h1 jz s1=>?_);refine ab (wpAny_setField_rec (s:={ s with heap:=h1 }) jz (by simp) fun h2 HM s2=>?_);exact fb (RM (s:={ s with heap:=h2 }) (h:=s.heap) (it:=I) (Q:=Q) (E:=E) hh (fun b o hb e=>s2.extBut b o hb (s1.extBut b o hb e)) fun h' hk=>q h' hk) (fun _ _ f=>f.elim) fun e s2 q=>q
end
end PySem
namespace PySem
section
variable{es:Array (Int×Value)}{ep:Nat}
theorem gE.at(S:gE w h a es ep t)(e:∀o,h.get? a=some o→h'.get? a=some o):gE w h' a es ep t:={ S with ob:=e _ S.ob }
theorem gF{f0:Value}(hI:oD s.heap I f0 i a n ep)(h:Q (.ref I) s):wpAny (model prog w) A (pyIter (.ref I)) Q E s:=by
 have hT:s.TypeIs (.ref I) "set_iterator":=⟨_,hI,rfl⟩
 refine wpAny_pyIter_slot hT F.Ka (gn F.Ka hT F.Wu ?_ (F.Ws _));show wpAny _ _ (ret (.ref I)) _ _ s;exact ah ⟨_,rfl,"set_iterator",_,hT,F.yp.lookup,h⟩
theorem Walks.Wq(hB:w.params.followText "set-order" = true)(hA:A.handled=none)(c9:a≠I):Walks prog w A I [I,a] [I] es.size (fun i v=>∃e,(pickOrder (w.params.setOrder a ep) es)[i]?=some e∧v=e.2) (fun i h=>(∃sl:Nat,oD h I (rawInt (sl:Nat)) i a es.size ep)∧gE w h a es ep t) where
 sub:=fun b hb=>by simp at hb;simp[hb]
 frame:=fun _ _ _ x hk=>⟨let ⟨sl,q⟩:=x.1;⟨sl,hk I (by simp) _ q⟩,x.2.at fun o q=>hk a (by simp) o q⟩
 item:=fun i s Q E hi x hQ=>by
  obtain⟨⟨sl,hI⟩,S⟩:=x;have hsz:(pickOrder (w.params.setOrder a ep) es).size=es.size:=by
   have:=(QD (w.params.setOrder a ep) es).length_eq;simpa using this
  have hx:(pickOrder (w.params.setOrder a ep) es)[i]?=some ((pickOrder (w.params.setOrder a ep) es)[i]'(by lia)):=Array.getElem?_eq_getElem (by lia);refine SQ S hI (.inl ⟨sl,rfl,?_⟩);unfold setNext;refine ab (wpAny_setState_of S.ob rfl S.fit ?_);unfold setsByText;refine ab (ab (wpAny_askSetting (ah ?_)));show wpAny _ _ (if w.params.followText "set-order" = true then _ else _) _ _ _;rw[hB];simp only[if_true,bne_self_eq_false,Bool.false_eq_true,if_false];refine ab ?_;unfold setWalk;refine ab (wpAny_setState_of S.ob rfl S.fit ?_);unfold setsByText;refine ab (ab (wpAny_askSetting (ah ?_)));show wpAny _ _ (if w.params.followText "set-order" = true then _ else _) _ _ _;rw[hB];simp only[if_true];refine ab (wpAny_askSetting (ah ?_));show wpAny _ _ (pure (((pickOrder (w.params.setOrder a ep) es)[i]?).map fun e=>(e.2,sl))) _ _ _;rw[hx];refine ah ⟨rfl,.inl ⟨_,sl,rfl,fun h' xf sb=>?_⟩⟩;exact hQ _ h' s.toks ⟨_,hx,rfl⟩ ⟨⟨sl,xf⟩,S.at fun o q=>sb.extBut _ _ c9 q⟩ fun b o hb e=>sb.extBut b o (fun z=>hb (by simp[z])) e
 done:=fun s Q E x hQ=>by
  obtain⟨⟨sl,hI⟩,S⟩:=x;have hsz:(pickOrder (w.params.setOrder a ep) es).size=es.size:=by
   have:=(QD (w.params.setOrder a ep) es).length_eq;simpa using this
  have hx:(pickOrder (w.params.setOrder a ep) es)[es.size]?=none:=by simp[hsz]
  refine SQ S hI (.inl ⟨sl,rfl,?_⟩);unfold setNext;refine ab (wpAny_setState_of S.ob rfl S.fit ?_);unfold setsByText;refine ab (ab (wpAny_askSetting (ah ?_)));show wpAny _ _ (if w.params.followText "set-order" = true then _ else _) _ _ _;rw[hB];simp only[if_true,bne_self_eq_false,Bool.false_eq_true,if_false];refine ab ?_;unfold setWalk;refine ab (wpAny_setState_of S.ob rfl S.fit ?_);unfold setsByText;refine ab (ab (wpAny_askSetting (ah ?_)));show wpAny _ _ (if w.params.followText "set-order" = true then _ else _) _ _ _;rw[hB];simp only[if_true];refine ab (wpAny_askSetting (ah ?_));show wpAny _ _ (pure (((pickOrder (w.params.setOrder a ep) es)[es.size]?).map fun e=>(e.2,sl))) _ _ _;rw[hx];exact ah ⟨rfl,.inr ⟨rfl,hA,fun h' hk=>hQ h' s.toks fun b o hb e=>hk b o (fun z=>hb (by simp[z])) e⟩⟩
 self:=fun _ _ _ _ x hQ=>let ⟨⟨sl,hI⟩,_⟩:=x;gF hI hQ
theorem Walks.Wn(hA:A.handled=none){T:Addr}{ys:List Nat}(c9:a≠I)(hT:T≠I)(hy:ys.Perm (List.range es.size)):Walks prog w A I [I,a,T] [I] es.size (fun i v=>∃(p:Nat) (e:Int×Value),ys[i]?=some p∧es[p]?=some e∧v=e.2) (fun i h=>oD h I (.ref T) i a es.size ep∧gE w h a es ep t∧h.IsTuple T (ys.map fun(p:Nat)=>rawInt p).toArray) where
 sub:=fun b hb=>by simp at hb;simp[hb]
 frame:=fun _ _ _ x hk=>⟨hk I (by simp) _ x.1,x.2.1.at fun o q=>hk a (by simp) o q,let ⟨o,e,c⟩:=x.2.2;⟨o,hk T (by simp) _ e,c⟩⟩
 item:=fun i s Q E hi x hQ=>by
  obtain⟨hI,S,uv⟩:=x;have hl:ys.length=es.size:=by rw[hy.length_eq,List.length_range]
  have kr:i<ys.length:=by lia
  have hp:ys[i]<es.size:=List.mem_range.mp (hy.mem_iff.mp (List.getElem_mem kr));refine SQ S hI (.inr ⟨T,_,rfl,uv,.inl ⟨ys[i],0,es[ys[i]],by simp[kr,rawInt],by simp[hp],fun h' xf sb=>?_⟩⟩);exact hQ _ h' s.toks ⟨_,_,fo kr,by simp[hp],rfl⟩ ⟨xf,S.at fun o q=>sb.extBut _ _ c9 q,let ⟨o,e,c⟩:=uv;⟨o,sb.extBut _ _ hT e,c⟩⟩ fun b o hb e=>sb.extBut b o (fun z=>hb (by simp[z])) e
 done:=fun s Q E x hQ=>by
  obtain⟨hI,S,uv⟩:=x;have hl:ys.length=es.size:=by rw[hy.length_eq,List.length_range]
  refine SQ S hI (.inr ⟨T,_,rfl,uv,.inr ⟨by simp[hl],hA,fun h' hk=>hQ h' s.toks fun b o hb e=>hk b o (fun z=>hb (by simp[z])) e⟩⟩)
 self:=fun _ _ _ _ x hQ=>gF x.1 hQ
theorem fJ(j k:Nat):SetTable.below #[j] k=if j<k then 1 else 0:=by
 by_cases h:j<k<;>simp[SetTable.below,SetTable.below.go,h]
theorem Walks.Wo(hB:w.params.followText "set-order" = false)(hA:A.handled=none)(c9:a≠I)(h1:es.size≤1):Walks prog w A I [I,a] [I] es.size (fun i v=>∃e,es[i]?=some e∧v=e.2) (fun i h=>oD h I (rawInt ((if i=0 then 0 else t.place.getD 0 0+1:Nat):Nat)) i a es.size ep∧gE w h a es ep t) where
 sub:=fun b hb=>by simp at hb;simp[hb]
 frame:=fun _ _ _ x hk=>⟨hk I (by simp) _ x.1,x.2.at fun o q=>hk a (by simp) o q⟩
 item:=fun i s Q E hi x hQ=>by
  obtain⟨hI,S⟩:=x;have Tr:i=0:=by lia
  subst Tr;have hz:es.size=1:=by lia
  have mB:t.place.size=1:=by
   have:=S.fit;simp only[SetTable.fits,gh,beq_iff_eq]at this;lia
  obtain⟨j,hj⟩:∃j,t.place=#[j]:=⟨t.place[0],by apply lP;simp[List.ext_getElem?_iff,Array.getElem?_toList];intro k;rcases k with _ | k<;>simp[mB]⟩
  have he:es[0]?=some (es[0]'(by lia)):=Array.getElem?_eq_getElem (by lia);have xu:t.led=true:=by rw[S.led,hB];rfl
  refine SQ S hI (.inl ⟨0,rfl,?_⟩);unfold setNext;refine ab (wpAny_setState_of S.ob rfl S.fit ?_);unfold setsByText;refine ab (ab (wpAny_askSetting (ah ?_)));show wpAny _ _ (if w.params.followText "set-order" = true then _ else _) _ _ _;rw[hB];simp only[Bool.false_eq_true,if_false];show wpAny _ _ (if (!t.plain&&decide (es.size > 1))=true then _ else _) _ _ _;rw[ai (by simp;lia)];refine ab ?_;show wpAny _ _ (if (!t.led&&!es.isEmpty)=true then _ else _) _ _ _;rw[ai (by simp[xu])];refine ah ?_;show wpAny _ _ (pure (match es[SetTable.below t.place 0]?,t.place[SetTable.below t.place 0]? with | some (_,x),some j=>some (x,j+1) | _,_=>none)) _ _ _;rw[hj,fJ,ai (o5 _),he];refine ah ⟨rfl,.inl ⟨_,j+1,rfl,fun h' xf sb=>?_⟩⟩;refine hQ _ h' s.toks ⟨_,he,rfl⟩ ⟨?_,S.at fun o q=>sb.extBut _ _ c9 q⟩ fun b o hb e=>sb.extBut b o (fun z=>hb (by simp[z])) e
  rw[hj];exact xf
 done:=fun s Q E x hQ=>by
  obtain⟨hI,S⟩:=x;have mB:t.place.size=es.size:=by
   have:=S.fit;simp only[SetTable.fits,gh,beq_iff_eq]at this;exact this.1
  have xu:t.led=true:=by rw[S.led,hB];rfl
  refine SQ S hI (.inl ⟨_,rfl,?_⟩);unfold setNext;refine ab (wpAny_setState_of S.ob rfl S.fit ?_);unfold setsByText;refine ab (ab (wpAny_askSetting (ah ?_)));show wpAny _ _ (if w.params.followText "set-order" = true then _ else _) _ _ _;rw[hB];simp only[Bool.false_eq_true,if_false];show wpAny _ _ (if (!t.plain&&decide (es.size > 1))=true then _ else _) _ _ _;rw[ai (by simp;lia)];refine ab ?_;show wpAny _ _ (if (!t.led&&!es.isEmpty)=true then _ else _) _ _ _;rw[ai (by simp[xu])];refine ah ?_;have SG:es[SetTable.below t.place (if es.size=0 then 0 else t.place.getD 0 0+1)]?=none:=by
   by_cases h0:es.size=0
   ·have:t.place=#[]:=by apply Array.eq_empty_of_size_eq_zero;lia
    rw[this];simp[h0]
   ·obtain⟨j,hj⟩:∃j,t.place=#[j]:=⟨t.place[0]'(by lia),by apply lP;simp[List.ext_getElem?_iff,Array.getElem?_toList];intro k;rcases k with _ | k<;>simp<;>lia⟩
    rw[ai h0,hj,fJ];simp;lia
  show wpAny _ _ (pure (match es[SetTable.below t.place (if es.size=0 then 0 else t.place.getD 0 0+1)]?,t.place[SetTable.below t.place (if es.size=0 then 0 else t.place.getD 0 0+1)]? with | some (_,x),some j=>some (x,j+1) | _,_=>none)) _ _ _;rw[SG];exact ah ⟨rfl,.inr ⟨rfl,hA,fun h' hk=>hQ h' s.toks fun b o hb e=>hk b o (fun z=>hb (by simp[z])) e⟩⟩
 self:=fun _ _ _ _ x hQ=>gF x.1 hQ
end
end PySem
namespace PySem
section
variable{es:Array (Int×Value)}{ep:Nat}
def Qv(prog:Program)(w:World)(es:Array (Int×Value))(a I:Addr)(h':Heap)(n0:Nat):Prop:=∃(fp:List Addr) (P:Nat→Value→Prop) (St:Nat→Heap→Prop),(∀A:Around,A.handled=none→Walks prog w A I fp [I] es.size P St)∧St 0 h'∧(∀b∈fp,b<h'.objs.size)∧n0≤I∧(∀b∈fp,b=a∨n0≤b)∧(∀acc,ItemsOf P acc es.size→acc.toList.Perm (es.toList.map (·.2)))
theorem U5{P:Nat→Value→Prop}{acc:Array Value}{L:List Value}(h:ItemsOf P acc n)(hL:L.length=n)(hp:∀i v,P i v→L[i]?=some v):acc.toList=L:=by
 apply List.ext_getElem?;intro i
 by_cases hi:i<acc.size
 ·have e:acc[i]?=some acc[i]:=Array.getElem?_eq_getElem hi
  rw[Array.getElem?_toList,e];exact(hp i _ (h.2 i _ e)).symm
 ·have:=h.1
  rw[List.getElem?_eq_none (by rw[fR];lia),List.getElem?_eq_none (by lia)]
theorem LH(S:gE w s.heap a es ep t)(hle:es.size≤1000)(h:∀I h' d',Qv prog w es a I h' s.heap.objs.size→(∀b o,s.heap.get? b=some o→h'.get? b=some o)→h'.objs.size≤s.heap.objs.size+2→Q (.ref I) { s with heap:=h',drawn:=d' }):wpAny (model prog w) A (pyIter (.ref a)) Q E s:=by
 have hT:s.TypeIs (.ref a) "set":=⟨_,S.ob,rfl⟩
 have bx:=bg S.ob;refine wpAny_pyIter_slot hT F.slot_set_iter (gn F.slot_set_iter hT F.Ww ?_ (F.args_set_iter_1 _));unfold Builtin.«frozenset.__iter__»;refine ab (wpAny_of_eq (a:=a) rfl ?_);unfold Builtin.Frozenset.sizeOf;refine ab (ab (wpAny_setEntries_of S.ob rfl S.fit (ah ?_)));have plain:∀(B:Bool),w.params.followText "set-order" = B→(B=true∨es.size≤1)→∀d':Drawn,wpAny (model prog w) A.in1 (newFields "set_iterator" [rawInt 0,rawInt 0,.ref a,rawInt es.size,rawInt ep] >>= fun it=>ret it) (fun fin s'=>∃v,fin=Fin.done (.ret v)∧∃T m,s'.TypeIs v T∧typeLookup (.type T) "__next__" = pure (some m)∧Q v s') E { s with drawn:=d' }:=by
  intro B hB xy d';unfold newFields;refine ab (iL (ah ⟨_,rfl,"set_iterator",_,⟨_,c8 _ rfl,rfl⟩,F.yp.lookup,?_⟩));have hI:oD (s.heap.push { cls:=.type "set_iterator",data:=.fields #[rawInt 0,rawInt 0,.ref a,rawInt es.size,rawInt ep] }) s.heap.objs.size (rawInt 0) 0 a es.size ep:=c8 _ rfl;have kp:∀b o,s.heap.get? b=some o→(s.heap.push { cls:=.type "set_iterator",data:=.fields #[rawInt 0,rawInt 0,.ref a,rawInt es.size,rawInt ep] }).get? b=some o:=fun b o e=>cz _ e
  have hz:(s.heap.push { cls:=.type "set_iterator",data:=.fields #[rawInt 0,rawInt 0,.ref a,rawInt es.size,rawInt ep] }).objs.size=s.heap.objs.size+1:=kq ..;have zy:∀b∈[s.heap.objs.size,a],b<(s.heap.push { cls:=.type "set_iterator",data:=.fields #[rawInt 0,rawInt 0,.ref a,rawInt es.size,rawInt ep] }).objs.size:=fun b hb=>by
   rw[hz];rcases cg hb with q | q
   ·rw[q];exact sf _
   ·rw[fg q];exact k0 bx
  have HH:∀b∈[s.heap.objs.size,a],b=a∨s.heap.objs.size≤b:=fun b hb=>by
   rcases cg hb with q | q
   ·exact .inr (by rw[q];exact aT _)
   ·exact .inl (fg q)
  refine h _ _ d' ?_ kp (by rw[hz];exact qq _);cases B with
  | true=>
   refine⟨_,_,_,fun A hA=>Walks.Wq (t:=t) hB hA (b0 bx),⟨⟨0,hI⟩,S.at fun o q=>kp _ _ q⟩,zy,aT _,HH,fun acc gS=>?_⟩;have hp:=QD (w.params.setOrder a ep) es;rw[U5 (L:=(pickOrder (w.params.setOrder a ep) es).toList.map (·.2)) gS (by rw[a9,hp.length_eq,fR]) fun i v ⟨e,q1,q2⟩=>by rw[eS,Array.getElem?_toList,q1,q2];rfl];exact hp.map _
  | false=>
   have h1:es.size≤1:=by
    rcases xy with q | q
    ·cases q
    ·exact q
   refine⟨_,_,_,fun A hA=>Walks.Wo (t:=t) hB hA (b0 bx) h1,⟨hI,S.at fun o q=>kp _ _ q⟩,zy,aT _,HH,fun acc gS=>?_⟩;rw[U5 (L:=es.toList.map (·.2)) gS (by simp) fun i v ⟨e,q1,q2⟩=>by rw[eS,Array.getElem?_toList,q1,q2];rfl]
 refine ab ?_;unfold setDrawn;refine ab (wpAny_setState_of S.ob rfl S.fit ?_);unfold setsByText;refine ab (ab (wpAny_askSetting (ah (ah ?_))));show wpAny _ _ (if (!w.params.followText "set-order"&&(!t.plain&&decide (es.size > 1)))=true then _ else _) _ _ _
 by_cases hd:(!w.params.followText "set-order"&&(!t.plain&&decide (es.size > 1)))=true
 ·rw[ag hd]
  refine ab (bG es.size _ _ _ (by simp) fun ys d' hp=>?_);refine ab (wpAny_newTuple (hsz:=by rw[a9,hp.length_eq,List.length_range];exact eR hle (by decide)) ?_);generalize C9:s.heap.push { cls:=.type "tuple",data:=.seq (ys.map fun(p:Nat)=>rawInt p).toArray }=H1;have Ja:∀b o,s.heap.get? b=some o→H1.get? b=some o:=fun b o e=>by rw[←C9];exact cz _ e
  have xh:H1.IsTuple s.heap.objs.size (ys.map fun(p:Nat)=>rawInt p).toArray:=by rw[←C9];exact⟨_,c8 _ rfl,rfl,_,rfl⟩
  have qa:H1.objs.size=s.heap.objs.size+1:=by rw[←C9];exact kq ..
  have S1:gE w H1 a es ep t:=S.at fun o q=>Ja _ _ q
  refine ab (wpAny_setEpoch_of (s:={ s with heap:=H1,drawn:=d' }) S1.ob rfl S.fit ?_);unfold newFields;refine ab (iL (ah ⟨_,rfl,"set_iterator",_,⟨_,c8 _ rfl,rfl⟩,F.yp.lookup,?_⟩));generalize Ab:H1.push { cls:=.type "set_iterator",data:=.fields [.ref s.heap.objs.size,rawInt 0,.ref a,rawInt es.size,rawInt ep].toArray }=H2;have Ej:∀b o,H1.get? b=some o→H2.get? b=some o:=fun b o e=>by rw[←Ab];exact cz _ e
  have hI:oD H2 H1.objs.size (.ref s.heap.objs.size) 0 a es.size ep:=by rw[←Ab];exact c8 _ rfl
  have AD:H2.objs.size=s.heap.objs.size+2:=by rw[←Ab,kq,qa]
  refine h _ H2 d' ⟨_,_,_,fun A hA=>Walks.Wn (t:=t) hA (T:=s.heap.objs.size) (by rw[qa];exact b0 (k0 bx)) (by rw[qa];exact b0 (sf _)) hp,⟨hI,S1.at fun o q=>Ej _ _ q,let ⟨o,e,c⟩:=xh;⟨o,Ej _ _ e,c⟩⟩,fun b hb=>?_,by rw[qa];exact qq _,fun b hb=>?_,fun acc gS=>?_⟩ (fun b o e=>Ej b o (Ja b o e)) (by rw[AD];exact aT _)
  ·rw[AD]
   simp only[List.mem_cons,List.not_mem_nil,or_false]at hb;rcases hb with rfl | rfl | rfl
   ·rw[qa];exact sf _
   ·exact k0 (k0 bx)
   ·exact k0 (sf _)
  ·simp only[List.mem_cons,List.not_mem_nil,or_false]at hb
   rcases hb with rfl | rfl | rfl
   ·right;rw[qa];exact qq _
   ·exact .inl rfl
   ·exact .inr (aT _)
  ·have hl:ys.length=es.size:=by rw[hp.length_eq,List.length_range]
   rw[U5 (L:=ys.map fun p=>(es.toList.map (·.2)).getD p .none) gS (by rw[a9,hl]) fun i v af=>by
    obtain⟨p,e,q1,q2,q3⟩:=af;rw[eS,q1,q3];have:(es.toList.map (·.2))[p]?=some e.2:=by rw[eS,Array.getElem?_toList,q2];rfl
    simp only[i8,List.getD_eq_getElem?_getD,this,Option.getD_some]]
   refine(hp.map _).trans ?_;have:(List.range es.size).map (fun p=>(es.toList.map (·.2)).getD p Value.none)=es.toList.map (·.2):=by
    apply List.ext_getElem?;intro i
    by_cases hi:i<es.size
    ·rw[eS,List.getElem?_range hi]
     simp[List.getD_eq_getElem?_getD,hi]
    ·rw[List.getElem?_eq_none (by simp;lia),List.getElem?_eq_none (by simp;lia)]
   rw[this]
 ·rw[ai hd]
  refine ab (ah (ab (wpAny_setEpoch_of S.ob rfl S.fit ?_)));refine plain _ rfl ?_ s.drawn;cases hB:w.params.followText "set-order" with
  | true=>exact .inl rfl
  | false=>
   refine .inr ?_;rw[hB]at hd;refine Classical.byContradiction fun q=>hd ?_
   have:=S.pl (by lia);simp[this];lia
end
end PySem
namespace PySem
section
variable{es:Array (Int×Value)}{ep:Nat}
theorem Lp(S:gE w h a es ep t)(hs:s.heap=h){Q:Bool→Shared→Prop}(q:Q false s):wpAny (model prog w) A (Builtin.List.listLengthHint (.ref a)) Q E s:=by
 have hT:s.TypeIs (.ref a) "set":=⟨_,by rw[hs];exact S.ob,rfl⟩
 unfold Builtin.List.listLengthHint;refine ab (wpAny_specialOf hT F.slot_set_len.lookup ?_);generalize qV:("set.__len__" : String)=xS
 wp_delta
 rw[show splitId xS=some ("set","__len__") from by subst qV;decide +kernel];subst qV;refine ab (wpAny_isInstance (T:="set") (b:=true) hT sub_set_self ?_);refine wpAny_ite_split (fun fc=>absurd fc (by decide)) (fun _=>?_);refine wpAny_ite_split (fun _=>?_) (fun fc=>absurd (by decide +kernel) fc);exact ab (wpAny_typeOf hT (ah q))
theorem o8(S:gE w s.heap a es ep t)(hle:es.size≤1000)(hh:A.handled=none){R:List Value→Shared→Prop}(h:∀(h':Heap) (tk:Nat) (d':Drawn) (acc:Array Value),(∀b o,s.heap.get? b=some o→h'.get? b=some o)→acc.toList.Perm (es.toList.map (·.2))→R acc.toList { s with heap:=h',toks:=tk,drawn:=d' }) :
  wpAny (model prog w) A (collect (.ref a)) R E s:=by
 have bx:=bg S.ob;unfold collect;refine ab (wpAny_runValue (kl PyProof.Rows.entry_proto_collect' ?_));rw[k8 PySem.F.plain_proto_collect _];show wpAny _ A.in1 (newList [] >>= fun l=>again (.builtin "list.__iadd__" ⟨[l,.ref a],[]⟩)) _ _ s;refine ab (iL ?_);refine ah ⟨plainId_quiet PySem.F.plain_list_iadd _,kl PyProof.Rows.entry_list_iadd' ?_⟩;rw[k8 PySem.F.plain_list_iadd _];show wpAny _ A.in1 (Builtin.List.listExtendWith (.ref s.heap.objs.size) (.ref a) (.ref s.heap.objs.size)) _ _ _;generalize hH:s.heap.push { cls:=.type "list",data:=.seq ([]:List Value).toArray }=H1;have hL:H1.get? s.heap.objs.size=some { cls:=.type "list",data:=.seq #[] }:=by rw[←hH];exact c8 _ rfl
 have k1:∀b o,s.heap.get? b=some o→H1.get? b=some o:=fun b o e=>by rw[←hH];exact cz _ e
 have qa:H1.objs.size=s.heap.objs.size+1:=by rw[←hH];exact kq ..
 have S1:gE w H1 a es ep t:=S.at fun o q=>k1 _ _ q
 unfold Builtin.List.listExtendWith;refine ab (wpAny_typeOf (T:="set") ⟨_,S1.ob,rfl⟩ ?_);rw[ai (by simp[Builtin.List.listSameRef,i7 bx])];refine ab (LH (s:={ s with heap:=H1 }) S1 hle fun I h2 d' ⟨fp,P,St,W,st,Yc,TZ,xy,iu⟩ k2 _=>?_);have uu:s.heap.objs.size∉fp:=fun hm=>by
  rcases xy _ hm with q | q
  ·exact absurd q (i7 bx)
  ·have:H1.objs.size≤s.heap.objs.size:=q
   rw[qa]at this;exact absurd this (Nat.not_succ_le_self _)
 have hI:s.heap.objs.size<I:=by
  have:H1.objs.size≤I:=TZ;rw[qa]at this;exact this
 have Dc:h2.get? s.heap.objs.size=some { cls:=.type "list",data:=.seq #[] }:=k2 _ _ hL;have S2:gE w h2 a es ep t:=S1.at fun o q=>k2 _ _ q
 have key:∀(h3:Heap) (c:Nat),St 0 h3→(∀b o,b≠s.heap.objs.size→h2.get? b=some o→h3.get? b=some o)→h3.get? s.heap.objs.size=some { cls:=.type "list",data:=.seq #[] c }→
   codeAny (model prog w) A (.builtin "list.extend.loop" ⟨[.ref s.heap.objs.size,.ref I,.ref s.heap.objs.size],[]⟩) (fun r cx=>match r with | .ok (.ret v)=>wpAny (model prog w) A (match v with | .ref x=>load x >>= fun o=>(match o.data with | .seq xs _=>pure xs.toList | _=>unsupported "internal:collect") | _=>unsupported "internal:collect") R E cx | .ok _=>False | .error e=>E e cx) { s with heap:=h3,drawn:=d' }:=by
  intro h3 c AY k3 Ac;refine codeAny_extend_loopS ((W A.in1 (by simp[hh])).toS) (eR hle (by decide)) _ uu _ es.size 0 _ #[] c rfl (eM _) AY Ac (ItemsOf.nil _) fun s' gN cw hm md gS=>?_
  rw[Moved.eq_with hm];show wpAny _ A (load s.heap.objs.size >>= _) _ _ _;refine ab (wpAny_load md (ah (h s'.heap s'.toks d' gN (fun b o e=>?_) (iu gN gS))));have hb:b<s.heap.objs.size:=bg e;refine hm.heap b o (fun z=>?_) (k3 b o (b0 hb) (k2 b o (k1 b o e)));rcases cg z with z | z
  ·exact absurd z (b0 hb)
  ·rw[fg z]at hb
   exact absurd (Nat.lt_trans hI hb) (gp _)
 refine ab (gX (Lp (s:={ s with heap:=h2,drawn:=d' }) S2 rfl ?_));refine wpAny_ite_split (fun _=>?_) (fun _=>ah ⟨plainId_quiet PySem.F.plain_extend_loop _,key h2 0 st (fun b o _ e=>e) Dc⟩);refine ab (jn ?_);refine ab ?_;show wpAny _ _ (updateSeq s.heap.objs.size (·.push .none) >>= fun _=>updateSeq s.heap.objs.size (·.pop)) _ _ _;refine ab (wpAny_updateSeq (s:={ s with heap:=h2,drawn:=d' }) Dc rfl ?_);have Ac:=o4 (Obj.mapSeq (·.push Value.none)) Dc rfl;refine wpAny_updateSeq (hz:=by seq_fits) Ac rfl ?_;have Sr:=o4 (Obj.mapSeq (·.pop)) Ac rfl;have k4:∀b o,b≠s.heap.objs.size→h2.get? b=some o→((h2.update s.heap.objs.size (Obj.mapSeq (·.push Value.none))).update s.heap.objs.size (Obj.mapSeq (·.pop))).get? b=some o:=fun b o hb e=>(Heap.get?_update_other _ _ (Ne.symm hb)).trans ((Heap.get?_update_other _ _ (Ne.symm hb)).trans e)
 exact ah ⟨plainId_quiet PySem.F.plain_extend_loop _,key _ _ ((W A hh).frame 0 _ _ st fun b hb o e=>k4 b o (fun z=>uu (z▸hb)) e) k4 Sr⟩
end
end PySem
namespace L2
open PySem PySem.Spec PyProof.Rows
theorem Inv.drawn{pi:List (Addr×Obj)}{σ:St}{H:Hp}{s:Shared}(I:Inv X pi σ H s)(d':Drawn):Inv X pi σ H { s with drawn:=d' }:=
 I.step (h':=s.heap) (t':=s.toks) (g':=s.gens) (d':=d') (ch:=[]) (fun _ z=>nomatch z) (fun b o _ _ _ e _=>e) (fun b o _ _ _ e _=>⟨o.slots,e⟩) (fun _ _ _ _ n=>n) (fun b o _ e=>⟨o,e⟩) (fun _ _ e=>e) (fun _ _ _ e=>e) (fun b ps e=>⟨#[],by rw[e];simp⟩) (fun m hm=>hm) I.az I.bare
end L2
namespace PySem.W
open PyProof.Rows
theorem KasT.vo{α β:Type}{n:Nat}{f:Nat→Nat→Bool}{k:α→KasT β}:∀t:KasT α,(t.bind k).eK n f=(t.eK n f).bind fun a=>(k a).eK n f
 | .ret a=>rfl
 | .ask i j q=>by
  show (if i<n∧j<n then ((q (f i j)).bind k).eK n f else none)=(if i<n∧j<n then (q (f i j)).eK n f else none).bind _;split
  ·exact KasT.vo _
  ·rfl
theorem KasT.ym{α:Type}{f:Nat→Nat→Bool}{k:Bool→KasT α}(hi:i<n)(hj:j<n):(KasT.ask i j k).eK n f=(k (f i j)).eK n f:=ag ⟨hi,hj⟩
structure Ord(n:Nat)(f:Nat→Nat→Bool):Prop where
 kX:∀i j,i<n→j<n→i≠j→f j i=!f i j
 tr:∀i j k,i<n→j<n→k<n→f i j=true→f j k=true→f i k=true
def ff(n:Nat)(p:Array Nat):Prop:=p.toList.Perm (List.range n)
noncomputable def gI(p:Array Nat)(i:Nat):Nat:=p.getD i 0
section
variable{f:Nat→Nat→Bool}{p:Array Nat}
theorem ff.size(h:ff n p):p.size=n:=by
 have:=h.length_eq;simpa using this
theorem ff.get(h:ff n p)(hi:i<n):p[i]?=some (gI p i):=by
 have hs:i<p.size:=by rw[h.size];exact hi
 unfold gI;rw[Array.getD_eq_getD_getElem?,Array.getElem?_eq_getElem hs];rfl
theorem ff.lt(h:ff n p)(hi:i<n):gI p i<n:=by
 have e:=h.get hi;have:gI p i∈p.toList:=by
  rw[←Array.getElem?_toList]at e;exact jw e
 exact List.mem_range.mp (h.mem_iff.mp this)
theorem ff.inj(h:ff n p)(hi:i<n)(hj:j<n)(e:gI p i=gI p j):i=j:=by
 have hn:p.toList.Nodup:=h.nodup_iff.mpr List.nodup_range;have e1:=h.get hi;have e2:=h.get hj;rw[←Array.getElem?_toList]at e1 e2;rw[e]at e1;exact(List.getElem?_inj (by rw[fR,h.size];exact hi) hn).mp (e1.trans e2.symm)
def Up(f:Nat→Nat→Bool)(p:Array Nat)(b:Nat):Prop:=∀i j,i<j→j<b→f (gI p i) (gI p j)=true
def Dn(f:Nat→Nat→Bool)(p:Array Nat)(b:Nat):Prop:=∀i j,i<j→j<b→f (gI p j) (gI p i)=true
theorem flip(O:Ord n f)(h:ff n p)(hi:i<n)(hj:j<n)(c9:i≠j)(e:f (gI p i) (gI p j)=false):f (gI p j) (gI p i)=true:=by
 rw[O.kX _ _ (h.lt hi) (h.lt hj) fun q=>c9 (h.inj hi hj q),e];rfl
theorem Lk(O:Ord n f)(h:ff n p){m:Nat}(hm:1≤m)(hn:m<n)(u:Up f p m)(e:f (gI p (m-1)) (gI p m)=true):Up f p (m+1):=by
 intro i j gu hj
 by_cases DA:j<m
 ·exact u i j gu DA
 ·obtain rfl:j=m:=by lia
  by_cases Dz:i=j-1
  ·subst Dz;exact e
  ·exact O.tr _ _ _ (h.lt (by lia)) (h.lt (by lia)) (h.lt hn) (u i (j-1) (by lia) (by lia)) e
theorem rR(O:Ord n f)(h:ff n p){m:Nat}(hm:1≤m)(hn:m<n)(u:Dn f p m)(e:f (gI p m) (gI p (m-1))=true):Dn f p (m+1):=by
 intro i j gu hj
 by_cases DA:j<m
 ·exact u i j gu DA
 ·obtain rfl:j=m:=by lia
  by_cases Dz:i=j-1
  ·subst Dz;exact e
  ·exact O.tr _ _ _ (h.lt hn) (h.lt (by lia)) (h.lt (by lia)) e (u i (j-1) (by lia) (by lia))
theorem pR(O:Ord n f)(h:ff n p):∀(fu m:Nat),1≤m→m+fu=n→Up f p m→∃r,(kas_asc p fu m).eK n f=some r∧m≤r∧r≤n∧Up f p r∧(r<n→f (gI p r) (gI p (r-1))=true)
 | 0,m,hm,e,u=>⟨m,rfl,aT _,by lia,u,fun q=>by lia⟩
 | fu+1,m,hm,e,u=>by
  have e1:(kas_asc p (fu+1) m).eK n f=_:=KasT.ym (h.lt (show m<n by lia)) (h.lt (show m-1<n by lia));cases c:f (gI p m) (gI p (m-1)) with
  | true=>
   refine⟨m,?_,aT _,by lia,u,fun _=>c⟩;rw[e1,show f (p.getD m 0) (p.getD (m-1) 0)=true from c,ag rfl];rfl
  | false=>
   obtain⟨r,h1,h2,h3,h4,h5⟩:=pR O h fu (m+1) (by lia) (by lia) (Lk O h hm (by lia) u (flip O h (by lia) (by lia) (by lia) c));refine⟨r,?_,by lia,h3,h4,h5⟩;rw[e1,show f (p.getD m 0) (p.getD (m-1) 0)=false from c,ai (by decide)];exact h1
theorem rT(O:Ord n f)(h:ff n p):∀(fu m:Nat),1≤m→m+fu=n→Dn f p m→∃r,(kas_desc fu p m 0).eK n f=some (p,r,0)∧m≤r∧r≤n∧Dn f p r
 | 0,m,hm,e,u=>⟨m,rfl,aT _,by lia,u⟩
 | fu+1,m,hm,e,u=>by
  have e1:(kas_desc (fu+1) p m 0).eK n f=_:=KasT.ym (h.lt (show m<n by lia)) (h.lt (show m-1<n by lia));cases c:f (gI p m) (gI p (m-1)) with
  | true=>
   obtain⟨r,h1,h2,h3,h4⟩:=rT O h fu (m+1) (by lia) (by lia) (rR O h hm (by lia) u c);refine⟨r,?_,by lia,h3,h4⟩;rw[e1,show f (p.getD m 0) (p.getD (m-1) 0)=true from c,ag rfl,ai (by lia)];exact h1
  | false=>
   have cw:=flip O h (by lia) (by lia) (by lia) c;refine⟨m,?_,aT _,by lia,u⟩;rw[e1,show f (p.getD m 0) (p.getD (m-1) 0)=false from c,ai (by decide),KasT.ym (show p.getD (m-1) 0<n from h.lt (show m-1<n by lia)) (show p.getD m 0<n from h.lt (show m<n by lia)),show f (p.getD (m-1) 0) (p.getD m 0)=true from cw,ag rfl];rfl
theorem jY(h:ff n p)(i j:Nat):ff n (kas_rev p i j):=(Array.Perm.toList (mirror_perm p i j _)).trans h
theorem qP(h:ff n p)(hj:j≤n){k:Nat}(hk:k<n):gI (kas_rev p 0 j) k=if k<j then gI p (j-1-k) else gI p k:=by
 have e:=getElem?_mirror_all (xs:=p) (i:=0) (j:=j) (by rw[h.size];exact hj) k;have e1:=(jY h 0 j).get hk;rw[show (mirror p 0 j ((j-0) / 2))[k]?=some (gI (kas_rev p 0 j) k) from e1]at e
 by_cases q:k<j
 ·rw[ag ⟨eM _,q⟩,show 0+j-1-k=j-1-k by lia,h.get (by lia)]at e
  rw[ag q];exact cE e
 ·rw[ai (fun z=>q z.2),h.get hk]at e
  rw[ai q];exact cE e
theorem La(O:Ord n f)(h:ff n p)(h2:2≤n):∃r f6,(kas_count n p).eK n f=some (r,f6)∧ff n f6∧1≤r∧r≤n∧Up f f6 r:=by
 obtain⟨m,a1,a2,a3,a4,a5⟩:=pR O h (n-1) 1 (aT _) (by lia) (fun i j _ _=>by lia);have e0:(kas_count n p).eK n f=_:=KasT.vo _;rw[a1,bq]at e0
 by_cases Iy:m=n
 ·refine⟨m,p,?_,h,by lia,by lia,a4⟩
  rw[e0,ag (by simp[Iy])];rfl
 ·rw[ai (by simpa using Iy)]at e0
  by_cases hJ:m > 1
  ·refine⟨m,p,?_,h,by lia,by lia,a4⟩
   rw[e0,ag hJ,KasT.ym (show p.getD 0 0<n from h.lt (show 0<n by lia)) (show p.getD (m-1) 0<n from h.lt (show m-1<n by lia)),show f (p.getD 0 0) (p.getD (m-1) 0)=true from a4 0 (m-1) (by lia) (by lia),ag rfl];rfl
  ·obtain rfl:m=1:=by lia
   rw[ai hJ]at e0;have c:=a5 (by lia);obtain⟨r,d1,d2,d3,d4⟩:=rT O h (n-2) 2 (by lia) (by lia) (rR O h (aT _) (by lia) (fun i j _ _=>by lia) c);have e1:(kas_descPart 1 n p).eK n f=_:=KasT.vo _;rw[show n-(1+1)=n-2 by lia,d1,bq,ai (show ¬(0 > 0) by lia)]at e1;have hp:=jY h 0 r;have hu:Up f (kas_rev p 0 r) r:=fun i j gu hj=>by
    rw[qP h d3 (show i<n by lia),qP h d3 (show j<n by lia),ag (by lia),ag hj];exact d4 _ _ (by lia) (by lia)
   obtain⟨m2,b1,b2,b3,b4,_⟩:=pR O hp (n-r) r (by lia) (by lia) hu;have e2:(kas_tail3 r n p).eK n f=_:=KasT.vo _;rw[b1,bq]at e2;exact⟨m2,kas_rev p 0 r,by rw[e0,e1,e2];rfl,hp,by lia,b3,b4⟩
theorem aD(O:Ord n f)(h:ff n p){k:Nat}(hk:k<n)(u:Up f p k):∀(fu l r:Nat),l≤r→r≤k→r-l≤fu→(∀i,i<l→f (gI p i) (gI p k)=true)→(∀i,r≤i→i<k→f (gI p k) (gI p i)=true)→
  ∃x,(kas_place p k fu l r).eK n f=some x∧x≤k∧(∀i,i<x→f (gI p i) (gI p k)=true)∧(∀i,x≤i→i<k→f (gI p k) (gI p i)=true)
 | 0,l,r,h1,h2,h3,h4,h5=>by
  obtain rfl:l=r:=by lia
  exact⟨l,rfl,h2,h4,h5⟩
 | fu+1,l,r,h1,h2,h3,h4,h5=>by
  by_cases q:l≥r
  ·obtain rfl:l=r:=by lia
   refine⟨l,?_,h2,h4,h5⟩;unfold kas_place;rw[ag q];rfl
  ·have e1:(kas_place p k (fu+1) l r).eK n f=(if f (gI p k) (gI p ((l+r) / 2))=true then kas_place p k fu l ((l+r) / 2) else kas_place p k fu ((l+r) / 2+1) r).eK n f:=by
    rw[kas_place,ai q];exact KasT.ym (h.lt hk) (h.lt (show (l+r) / 2<n by lia))
   cases c:f (gI p k) (gI p ((l+r) / 2)) with
   | true=>
    obtain⟨x,z1,z2⟩:=aD O h hk u fu l ((l+r) / 2) (by lia) (by lia) (by lia) h4 (fun i hi Ts=>by
     by_cases e:i=(l+r) / 2
     ·subst e;exact c
     ·exact O.tr _ _ _ (h.lt hk) (h.lt (by lia)) (h.lt (by lia)) c (u _ _ (by lia) Ts))
    exact⟨x,by rw[e1,c,ag rfl];exact z1,z2⟩
   | false=>
    have cw:=flip O h hk (by lia) (by lia) c;obtain⟨x,z1,z2⟩:=aD O h hk u fu ((l+r) / 2+1) r (by lia) (by lia) (by lia) (fun i hi=>by
     by_cases e:i=(l+r) / 2
     ·subst e;exact cw
     ·exact O.tr _ _ _ (h.lt (by lia)) (h.lt (by lia)) (h.lt hk) (u _ _ (by lia) (by lia)) cw) h5
    exact⟨x,by rw[e1,c,ai (by decide)];exact z1,z2⟩
theorem sZ(h:ff n p){k d:Nat}(hk:k<n)(hd:d≤k)(hi:i<n):gI (bubble p k d) i=if i=k-d then gI p k else if k-d<i∧i≤k then gI p (i-1) else gI p i:=by
 have e:=getElem?_bubble (xs:=p) (src:=k) (by rw[h.size];exact hk) d hd i;have hp:ff n (bubble p k d):=(Array.Perm.toList (bubble_perm p k d)).trans h;rw[hp.get hi]at e
 by_cases q:i=k-d
 ·rw[ag q,h.get hk]at e
  rw[ag q];exact cE e
 ·rw[ai q]at e ⊢
  by_cases q2:k-d<i∧i≤k
  ·rw[ag q2,h.get (by omega)]at e
   rw[ag q2];exact cE e
  ·rw[ai q2,h.get hi]at e
   rw[ai q2];exact cE e
theorem Fo(O:Ord n f):∀(fu:Nat) (p:Array Nat) (k:Nat),ff n p→k+fu=n→Up f p k→∃f6,(kas_bin fu p k).eK n f=some f6∧ff n f6∧Up f f6 n
 | 0,p,k,h,e,u=>⟨p,rfl,h,by rw[←e];exact u⟩
 | fu+1,p,k,h,e,u=>by
  have hk:k<n:=by lia
  obtain⟨l,z1,z2,z3,z4⟩:=aD O h hk u k 0 k (eM _) (aT _) (by lia) (fun i hi=>by lia) (fun i hi Il=>by lia);have hp:ff n (bubble p k (k-l)):=(Array.Perm.toList (bubble_perm p k _)).trans h;have hu:Up f (bubble p k (k-l)) (k+1):=fun i j gu hj=>by
   rw[sZ h hk (by lia) (show i<n by lia),sZ h hk (by lia) (show j<n by lia),show k-(k-l)=l by lia]
   by_cases h1:i=l
   ·subst h1
    rw[ag rfl,ai (by lia),ag (by lia)];exact z4 _ (by lia) (by lia)
   ·rw[ai h1]
    by_cases h2:l<i∧i≤k
    ·rw[ag h2,ai (by lia),ag (by lia)]
     exact u _ _ (by lia) (by lia)
    ·rw[ai h2]
     by_cases h3:j=l
     ·rw[ag h3];exact z3 _ (by lia)
     ·rw[ai h3]
      by_cases h4:l<j∧j≤k
      ·rw[ag h4];exact u _ _ (by lia) (by lia)
      ·rw[ai h4];exact u _ _ gu (by lia)
  obtain⟨f6,w1,w2⟩:=Fo O fu (bubble p k (k-l)) (k+1) hp (by lia) hu;refine⟨f6,?_,w2⟩;have e1:(kas_bin (fu+1) p k).eK n f=_:=KasT.vo _;rw[e1,z1,bq];exact w1
theorem Mk{l:List Nat}(h:∀(i j x y:Nat),i<j→l[i]?=some x→l[j]?=some y→f x y=true):l.Pairwise (fun a b=>f a b=true):=by
 rw[List.pairwise_iff_getElem];intro i j hi hj gu;exact h i j _ _ gu (fo hi) (fo hj)
theorem WA(h2:2≤n)(O:Ord n f):∃p,(kas_sort n).eK n f=some p∧p.toList.Perm (List.range n)∧p.toList.Pairwise (fun a b=>f a b=true):=by
 have h0:ff n (List.toArray (List.range n)):=List.Perm.refl _;obtain⟨r,f6,c1,c2,c3,c4,c5⟩:=La O h0 h2;have e0:(kas_sort n).eK n f=_:=KasT.vo _;rw[c1,bq]at e0;have fin:∀q:Array Nat,ff n q→Up f q n→q.toList.Pairwise (fun a b=>f a b=true):=fun q hq hu=>Mk fun i j x y gu hx hy=>by
  have hj:j<n:=by
   have:=List.getElem?_eq_some_iff.mp hy;obtain⟨hj,_⟩:=this;rw[fR,hq.size]at hj;exact hj
  rw[Array.getElem?_toList,hq.get (by lia)]at hx;rw[Array.getElem?_toList,hq.get hj]at hy;cases hx;cases hy;exact hu i j gu hj
 by_cases hr:r<n
 ·rw[ag hr,show max r 1=r by lia]at e0
  obtain⟨q,w1,w2,w3⟩:=Fo O (n-r) f6 r c2 (by lia) c5;exact⟨q,by rw[e0];exact w1,w2,fin q w2 w3⟩
 ·rw[ai hr]at e0
  obtain rfl:r=n:=by lia
  exact⟨f6,by rw[e0];rfl,c2,fin f6 c2 c5⟩
end
end PySem.W
namespace PySem
def kg(h:Heap)(d:Addr)(es:Array DictEntry)(ep:Nat):Prop:=∃o,h.get? d=some o∧o.ExactDict∧o.data=.dict es ep
section
variable{d:Addr}{es:Array DictEntry}{ep:Nat}
theorem kg.typeIs(x:kg s.heap d es ep):s.TypeIs (.ref d) "dict":=by
 obtain⟨o,ho,he,_⟩:=x;exact⟨o,ho,he.1⟩
theorem kg.lt(x:kg h d es ep):d<h.objs.size:=by
 obtain⟨_,ho,_⟩:=x;exact bg ho
theorem kg.at(x:kg h d es ep)(hk:∀o,h.get? d=some o→h'.get? d=some o):kg h' d es ep:=by
 obtain⟨o,ho,r⟩:=x;exact⟨o,hk o ho,r⟩
theorem KA(hd:(d==sysModules)=false)(hm:kg s.heap d es ep)(hQ:Q (.ref s.heap.objs.size) { s with heap:=s.heap.push { cls:=.type "dict_keyiterator",data:=.fields #[.ref d,.int 0 0,.int es.size 0,.int ep 0] } }):wpAny (model prog w) A (pyIter (.ref d)) Q E s:=by
 have hT:=hm.typeIs;obtain⟨o,ho,_,fA⟩:=hm;refine wpAny_pyIter_slot hT F.slot_dict_iter (gn F.slot_dict_iter hT F.entry_dict_iter ?_ (F.args_dict_iter_1 _));unfold Builtin.«dict.__iter__»;refine ab ?_;unfold Builtin.Dict.dictSlotNone;refine ab (wpAny_notOrdered_dict hT ?_);show wpAny _ _ (pure (Value.ref d)) _ _ s;refine ah ?_;show wpAny _ _ (Builtin.Dict.showsAll d >>= _) _ _ s;unfold Builtin.Dict.showsAll;rw[ai (by rw[hd];exact dE)];refine ab (ah ?_);refine ab (wpAny_dictEntries ho fA ?_);refine ab (wpAny_dictEpoch ho fA ?_);exact ab (iL (ah ⟨_,rfl,"dict_keyiterator",_,⟨_,c8 _ rfl,rfl⟩,F.slot_dict_keyiterator_next.lookup,hQ⟩))
theorem Ku{e:DictEntry}{Q:Option Value→Shared→Prop}(hit:s.heap.IsKeyIter it d i es.size ep)(hm:kg s.heap d es ep)(hx:es[i]?=some e)(hQ:∀h',h'.IsKeyIter it d (i+1) es.size ep→Heap.SameBut it s.heap h'→Q (some e.key) { s with heap:=h' }):wpAny (model prog w) A (pyNext (.ref it)) Q E s:=by
 obtain⟨o,ho,hc,hd⟩:=id hit;obtain⟨od,ky,jj,mf⟩:=hm;unfold pyNext;refine ab (wpAny_attempt (wpAny_callSpecial?_slot (name:=Str.ofString "__next__") hit.typeIs F.slot_dict_keyiterator_next
  (gn F.slot_dict_keyiterator_next hit.typeIs F.entry_dict_keyiterator_next ?_ (F.args_dict_keyiterator_next_1 _))))
 refine ab (ah ?_);refine ab ?_;refine ab ?_
 first | refine ab (wpAny_typeNameOfWhole_keyiter hit.typeIs (ah ?_)) | refine ab (wpAny_typeNameOf_keyiter hit.typeIs (ah ?_))
 refine ab (wpAny_fieldsOf ho hd ?_);have uS:Builtin.Dict_items.ownsTuple "dict_keyiterator" = false:=by decide
 simp only[uS,Bool.false_eq_true,if_false];show wpAny _ _ (if (Value.ref d==Value.none)=true then _ else _) _ _ s;rw[ai (show ¬((Value.ref d==Value.none)=true) from dE)];refine ab (ah ?_);refine ab (wpAny_dictEntries ky mf ?_);rw[ai (by simp)];refine ab (ah ?_);refine ab (wpAny_dictEpoch ky mf ?_);rw[ai (by simp)];refine ah ?_;obtain⟨bx,he⟩:=Array.getElem?_eq_some_iff.mp hx;simp only[show ¬((i:Int)<0) from by lia,if_false,Int.toNat_natCast,Array.getElem?_eq_getElem bx];refine ab ?_
 first | refine ab (wpAny_typeNameOfWhole_keyiter hit.typeIs (ah ?_)) | refine ab (wpAny_typeNameOf_keyiter hit.typeIs (ah ?_))
 refine ab (wpAny_isOneOf_keyiter hit.typeIs ?_);show wpAny _ _ (setField (.ref it) 1 (rawInt ((i:Int)+1)) >>= _) _ _ s;refine ab (wpAny_setField ho hd (by simp) ?_);have Am:(s.heap.update it (Obj.mapFields (·.setIfInBounds 1 (rawInt ((i:Int)+1))))).IsKeyIter it d (i+1) es.size ep:=
  ⟨_,o4 _ ho (Obj.isFreed_of_fields (Obj.data_mapFields hd _)),(Obj.cls_mapFields ..).trans hc,by rw[Obj.data_mapFields hd];simp[rawInt]⟩
 refine ab (gX ?_);refine ab (wpAny_isOneOf_keyiter (s:={ s with heap:=s.heap.update it (Obj.mapFields (·.setIfInBounds 1 (rawInt ((i:Int)+1)))) }) Am.typeIs ?_);show wpAny _ _ (pure es[i].key) _ _ _;rw[he];exact ah (ah ⟨_,rfl,ah (hQ _ Am (uh ..))⟩)
theorem Nd{Q:Option Value→Shared→Prop}(hh:A.handled=none)(hit:s.heap.IsKeyIter it d i es.size ep)(hm:kg s.heap d es ep)(hx:es.size≤i)(hQ:∀h',Heap.ExtBut it s.heap h'→Q none { s with heap:=h' }):wpAny (model prog w) A (pyNext (.ref it)) Q E s:=by
 obtain⟨o,ho,hc,hd⟩:=id hit;obtain⟨od,ky,jj,mf⟩:=hm;unfold pyNext;refine ab (wpAny_attempt (wpAny_callSpecial?_slot (name:=Str.ofString "__next__") hit.typeIs F.slot_dict_keyiterator_next
  (gn F.slot_dict_keyiterator_next hit.typeIs F.entry_dict_keyiterator_next ?_ (F.args_dict_keyiterator_next_1 _))))
 refine ab (ah ?_);refine ab ?_;refine ab ?_
 first | refine ab (wpAny_typeNameOfWhole_keyiter hit.typeIs (ah ?_)) | refine ab (wpAny_typeNameOf_keyiter hit.typeIs (ah ?_))
 refine ab (wpAny_fieldsOf ho hd ?_);have uS:Builtin.Dict_items.ownsTuple "dict_keyiterator" = false:=by decide
 simp only[uS,Bool.false_eq_true,if_false];show wpAny _ _ (if (Value.ref d==Value.none)=true then _ else _) _ _ s;rw[ai (show ¬((Value.ref d==Value.none)=true) from dE)];refine ab (ah ?_);refine ab (wpAny_dictEntries ky mf ?_);rw[ai (by simp)];refine ab (ah ?_);refine ab (wpAny_dictEpoch ky mf ?_);rw[ai (by simp)];refine ah ?_;simp only[show ¬((i:Int)<0) from by lia,if_false,Int.toNat_natCast,Array.getElem?_eq_none hx];refine ab ?_
 first | refine ab (wpAny_typeNameOfWhole_keyiter hit.typeIs (ah ?_)) | refine ab (wpAny_typeNameOf_keyiter hit.typeIs (ah ?_))
 show wpAny _ _ (setField (.ref it) 0 .none >>= _) _ _ s;refine ab (wpAny_setField ho hd (by simp) ?_);show wpAny _ _ (newExc (.type "StopIteration") [] >>= _) _ _ _;refine ab ?_;simp only[newExc,newTuple];refine ab (iL ?_ (by size_fits));refine ab (m:=firstArgMember _ _) (wpAny_of_eq (a:=Value.none) (by first | rfl | (simp only[firstArgMember];rfl)) ?_);refine iL ?_ (by size_fits);simp only[raiseNew];refine ab (wpAny_handled ?_);rw[show A.in1.handled=none from hh];refine ab (ah (wpAny_throw ?_));refine ab (wpAny_isInstance (T:="StopIteration") (b:=true) ⟨_,c8 _ rfl,rfl⟩ isSubtype_stop ?_);exact ah (hQ _ (((uh ..).extBut.push _).push _))
theorem Walks.raw(hh:A.handled=none)(I d:Addr)(c9:d≠I)(es:Array DictEntry)(ep:Nat):
  Walks prog w A I [I,d] [I] es.size (fun i v=>∃e,es[i]?=some e∧v=e.key) (fun i h=>h.IsKeyIter I d i es.size ep∧kg h d es ep) where
 sub:=fun b hb=>by simp at hb;simp[hb]
 frame:=fun _ _ _ st hk=>⟨st.1.at fun o e=>hk I (by simp) o e,st.2.at fun o e=>hk d (by simp) o e⟩
 item:=fun i s Q E hi st hQ=>by
  have hx:es[i]?=some es[i]:=Array.getElem?_eq_getElem hi;refine Ku st.1 st.2 hx fun h' Am j0=>?_
  exact hQ _ h' s.toks ⟨_,hx,rfl⟩ ⟨Am,st.2.at fun o e=>j0.extBut d o c9 e⟩ fun b o hb e=>j0.extBut b o (fun h=>hb (by simp[h])) e
 done:=fun s Q E st hQ=>Nd hh st.1 st.2 (aT _) fun h' sA=>hQ h' s.toks fun b o hb e=>sA b o (fun h=>hb (by simp[h])) e
 self:=fun _ _ _ _ st hQ=>wpAny_pyIter_keyiter st.1 hQ
end
namespace W
section
variable{d:Addr}{es:Array DictEntry}{ep:Nat}
theorem UU(lo:(d==sysModules)=false):KdlSrc prog w "dict" d d es.size (fun i v=>∃e,es[i]?=some e∧v=e.key) (fun h=>kg h d es ep) where
 type:=fun _ hm=>hm.typeIs
 there:=fun _ hm=>⟨hm.lt,hm.lt⟩
 keep:=fun _ _ hm hk=>hm.at fun o e=>hk d (.inl rfl) o e
 notList:=by decide
 notTuple:=by decide
 hint:=fun _ _ _ _ hm hq=>kdl_hint_dict hm.typeIs hq
 iter:=fun _ _ hh hm=>⟨_,_,(fun _ _ hq=>KA lo hm hq),Walks.raw hh _ d (b0 hm.lt) es ep,⟨⟨_,c8 _ rfl,rfl,rfl⟩,hm.at fun o e=>cz _ e⟩⟩
end
end W
end PySem
namespace L2
open PySem PySem.Spec PyProof.Rows
def YF(K:p4)(H:Hp)(k:FK)(b:Addr):Prop:=∃c,dv K H b [.str k.1,.ref c]∧dv K H c [.str k.2.1,kV k.2.2]
theorem iR(I:Inv X pi σ H s){k:FK}{b:Addr}(h:YF X.K H k b):gc X.prog X.w s.heap k b:=by
 obtain⟨c,hb,hc⟩:=h;obtain⟨its,r,⟨o,e,cl,n,d⟩,_⟩:=I.tuple hb;obtain⟨its',cn,⟨bP,aI,Rv,mP,d'⟩,_⟩:=I.tuple hc;cases r with
 | cons r1 t1=>
  cases t1 with
  | cons r2 t2=>
   cases t2;obtain⟨t,rfl⟩:=r1;cases r2;cases cn with
   | cons q1 u1=>
    cases u1 with
    | cons q2 u2=>
     cases u2;obtain⟨t',rfl⟩:=q1;refine⟨o,_,n,t,c,e,cl,d,rfl,bP,_,mP,aI,Rv,d',?_⟩;exact .cons (RW (prog:=X.prog) (w:=X.w)) (.cons (aR q2) .nil)
theorem K2(h:Heap)(hb:sysModules<h.objs.size):du P w H (h.push { cls:=.type "dict",data:=.dict #[] }) h.objs.size (.dF []):=by
 obtain⟨z,lo,xs,r,o,es,ep,q⟩:=KW (P:=P) (w:=w) (H:=H) h hb;cases r;exact⟨eM _,lo,o,es,ep,q.1,q.2.1,q.2.2.1,q.2.2.2.1,nB⟩
noncomputable def PU:TE:=fun _ H Q=>∀p,H p=none→Q (.ref p) (upd H p (.dF []))
theorem VS:PE X (.Dict [] [] pos) PU:=fun pi s σ H Q I h=>
 wpAny_Dict_empty ⟨.ref s.heap.objs.size,_,I.laid (a:=s.heap.objs.size) (o:=.dF []) (t':=s.toks) (fun _ _ q=>cz _ q) (aT _) (K2 s.heap I.big),rfl,h _ (I.az.fresh (aT _))⟩
noncomputable def cI(xs:List (FK×Addr))(k:FK)(b:Addr):List (FK×Addr):=if xs.any (fun x=>decide (x.1=k)) then xs else xs++[(k,b)]
noncomputable def yX(xs:List (FK×Addr)):List (FK×Addr×Value):=xs.map fun x=>(x.1,x.2,.bool true)
theorem pY(xs:List (FK×Addr)):(yX xs).map (·.1)=xs.map (·.1):=by unfold yX;rw[df];rfl
theorem Fu:∀{xs:List (FK×Addr)} {k:FK},(atKey (yX xs) k).isSome=xs.any (fun x=>decide (x.1=k))
 | [],k=>rfl
 | x::r,k=>by
  have ih:=Fu (xs:=r) (k:=k);unfold atKey yX at ih ⊢
  by_cases h:x.1=k
  ·simp[h]
  ·simp only[ck,List.find?_cons,h,decide_false,List.any_cons,Bool.false_or]
   exact ih
theorem NJ(xs:List (FK×Addr))(k:FK)(b:Addr):storedH (yX xs) k b (.bool true)=yX (cI xs k b):=by
 unfold storedH cI;rw[Fu]
 by_cases h:xs.any (fun x=>decide (x.1=k))=true
 ·rw[ag h,ag h]
  unfold yX;rw[df];refine jv fun x _=>?_
  simp only[Function.comp,putAt];split<;>rfl
 ·rw[ai h,ai h]
  simp[yX]
theorem pK{b:Addr}{k:FK}{xs:List (FK×Addr)}{Q:Unit→Shared→Prop}(hu:A.units+11<cLine)(I:Inv X pi σ H s)(e:H a=some (.dF xs))(hk:YF X.K H k b)(hx:∀x∈xs,YF X.K H x.1 x.2)(l:xs.length<sizeLine)(h:∀s',Inv X pi σ (upd H a (.dF (cI xs k b))) s'→Q () s'):wpAny (model X.prog X.w) A (setItem (.ref a) (.ref b) (.bool true)) Q E s:=by
 obtain⟨z,lo,o,es,ep,ho,hex,hd,mh,b9⟩:=(show du X.prog X.w H s.heap a (.dF xs) from I.az a _ e)
 have dd:s.heap.DictOfH (aY X.prog X.w) a (yX xs):=⟨o,es,ep,ho,hex,hd,by rw[mh];unfold yX;rw[df];rfl,fun y hy=>by
  obtain⟨x,kK,rfl⟩:=dg hy;exact iR I (hx x kK),by rw[pY];exact b9⟩
 have hl:(cI xs k b).length≤sizeLine:=by
  unfold cI;split
  ·exact z
  ·simp;omega
 refine wpAny_setItem_heap (knd:=aY X.prog X.w) (hsz:=by rw[yX,a9];exact z) (show A.units+1+10<cLine by omega) (iR I hk) dd fun h' nI hs=>h _ ?_
 rw[NJ]at nI;obtain⟨q,km,jg,hq,h2,h3,h4,_,h5⟩:=nI;refine zr I (by rw[e];exact True.intro) hs ⟨q,hq⟩ ⟨hl,lo,q,km,jg,hq,h2,h3,?_,by rw[pY]at h5;exact h5⟩;rw[h4];unfold yX;rw[df];rfl
noncomputable def P6(K:p4)(td ty:TE):TS:=fun D σ H=>td σ H fun x H1=>ty σ H1 fun y H2=>∃a b k xs,x=.ref a∧y=.ref b∧H2 a=some (.dF xs)∧YF K H2 k b∧(∀x∈xs,YF K H2 x.1 x.2)∧xs.length<sizeLine∧D.nx σ (upd H2 a (.dF (cI xs k b)))
theorem L6{i:Expr}{ty:TE}(hu:X.A.units+11<cLine)(ho:PE X o td)(hi:PE X i ty)(hs:swapsWith (.Constant (.bool true) j p1) (some (.Subscript o i pos')) pos.line X.env=pure false:=by rfl):
  PS X (.Assign [.Subscript o i pos'] (.Constant (.bool true) j p1) pos) (P6 X.K td ty):=by
 intro pi s σ H D I h;refine wpAny_Assign_Subscript (a8 (FH pi s σ H (fun v H1=>v=.bl true∧H1=H) I ⟨rfl,rfl⟩) fun r s1 af=>?_) hs;obtain⟨v,H1,I1,rv,ev,eh⟩:=af;subst ev eh;obtain rfl:r=Value.bool true:=rv;refine a8 (ho pi s1 σ _ _ I1 h) fun u s2 ⟨x,H2,I2,rx,q2⟩=>a8 (hi pi s2 σ H2 _ I2 q2) fun iv s3 af=>?_
 obtain⟨y,H3,I3,ry,a,b,k,xs,ex,ey,e,hk,hx,l,q3⟩:=af;subst ex ey;obtain rfl:u=Value.ref a:=rx;obtain rfl:iv=Value.ref b:=ry;exact pK hu I3 e hk hx l fun s4 I4=>⟨σ,_,I4,q3⟩
structure ue{α:Type}(f:α→α→Bool):Prop where
 rm:∀a,f a a=false
 kX:∀a b,a≠b→f b a=!f a b
 tr:∀a b c,f a b=true→f b c=true→f a c=true
noncomputable def Bv(a b:Str):Bool:=decide (a.cps.toList<b.cps.toList)
theorem yq:ue Bv where
 rm:=fun a=>dm (List.lt_irrefl _)
 kX:=fun a b h=>mD h
 tr:=fun a b c h1 h2=>dk (List.lt_trans (gq h1) (gq h2))
theorem MI:ue p8 where
 rm:=fun a=>by
  cases a with
  | inl i=>simp[p8]
  | inr x=>exact yq.rm x
 kX:=fun a b h=>by
  cases a with
  | inl i=>
   cases b with
   | inl j=>
    have:i≠j:=fun e=>h (by rw[e])
    simp only[p8]
    by_cases q:i<j
    ·rw[dk q,dm (by lia)];rfl
    ·rw[dm q,dk (by lia)];rfl
   | inr y=>rfl
  | inr x=>
   cases b with
   | inl j=>rfl
   | inr y=>exact yq.kX x y fun e=>h (by rw[e])
 tr:=fun a b c h1 h2=>by
  cases a with
  | inl i=>
   cases b with
   | inl j=>
    cases c with
    | inl k=>simp only[p8,decide_eq_true_eq]at h1 h2 ⊢;lia
    | inr z=>rfl
   | inr y=>
    cases c with
    | inl k=>cases h2
    | inr z=>rfl
  | inr x=>
   cases b with
   | inl j=>cases h1
   | inr y=>
    cases c with
    | inl k=>cases h2
    | inr z=>exact yq.tr x y z h1 h2
noncomputable def v9{α β:Type}[DecidableEq α][DecidableEq β](f:α→α→Bool)(g:β→β→Bool)(p q:α×β):Bool:=if p.1=q.1 then (if p.2=q.2 then false else g p.2 q.2) else f p.1 q.1
theorem rD{α β:Type}[DecidableEq α][DecidableEq β]{f:α→α→Bool}{g:β→β→Bool}(F:ue f)(G:ue g):ue (v9 f g) where
 rm:=fun a=>by simp[v9]
 kX:=fun a b h=>by
  unfold v9
  by_cases h1:a.1=b.1
  ·have h2:a.2≠b.2:=fun e=>h (Prod.ext h1 e)
   rw[ag h1,ag h1.symm,ai h2,ai (Ne.symm h2)];exact G.kX _ _ h2
  ·rw[ai h1,ai (Ne.symm h1)]
   exact F.kX _ _ h1
 tr:=fun a b c h1 h2=>by
  unfold v9 at h1 h2 ⊢
  by_cases e1:a.1=b.1
  ·rw[ag e1]at h1
   by_cases e2:b.1=c.1
   ·rw[ag e2]at h2
    rw[ag (e1.trans e2)]
    by_cases q1:a.2=b.2
    ·rw[ag q1]at h1;cases h1
    ·rw[ai q1]at h1
     by_cases q2:b.2=c.2
     ·rw[ag q2]at h2;cases h2
     ·rw[ai q2]at h2
      have:=G.tr _ _ _ h1 h2;rw[ai fun e=>by rw[e,G.rm]at this;cases this];exact this
   ·rw[ai e2]at h2
    rw[ai fun e=>e2 (e1.symm.trans e),e1];exact h2
  ·rw[ai e1]at h1
   by_cases e2:b.1=c.1
   ·rw[ag e2]at h2
    rw[ai fun e=>e1 (e.trans e2.symm),←e2];exact h1
   ·rw[ai e2]at h2
    have:=F.tr _ _ _ h1 h2;rw[ai fun e=>by rw[e,F.rm]at this;cases this];exact this
theorem MU:aX=v9 Bv (v9 Bv p8):=by
 funext p q;rfl
theorem qA:ue aX:=by rw[MU];exact rD yq (rD yq MI)
noncomputable def lS:FK×Addr:=((⟨#[]⟩,⟨#[]⟩,.inl 0),0)
noncomputable def BB(fs:List (FK×Addr))(i j:Nat):Bool:=aX (fs.getD i lS).1 (fs.getD j lS).1
theorem Lh{fs:List (FK×Addr)}(hn:(fs.map (·.1)).Nodup):PySem.W.Ord fs.length (BB fs) where
 kX:=fun i j hi hj h=>qA.kX _ _ fun e=>by
  have e1:(fs.map (·.1))[i]'(by simpa using hi)=(fs.getD i lS).1:=by simp[List.getD_eq_getElem?_getD,hi]
  have e2:(fs.map (·.1))[j]'(by simpa using hj)=(fs.getD j lS).1:=by simp[List.getD_eq_getElem?_getD,hj]
  exact h ((List.getElem_inj hn).mp (e1.trans (e.trans e2.symm)))
 tr:=fun i j k _ _ _ h1 h2=>qA.tr _ _ _ h1 h2
theorem QD{α:Type}(l:List α)(d:α){js:List Nat}(h:js.Perm (List.range l.length)):(js.map fun j=>l.getD j d).Perm l:=by
 have e:(List.range l.length).map (fun j=>l.getD j d)=l:=by
  apply List.ext_getElem?;intro i
  by_cases hi:i<l.length
  ·rw[eS,List.getElem?_range hi]
   simp[List.getD_eq_getElem?_getD,hi]
  ·rw[List.getElem?_eq_none (by simp;lia),List.getElem?_eq_none (by lia)]
 have:=h.map fun j=>l.getD j d
 rw[e]at this;exact this
theorem vI{h1:Heap}{k:FK}{b:Addr}{L:Addr}(hk:∀c u,c≠L→h.get? c=some u→h1.get? c=some u)(hL:∀c o xs n,h.get? c=some o→o.data=.seq xs n→c≠L)(x:gc P w h k b):gc P w h1 k b:=by
 obtain⟨o,items,n,t,c,ho,hc,hd,hi,bP,IY,mP,jm,sx,fS,kr⟩:=x;exact⟨o,items,n,t,c,hk _ _ (hL _ _ _ _ ho hd) ho,hc,hd,hi,bP,IY,mP,hk _ _ (hL _ _ _ _ jm fS) jm,sx,fS,kr⟩
theorem WT:∀fs:List (FK×Addr),Vals (fs.map fun x=>V.ref x.2) (fs.map fun x=>Value.ref x.2)
 | []=>.nil
 | x::r=>.cons rfl (WT r)
theorem oE(I:Inv X pi σ H s)(hu:X.A.units+20<cLine){fs:List (FK×Addr)}(Tj:∀x∈fs,gc X.prog X.w s.heap x.1 x.2)(b9:(fs.map (·.1)).Nodup)(bw:fs.length<64)(tj:∀x∈fs,∀y∈fs,jW x.1.2.2 y.1.2.2=true∨x.1.2.1≠y.1.2.1){Q:VK}(q:∀(p:Addr) (ys:List (FK×Addr)),H p=none→ys.Perm fs→ys.Pairwise (fun x y=>aX x.1 y.1=true)→Q (.ref p) (upd H p (.lst (ys.map fun x=>V.ref x.2)))) :
  wpAny (model X.prog X.w) X.A.in1 (call (.builtin "list.sort") [.ref s.heap.objs.size]) (fun _ s'=>EP X pi σ Q (.ref s.heap.objs.size) s') X.xe { s with heap:=s.heap.push (seqObj "list" (fs.map fun x=>Value.ref x.2).toArray 0) }:=by
 have hz:(fs.map fun x=>V.ref x.2).length≤sizeLine:=by rw[a9,eI];lia
 have jc:(s.heap.push (seqObj "list" (fs.map fun x=>Value.ref x.2).toArray 0)).get? s.heap.objs.size=some (seqObj "list" (fs.map fun x=>Value.ref x.2).toArray 0):=c8 _ rfl
 by_cases vd:fs.length<2
 ·refine gn slot_list_sort ⟨_,jc,rfl⟩ entry_list_sort (JX jc (by rw[a9];exact vd) ⟨_,rfl,?_⟩) (args_list_sort _)
  obtain⟨c,xm⟩:=sortedHeap_at (vs:=fs.map fun x=>Value.ref x.2) (out:=(pairsOf (fs.map fun x=>Value.ref x.2)).map (·.2)) jc;have n5:((pairsOf (fs.map fun x=>Value.ref x.2)).map (·.2))=(fs.map fun x=>Value.ref x.2).toArray:=by
   apply lP;rw[Array.toList_map,pairsOf_toList,List.map_snd_zip (aT _)]
  refine⟨.ref s.heap.objs.size,_,I.laid (a:=s.heap.objs.size) (o:=.lst (fs.map fun x=>V.ref x.2)) (t':=s.toks) (fun b ob e=>?_) (aT _) ⟨hz,fs.map fun x=>Value.ref x.2,c,WT fs,?_⟩,rfl,q _ fs (I.az.fresh (aT _)) (List.Perm.refl _) ?_⟩
  ·have hb:b<s.heap.objs.size:=bg e
   rw[sortedHeap_old (b0 hb) (by rw[kq];exact k0 hb)];exact cz _ e
  ·rw[xm,n5]
  ·match fs,vd with
   | [],_=>exact List.Pairwise.nil
   | [x],_=>exact List.pairwise_singleton _ _
   | _::_::_,h=>simp at h;lia
 ·obtain⟨m,hm,_⟩:=I.loc
  have F0:=ni.C0 hm;have N0:=aM (g:=pz s) (h:=s.heap) (L:=X.env.locals);have BM:=F0.push (seqObj "list" (fs.map fun x=>Value.ref x.2).toArray 0);have BV:=News.push F0 N0 (seqObj "list" (fs.map fun x=>Value.ref x.2).toArray 0) rfl;have bx:∀b∈QZ (pz s) s.heap X.env.locals,b.1<s.heap.objs.size:=fun b hb=>bg (N0 b hb).1
  generalize Sq:s.heap.objs.size=D at *;generalize Su:s.heap.push (seqObj "list" (fs.map fun x=>Value.ref x.2).toArray 0)=hP at *;have hlen:(fs.map fun x=>Value.ref x.2).length=fs.length:=a9 _;refine PySem.W.kat_lsort (s:={ s with heap:=hP }) (vs:=fs.map fun x=>Value.ref x.2) BM BV (.head fun b hb=>b0 (bx b hb)) (by simp) (by lia) (by lia) fun e1 h1 F1 N1=>?_
  have keep:=OJ (X:=X) (s:=s) N1;have nD:=(N1 (D,_) bX).2.1;have hD:s.heap.get? D=none:=by
   cases e:s.heap.get? D with
   | none=>rfl
   | some ob=>exact absurd (bx (D,ob) (P0 nD (ni.yi _ _) e)) (gp _)
  have hn:H D=none:=by
   cases e:H D with
   | none=>rfl
   | some u=>
    obtain⟨Ey,aI⟩:=(I.az D u e).there;rw[hD]at aI;cases aI
  have yk:∀c o xs n,s.heap.get? c=some o→o.data=.seq xs n→c≠X.env.locals:=fun c o xs n e d zz=>by
   obtain⟨ol,_,_,el,dl,_⟩:=hm;rw[zz,el]at e;cases e;rw[dl]at d;cases d
  have Dx:∀x∈fs,gc X.prog X.w h1 x.1 x.2:=fun x hx=>vI keep yk (Tj x hx)
  have lq:∀l:List (FK×Addr),(∀x∈l,gc X.prog X.w h1 x.1 x.2)→∃gs,PySem.W.KatTups h1 (l.map fun x=>Value.ref x.2) gs∧gs.length=l.length∧∀v∈gs,∃y t,v=Value.str y t:=by
   intro l
   induction l with
   | nil=>exact fun _=>⟨[],.nil,rfl,by simp⟩
   | cons x r ih=>
    intro hx;obtain⟨gs,g1,g2,g3⟩:=ih fun y hy=>hx y (b8 _ hy)
    obtain⟨ob,items,n,t,c,nX,cm,mf,hi,_⟩:=hx x bX;refine⟨.str x.1.1 t::gs,.cons nX cm mf ?_ g1,by simp[g2],fun v hv=>?_⟩
    ·rw[←Array.getElem?_toList,hi];rfl
    ·rcases cg hv with rfl | hv
     ·exact⟨_,_,rfl⟩
     ·exact g3 v hv
  obtain⟨gs,t1,t2,t3⟩:=lq fs Dx;refine PySem.W.kat_kind (s:={ s with heap:=h1 }) (T:=.type "str") t1 (by lia) (fun v hv=>?_) (by decide) ?_
  ·obtain⟨x,t,rfl⟩:=t3 v hv
   exact .now
  ·show PySem.W.KasT.kasWp _ _ _ _
   rw[hlen];obtain⟨p,xD,iu,xC⟩:=PySem.W.WA (n:=fs.length) (f:=BB fs) (by lia) (Lh b9);refine PySem.W.KasT.AV (n:=fs.length) (qo:=BB fs) (fun i j hi hj C hC=>?_) _ xD ?_
   ·have ei:(fs.map fun x=>Value.ref x.2).getD i Value.none=.ref (fs.getD i lS).2:=by simp[List.getD_eq_getElem?_getD,hi]
    have ej:(fs.map fun x=>Value.ref x.2).getD j Value.none=.ref (fs.getD j lS).2:=by simp[List.getD_eq_getElem?_getD,hj]
    have mi:fs.getD i lS∈fs:=by simp[List.getD_eq_getElem?_getD,hi]
    have mj:fs.getD j lS∈fs:=by simp[List.getD_eq_getElem?_getD,hj]
    unfold PySem.W.kas_ask;rw[ei,ej];exact MV (s:={ s with heap:=h1 }) (by show X.A.units+1+1+10<cLine;lia) (tj _ mi _ mj) (Dx _ mi) (Dx _ mj) hC
   ·refine PySem.W.KasFin.intro (s:={ s with heap:=h1 }) F1 N1 (.head fun b hb=>b0 (bx b hb)) fun h2 c F2 N2=>?_
    have IH:=QD fs lS iu;have e2:(p.toList.map fun i=>(fs.map fun x=>Value.ref x.2).getD i Value.none)=(p.toList.map fun j=>fs.getD j lS).map fun x=>Value.ref x.2:=by
     rw[df];refine jv fun j hj=>?_
     have sC:=List.mem_range.mp (iu.mem_iff.mp hj);simp[List.getD_eq_getElem?_getD,sC]
    rw[e2]at N2;refine⟨.ref D,_,I.Eu (t':=s.toks) (o:=.lst ((p.toList.map fun j=>fs.getD j lS).map fun x=>V.ref x.2)) hm F2 N2 hD ⟨?_,_,c,WT _,(N2 (D,_) bX).1⟩,rfl,q D _ hn IH ?_⟩
    ·rw[a9,IH.length_eq,eI];lia
    ·rw[List.pairwise_map]
     exact xC
theorem j9(hc:X.calm=true)(hu:X.A.units+20<cLine):gb X (.builtin "sorted") (fun xs H Q=>∃a fs,xs=[.ref a]∧H a=some (.dF fs)∧(∀x∈fs,YF X.K H x.1 x.2)∧fs.length<64∧(∀x∈fs,∀y∈fs,jW x.1.2.2 y.1.2.2=true∨x.1.2.1≠y.1.2.1)∧
  ∀(p:Addr) (ys:List (FK×Addr)),H p=none→ys.Perm fs→ys.Pairwise (fun x y=>aX x.1 y.1=true)→Q (.ref p) (upd H p (.lst (ys.map fun x=>V.ref x.2)))):=by
 intro pi s σ H xs us Q I r h;obtain⟨a,fs,rfl,ha,uy,bw,tj,q⟩:=h;obtain⟨u,rfl,ru⟩:=vals1 r;cases ru;obtain⟨z,lo,o,es,ep,ho,hex,hd,mh,b9⟩:=(show du X.prog X.w H s.heap a (.dF fs) from I.az a _ ha)
 have Um:kg s.heap a es ep:=⟨o,ho,hex,hd⟩
 have hsz:es.size=fs.length:=by rw[←fR,mh,a9]
 have UI:∀vs:List Value,vs.length=es.size→(∀(j:Nat) (v:Value),vs[j]?=some v→∃e,es[j]?=some e∧v=e.key)→vs=fs.map fun x=>Value.ref x.2:=fun vs hl hv=>by
  apply List.ext_getElem?;intro j
  by_cases hj:j<fs.length
  ·have e1:vs[j]?=some (vs[j]'(by lia)):=fo _
   obtain⟨e,e2,e3⟩:=hv j _ e1;rw[←Array.getElem?_toList,mh,eS,fo hj]at e2;have e2:=cE e2;rw[e1,eS,fo hj,e3,←e2];rfl
  ·rw[List.getElem?_eq_none (by lia),List.getElem?_eq_none (by simp;lia)]
 refine xc kind_sorted plain_sorted entry_sorted (args_sorted1 _) ?_;unfold Builtin.«sorted»;refine ab (m:=checkCount "sorted" 1 1 _) (ah ?_);refine ab (PySem.W.kdu_collect (A:=X.A.in1) (PySem.W.UU (es:=es) (ep:=ep) lo) (I.ok.hd hc) Um (by rw[hsz];exact z) fun h1 tk acc ku gS=>?_);have hl:acc.toList.length=es.size:=by rw[fR];exact gS.1
 have Af:=UI acc.toList hl fun j v e=>gS.2 j v (by rw[←Array.getElem?_toList];exact e)
 refine ab (uo ?_ (by rw[hl,hsz];exact z));rw[Af];have I1:Inv X pi σ H { s with heap:=h1,toks:=tk }:=I.kept ku;refine ab (gX (fb (oE (s:={ s with heap:=h1,toks:=tk }) (fs:=fs) (Q:=Q) I1 hu (fun x hx=>iR I1 (uy x hx)) b9 bw tj q) (fun _ s' x=>?_) fun _ _ e=>e));exact ah ⟨_,rfl,x⟩
end L2
namespace WL
open PySem L2
theorem MQ{k:Nat}(hr:gm k A):A.units+11<cLine:=by have:=hr.un;lia
theorem MM{k:Nat}(hr:gm k A):A.units+20<cLine:=by have:=hr.un;lia
theorem sm{a b:FK}:VG a b=true↔a=b∨aX a b=true:=by
 unfold VG
 by_cases h:a=b
 ·subst h;simp[qA.rm]
 ·rw[qA.kX a b h];simp[h]
theorem KL{a b:FK}(h1:VG a b=true)(h2:VG b a=true):a=b:=by
 rcases sm.mp h1 with h | h
 ·exact h
 ·rcases sm.mp h2 with h' | h'
  ·exact h'.symm
  ·have:=qA.tr _ _ _ h h'
   rw[qA.rm]at this;cases this
theorem Pd{a b c:FK}(h1:VG a b=true)(h2:VG b c=true):VG a c=true:=by
 rcases sm.mp h1 with rfl | h
 ·exact h2
 ·rcases sm.mp h2 with rfl | h'
  ·exact h1
  ·exact sm.mpr (.inr (qA.tr _ _ _ h h'))
theorem MW(a b:FK):(VG a b||VG b a)=true:=by
 by_cases h:a=b
 ·subst h;simp[sm]
 ·have:=qA.kX a b h
  unfold VG;rw[this];cases aX a b<;>rfl
theorem xZ(l:List FK):(JG l).Pairwise (fun a b=>VG a b=true):=List.pairwise_mergeSort (le:=VG) (fun a b c h h'=>Pd h h') MW l
theorem oF(l:List FK):(JG l).Perm l:=ir l _
theorem yC{l ys:List FK}(hp:ys.Perm l)(hs:ys.Pairwise (fun a b=>aX a b=true)):ys=JG l:=
 List.Perm.eq_of_pairwise (le:=fun a b=>VG a b=true) (fun a b _ _ h1 h2=>KL h1 h2) (hs.imp fun h=>sm.mpr (.inr h)) (xZ l) (hp.trans (oF l).symm)
theorem NC:∀{x:Key} {v:V},At K ρ H (dQ x) v→v=kV x
 | .inl _,_,h=>h
 | .inr _,_,h=>h
theorem zo{k:FK}{v:V}(h:At K ρ H (fD k) v):∃b,v=.ref b∧YF K H k b:=by
 obtain⟨b,vs,rfl,hf,v1,r1,rfl,h1,v2,r2,rfl,h2,h3⟩:=h;obtain⟨c,us,rfl,hg,u1,s1,rfl,g1,u2,s2,rfl,g2,g3⟩:=h2;cases (show v1=.str k.1 from h1);cases (show r2=[] from h3);cases (show u1=.str k.2.1 from g1);cases (show s2=[] from g3);rw[NC g2]at hg;exact⟨b,rfl,c,hf.sq,hg.sq⟩
theorem E4:∀{y:D} {k:FK},nN y=some k→y=fD k:=by
 intro y k h;unfold nN at h;split at h
 ·rename_i a b x
  obtain⟨q,e,rfl⟩:=b5 h;cases x with
  | int i=>cases e;rfl
  | str z=>cases e;rfl
  | _=>cases e
 ·cases h
section
variable{a:Expr}
theorem LN:PE X (.Dict [] [] pos) (tD C X.K .CO):=VS.imp fun σ H Q af=>by
 obtain⟨aj,m,ρ,d,ae,S,M,e,q⟩:=af;cases e;intro p hp;refine q _ _ (ρ++[p]) (iQ M hp) (M.push hp ⟨[],CT,rfl,by simp⟩) ⟨p,?_,rfl⟩;rw[←M.len];simp
theorem wG{xs:List (FK×Addr)}{ks:List FK}{k:FK}{p:Addr}(h:xs.map (·.1)=ks):(cI xs k p).map (·.1)=W3 ks k:=by
 subst h;unfold cI W3;rw[List.any_map,show xs.any ((fun x:FK=>decide (x=k))∘fun x=>x.1)=xs.any (fun x=>decide (x.1=k)) from rfl]
 by_cases q:xs.any (fun x=>decide (x.1=k))=true
 ·rw[ag q,ag q]
 ·rw[ai q,ai q];simp
theorem Lq(hu:X.A.units+11<cLine)(ha:PE X a (tD C X.K pa))(hb:PE X b (tD C X.K pb)):PS X (.Assign [.Subscript a b pos'] (.Constant (.bool true) j p1) pos) (lj C W X.K (.zC pa pb)):=
 (L6 hu ha hb).imp fun E σ H af=>by
 obtain⟨aj,m,ρ,o,ae,S,M,e,q⟩:=af;obtain⟨⟨x,m1⟩,e1,e⟩:=aS e;obtain⟨⟨y,m2⟩,e2,e⟩:=aS e;refine⟨aj,m,ρ,x,m1,S,M,e1,fun u H1 au g1 M1 A1=>⟨aj,m1,au,y,m2,S.mono M g1,M1,e2,fun w H2 cS g2 M2 A2=>?_⟩⟩;have ot:=A1.mono M1 g2;have S2:=(S.mono M g1).mono M1 g2;cases x with
 | ak i=>
  obtain⟨p,hi,rfl⟩:=ot;have e:(match m2[i]?,nN y with
   | some (.fd ks),some k=>if ks.length<10000 then some (Out.nx aj,m2.set i (.fd (W3 ks k))) else none
   | _,_=>none)=some (o,ae):=e
  split at e
  ·rename_i ks k hm hk
   split at e
   ·rename_i hz
    cases e;obtain⟨xs,hp,fh,hx⟩:=M2.at' i p _ hi hm;have hy:=E4 hk;subst hy;obtain⟨c,rfl,uy⟩:=zo A2;have eJ:HJ H2 (upd H2 p (.dF (cI xs k c))):=fun i5 bP gz cp=>by
     rw[CK]
     ·exact cp
     ·rintro rfl;rw[hp]at cp;cases cp
    have UK:xs.length=ks.length:=by rw[←fh,a9]
    obtain⟨M4,g4⟩:=M2.write (o:=.dF (cI xs k c)) (q:=.fd (W3 ks k)) hi ⟨_,CT,wG fh,fun z hz=>by
     unfold cI at hz;split at hz
     ·exact(hx z hz).di eJ (.refl _)
     ·rcases de hz with hz | hz
      ·exact(hx z hz).di eJ (.refl _)
      ·rw[fg hz]
       refine A2.clean (ρ':=cS.take i) eJ ?_;rcases k with ⟨k1,k2,k3 | k3⟩<;>rfl⟩
    exact⟨p,c,k,xs,rfl,rfl,hp,uy,fun z hz=>by
     obtain⟨fm,eb,g7⟩:=zo (hx z hz);cases eb;exact g7,g6 (by lia:xs.length<100000) (J8 (aT _)),q _ cS (g1.trans (g2.trans g4)) M4 σ (S2.mono M2 g4)⟩
   ·cases e
  ·cases e
 | _=>cases e
theorem oJ(hu:X.A.units+20<cLine)(hc:X.calm=true)(hg:Gl X "sorted")(hm:X.mg "sorted" = none)(ha:PE X a (tD C X.K pa))(he:starEach [a] X.env=[(false,eval a X.env)]:=by rfl):PE X (.Call (.Name "sorted" p1) [a] [] q1) (tD C X.K (.b1 (.AW mu) pa)):=
 dM (j9 hc hu) (by
  intro ρ m ae H dx d x Q M ax e q;cases dx with
  | ak i=>
   obtain⟨p,hi,rfl⟩:=ax;have e:(match m[i]? with
    | some (.fd ks)=>if ks.length<64∧ks.all R8=true then some (bE mu ((JG ks).map fD) m) else none
    | _=>none)=some (d,ae):=e
   split at e
   ·rename_i ks TU
    split at e
    ·rename_i hz
     obtain⟨xs,hp,fh,hx⟩:=M.at' i p _ hi TU;have UK:xs.length=ks.length:=by rw[←fh,a9]
     refine⟨p,xs,rfl,hp,fun z hz=>?_,by lia,fun y hy z tu=>?_,fun l ys hl II tf=>?_⟩
     ·obtain⟨fm,eb,g7⟩:=zo (hx z hz)
      cases eb;exact g7
     ·have ok:=lL hz.2
      have h1:=ok y.1 (by rw[←fh];exact i6 hy);have h2:=ok z.1 (by rw[←fh];exact i6 tu)
      by_cases q:y.1.2.1=z.1.2.1
      ·refine .inl ?_
       unfold R8 at h1 h2;rw[q]at h1;cases Ed:y.1.2.2<;>cases AD:z.1.2.2<;>simp only[Ed,AD]at h1 h2<;>first | rfl | (exfalso;simp_all)
      ·exact .inr q
     ·have tq:ys.map (·.1)=JG ks:=yC (by rw[←fh];exact II.map _) (by rw[List.pairwise_map];exact tf)
      have dj:eB X.K ρ H (bE mu ((JG ks).map fD) m).1 (bE mu ((JG ks).map fD) m).2 Q:=by rw[cE e];exact q
      refine dj.lst M ?_ hl;rw[←tq,df];have:∀l:List (FK×Addr),(∀z∈l,z∈xs)→a6 X.K ρ H (l.map (fD∘(·.1))) (l.map fun x=>V.ref x.2):=fun l=>by
       induction l with
       | nil=>exact fun _=>rfl
       | cons z r ih=>exact fun hl=>⟨_,_,rfl,(hx z (hl z bX)).di (fun _ _ _ h=>h) (iE.take ρ i),ih fun y hy=>hl y (b8 _ hy)⟩
      exact this ys fun z hz=>II.mem_iff.mp hz
    ·cases e
   ·cases e
  | _=>cases e) PyProof.Rows.boot_sorted hg hm ha (by decide) (by decide) he
end
end WL
namespace PySem
theorem iK(t:Addr)(xs:Array Value):
  Meets (Builtin.«enumerate.__new__» ⟨[.type "enumerate",.ref t],[]⟩) (fun _ R s=>s.heap.IsTuple t xs∧∀h1 h2,h1=s.heap.push { cls:=.type "tuple_iterator",data:=.fields #[.ref t,.int 0 0] }→h2=h1.push { cls:=.type "enumerate",data:=.fields #[.none,.bool false,.ref s.heap.objs.size,rawInt 0,.none,.none] }→
   R (.ok (.ret (.ref h1.objs.size))) { s with heap:=h2 }):=
 .of_wp fun prog w A R s h=>by
  obtain⟨hp,g,d,tk,os⟩:=s;obtain⟨ht,h⟩:=h;have kB:=sub_enumerate;have t1:Heap.IsTuple (Shared.heap ⟨hp,g,d,tk,os⟩) t xs:=ht;obtain⟨o,ho,cm,n,hd⟩:=ht;obtain⟨c,aq,dt,sl⟩:=o;replace cm:c=.type "tuple":=cm;replace hd:dt=.seq xs n:=hd;subst cm hd;have h:=h _ _ rfl rfl
  wp_walk using AutoSeq1.wpAny_loadPart' ho
  refine wpAny_stack_any fun q=>ah ?_;split
  ·rename_i c _ _ _ _ _;cases (c==Value.type "enumerate")<;>(wp_walk using AutoSeq1.wpAny_loadPart' ho,wpAny_pyIter_tuple t1)<;>exact⟨_,rfl,h⟩
  ·wp_walk using AutoSeq1.wpAny_loadPart' ho,wpAny_pyIter_tuple t1
   exact⟨_,rfl,h⟩
theorem pL{t:Addr}(ht:s.heap.IsTuple t xs)(h:∀h',IsEnum h' (s.heap.objs.size+1) s.heap.objs.size 0 .none→h'.IsTupleIter s.heap.objs.size t 0→(∀b o,s.heap.get? b=some o→h'.get? b=some o)→Q (.ref (s.heap.objs.size+1)) { s with heap:=h' }) :
  wpAny (model prog w) A (call (.type "enumerate") [.ref t]) Q E s:=by
 refine callType_new F.called_enumerate (by decide) (F.typeCall_enumerate_1 _) (F.newCall_enumerate_1 _) (fun obj=>F.args_object_init_2 obj _) F.entry_enumerate_new (iK t xs) ⟨ht,fun h1 h2 e1 e2=>?_⟩;have z1:h1.objs.size=s.heap.objs.size+1:=by rw[e1,kq]
 have g1:h2.get? s.heap.objs.size=some { cls:=.type "tuple_iterator",data:=.fields #[.ref t,.int 0 0] }:=by rw[e2];refine cz _ ?_;rw[e1];exact c8 _ rfl
 have g2:h2.get? h1.objs.size=some { cls:=.type "enumerate",data:=.fields #[.none,.bool false,.ref s.heap.objs.size,rawInt 0,.none,.none] }:=by rw[e2];exact c8 _ rfl
 rw[z1]at g2;show _∧_;rw[z1];exact⟨⟨_,g2,rfl⟩,h _ g2 ⟨_,g1,rfl,rfl⟩ fun c o x=>by rw[e2];refine cz _ ?_;rw[e1];exact cz _ x⟩
theorem vM{l:Addr}(hh:A.handled=none)(c9:l≠it):Draws prog w A it [it,l] xs.size (fun i x=>xs[i]?=some x) (fun k h=>h.IsTupleIter it l k∧h.IsTuple l xs) where
 live:=fun i h st=>by obtain⟨⟨o,ho,_⟩,_⟩:=st;exact⟨o,ho⟩
 frame:=fun i h h' st e=>(zq (prog:=prog) (w:=w) c9).ext i h h' st fun c o hc q=>e c (by rcases hc with rfl | rfl<;>simp) o q
 item:=fun i s Q E hi st hQ=>(zq c9).item A E s i xs[i] Q st (by simp[hi]) fun h' gy sb=>hQ _ h' s.toks (by simp[hi]) gy sb
 done:=fun s Q E st hE=>(zq c9).stop A E s xs.size Q hh st (by simp) hE
theorem vL{e l:Addr}{old:Value}{Q:Option Value→Shared→Prop}(hh:A.handled=none)(c9:l≠it)(he:IsEnum s.heap e it i old)(hit:s.heap.IsTupleIter it l i)(hl:s.heap.IsTuple l xs)(hx:xs.size≤i)(hQ:∀h',Heap.ExtBut it s.heap h'→Q none { s with heap:=h' }):wpAny (model prog w) A (pyNext (.ref e)) Q E s:=by
 have hT:s.TypeIs (.ref e) "enumerate":=⟨_,he,rfl⟩
 unfold pyNext;refine ab (wpAny_attempt (wpAny_callSpecial?_slot (name:=Str.ofString "__next__") hT F.slot_enumerate_next (gn F.slot_enumerate_next hT F.entry_enumerate_next ?_ (F.args_enumerate_next_1 _))));show wpAny _ _ (field (.ref e) 2 >>= _) _ _ _;refine ab (wpAny_field he rfl (x:=.ref it) rfl ?_);refine ab ((zq c9).stop _ _ _ i _ hh ⟨hit,hl⟩ (by simp[hx]) fun h' x sA af=>?_);obtain⟨o,ho,hc⟩:=af;exact ab (wpAny_isInstance (T:="StopIteration") (b:=true) ⟨o,ho,hc⟩ isSubtype_stop (ah (hQ _ sA)))
end PySem
namespace L2
open PySem PySem.Spec PyProof.Rows
noncomputable def Gx(K:p4)(a:Addr):It:=
 ⟨fun i H=>∃xs x,dv K H a xs∧xs[i]?=some x,fun i H x aa=>∃p y,H p=none∧x=.ref p∧(∃o:Obj,o.cls=.type "tuple"∧o.dict=none∧aa=upd H p (.bt o (.tup [.int i,y])))∧∀xs,dv K H a xs→xs[i]?=some y,fun i H=>∃xs,dv K H a xs∧xs.length≤i⟩
theorem nR{k:Nat}(a e it:Addr)(c9:e≠it):
  Turn P w K (.Tuple elts k pos) (Gx K a) [e,it] e (fun i h=>(∃old,IsEnum h e it i old)∧h.IsTupleIter it a i) where
 mem:=by simp
 obj:=fun i h st b hb=>by
  obtain⟨⟨old,he⟩,o,ho,hc,hd⟩:=st;rcases cg hb with rfl | hb
  ·exact⟨_,he,fun v z=>by cases z⟩
  ·have:b=it:=by simpa using hb
   subst this;exact⟨o,ho,fun v z=>by rw[hd]at z;cases z⟩
 keep:=fun i h h' st k=>⟨let ⟨old,he⟩:=st.1;⟨old,k e (by simp) _ he⟩,st.2.at fun o q=>k it (by simp) o q⟩
 item:=by
  intro X hP hw hK hc i pi s σ H E I hf st hg;subst hP hw hK;obtain⟨xs,x,hq,hx⟩:=hg;obtain⟨its,rv,p,hz⟩:=I.tuple hq;obtain⟨u,hu,ru⟩:=rv.get hx;obtain⟨⟨old,he⟩,hit⟩:=st;have DL:a≠it:=fun z=>by
   obtain⟨o,ho,Dl,_⟩:=hit;obtain⟨o2,iO,ja,_⟩:=p;rw[z,ho]at iO;cases iO;rw[Dl]at ja;exact absurd ja (by decide)
  have Ta:e≠a:=fun z=>by
   obtain⟨o2,iO,ja,_⟩:=p;have he:s.heap.get? e=_:=he;rw[z,iO]at he;cases he;exact absurd (show Value.type "enumerate" = .type "tuple" from ja) (by decide)
  have bx:i<its.toArray.size:=by
   have:=List.getElem?_eq_some_iff.mp hu;simp;exact this.1
  refine wpAny_pyNext_enum_itemD (vM (I.ok.hd hc) DL) he ⟨hit,p⟩ bx c9 (by simp[c9,Ta]) fun gz h1 tk ve qS Ux pV dh ku=>⟨_,rfl,?_⟩
  have ve:its[i]?=some gz:=by simpa using ve
  rw[hu]at ve;cases ve;refine wpAny_letOwnedTupleGo_enum (s:={ s with heap:=h1,toks:=tk+1 }) qS fun h2 Dv ee=>?_
  have elt:e<s.heap.objs.size:=bg he;have Ef:it<s.heap.objs.size:=by obtain⟨_,q,_⟩:=hit;exact bg q
  have jl:∀b ob,b∉[e,it]→s.heap.get? b=some ob→h2.get? b=some ob:=fun b ob hb q=>by
   have h3:b≠e:=fun z=>hb (by simp[z])
   have h4:b≠it:=fun z=>hb (by simp[z])
   exact ee.extBut b ob h3 (ku b ob h3 h4 q)
  have kH:h2.get? s.heap.objs.size=some { cls:=.type "tuple",data:=.seq #[.int i tk,u] }:=ee.extBut _ _ (i7 elt) pV;have I2:Inv X pi σ (upd H s.heap.objs.size (.bt { cls:=.type "tuple",data:=.seq #[.int i tk,u] } (.tup [.int i,x]))) { s with heap:=h2,toks:=tk+1 }:=
   I.EI (fp:=[e,it]) (o:=.bt { cls:=.type "tuple",data:=.seq #[.int i tk,u] } (.tup [.int i,x])) hf jl (aT _) ⟨kH,by show 2≤sizeLine;decide,[.int i tk,u],.cons ⟨_,rfl⟩ (.cons ru .nil),⟨_,kH,rfl,_,rfl⟩⟩
  refine⟨.ref s.heap.objs.size,_,I2,rfl,⟨_,x,I.az.fresh (aT _),rfl,⟨_,rfl,rfl,rfl⟩,fun ys hy=>by rw[I.Kk hy hq];exact hx⟩,⟨⟨u,?_⟩,?_⟩,?_⟩
  ·exact Dv
  ·exact Ux.1.at fun o q=>ee.extBut it o (Ne.symm c9) q
  ·refine rH (fun b hb=>(hf b hb).1) fun b hb=>?_
   rcases cg hb with rfl | hb
   ·exact elt
   ·have:b=it:=by simpa using hb
    subst this;exact Ef
 done:=by
  intro X hP hw hK hc i pi s σ H E I hf st hg;subst hP hw hK;obtain⟨xs,hq,hx⟩:=hg;obtain⟨its,rv,p,hz⟩:=I.tuple hq;obtain⟨⟨old,he⟩,hit⟩:=st;have hl:=rv.length;have DL:a≠it:=fun z=>by
   obtain⟨o,ho,Dl,_⟩:=hit;obtain⟨o2,iO,ja,_⟩:=p;rw[z,ho]at iO;cases iO;rw[Dl]at ja;exact absurd ja (by decide)
  exact vL (I.ok.hd hc) DL he hit p (by simp;lia) fun h1 eb=>⟨rfl,I.Kl (t':=s.toks) (fp:=[e,it]) hf fun b ob hb q=>eb b ob (fun z=>hb (by simp[z])) q⟩
 self:=fun A i s Q E st h=>let ⟨old,he⟩:=st.1;wpAny_pyIter_enum he h
noncomputable def Pb(K:p4)(ta:TA):TI:=fun σ H R=>ta σ H fun vs H1=>∃a,vs=[.ref a]∧(∃xs,dv K H1 a xs)∧R (Gx K a) H1
theorem zM{l:Expr}{ta:TA}{pt:Pos}{k:Nat}(hg:Gl X "enumerate")(hm:X.mg "enumerate" = none)(ha:PA X [l] ta)(hs:starEach [l] X.env=[(false,eval l X.env)]:=by rfl):
  PI X (.Tuple elts k pt) (.Call (.Name "enumerate" p) [l] [] pos) (Pb X.K ta):=by
 intro pi s σ H R I h;refine Call_ (M9 I hg hm boot_enumerate (PyProof.Rows.callWith_type1 (a8 (ha pos pi s σ H _ I h) fun us s1 af=>?_) hs rfl));obtain⟨vs,H1,I1,r1,q1⟩:=af;obtain⟨a,rfl,⟨xs,hq⟩,q⟩:=q1;obtain⟨u,rfl,ru⟩:=r1.one;cases ru;obtain⟨its,rv,pl,hz⟩:=I1.tuple hq;refine pL pl fun h' he hi hk=>?_
 refine wpAny_pyIter_enum he ?_;have I2:Inv X pi σ H1 { s1 with heap:=h' }:=I1.kept (t':=s1.toks) hk;refine⟨_,[s1.heap.objs.size+1,s1.heap.objs.size],_,_,H1,rfl,I2,nR a _ _ (Nat.succ_ne_self _),⟨⟨_,he⟩,hi⟩,fun b hb=>?_,q⟩;have g7:s1.heap.objs.size≤b:=by
  rcases cg hb with rfl | hb
  ·exact qq _
  ·have:b=s1.heap.objs.size:=by simpa using hb
   rw[this];exact aT _
 exact I1.pq g7 (I1.az.fresh g7)
end L2
namespace WL
open PySem PySem.Spec PyProof.Rows L2
section
variable{a:Expr}
theorem yG{k:Nat}{pt:Pos}(hg:Gl X "enumerate")(hm:X.mg "enumerate" = none)(ha:PE X a (tD C X.K pa))(hs:starEach [a] X.env=[(false,eval a X.env)]:=by rfl):PI X (.Tuple elts k pt) (.Call (.Name "enumerate" p) [a] [] pos) (mT C X.K (.CH pa)):=
 (zM hg hm (J5 ha JM hs) hs).imp fun σ H R hq=>by
 obtain⟨aj,m,ρ,w,ae,S,M,e,q⟩:=hq;obtain⟨⟨x,m1⟩,e1,e⟩:=aS e;cases x with
 | tup xs=>
  cases e;refine⟨aj,m,ρ,_,ae,S,M,e1,fun v H1 au g1 M1 A1=>?_⟩;obtain⟨p,vs,rfl,h,as⟩:=A1;refine⟨p,rfl,⟨vs,h.sq⟩,q _ H1 au g1 M1 fun i ρ' tN aa hf hr il ok=>?_⟩;have h':dv X.K aa p vs:=(h.mono hf).sq;have Cz:=as.di (ρ':=ρ') hf hr;refine⟨fun d e=>?_,fun hl=>⟨vs,h',by rw[as.len];rw[X6]at hl;exact hl⟩⟩;have e:(O6 xs 0)[i]?=some d:=e;rw[X7]at e;obtain⟨d',aI,rfl⟩:=b5 e;obtain⟨v,e3,a3⟩:=Cz.get aI;refine⟨⟨vs,v,h',e3⟩,fun x H2 y=>?_⟩;obtain⟨l,y,hl,rfl,⟨ob,hc,hd,rfl⟩,hy⟩:=y;have:=hy vs h';rw[e3]at this;cases this;have kz:r9 aa (upd aa l (.bt ob (.tup [.int i,v]))):=fun b u z=>by rw[CK (FZ z hl)];exact z
  have uA:HJ aa (upd aa l (.bt ob (.tup [.int i,v]))):=fW hl;exact⟨kz,l,_,rfl,⟨ob,hc,hd,.inl CT⟩,_,_,rfl,by rw[Nat.zero_add];rfl,_,_,rfl,a3.di uA (.refl _),rfl⟩
 | _=>cases e
end
theorem lV{K:p4}{ρ:List Addr}{H:Hp}:∀{ds:List D} {ks:List FK} {vs:List V},VJ ds=some ks→a6 K ρ H ds vs→∃fs:List (FK×Addr),fs.map (·.1)=ks∧vs=(fs.map fun x=>V.ref x.2)∧(∀x∈fs,YF K H x.1 x.2)∧∀x∈fs,At K ρ H (fD x.1) (.ref x.2)
 | [],ks,vs,e,as=>by
  cases e;cases (show vs=[] from as);exact⟨[],rfl,rfl,fun x hx=>(nomatch hx),fun x hx=>(nomatch hx)⟩
 | d::r,ks,vs,e,as=>by
  obtain⟨k,e1,e⟩:=aS (show ((nN d).bind fun k=>(VJ r).map fun ks=>k::ks)=some ks from e);obtain⟨bu,e2,rfl⟩:=b5 e;obtain⟨v,us,rfl,a1,a2⟩:=as;have hd:=E4 e1;subst hd;obtain⟨b,rfl,hb⟩:=zo a1;obtain⟨fs,g1,rfl,g3,g4⟩:=lV e2 a2;refine⟨(k,b)::fs,by rw[ck,g1],rfl,fun x hx=>?_,fun x hx=>?_⟩
  ·rcases cg hx with rfl | hx
   ·exact hb
   ·exact g3 x hx
  ·rcases cg hx with rfl | hx
   ·exact a1
   ·exact g4 x hx
section
variable{a:Expr}
end
end WL
namespace L2
open PySem PySem.Spec PyProof.Rows
noncomputable def GG(a:Addr)(o:Obj)(kvs:List (Key×V)):It:=
 ⟨fun i H=>H a=some (.bt o (.dK kvs))∧∃p,kvs[i]?=some p,fun i H x aa=>aa=H∧∃p,kvs[i]?=some p∧x=kV p.1,fun i H=>H a=some (.bt o (.dK kvs))∧kvs.length≤i⟩
theorem Bi{o:Obj}{es:Array DictEntry}{ep:Nat}(ok:eg P w H h)(e:H a=some (.bt o (.dK kvs)))(he:o.data=.dict es ep):∃vs,KV kvs vs∧h.DictAt (CQ P w) a vs ep:=by
 obtain⟨ho,_,_,vs,kv,bP,km,jg,g1,g2,g3,g4⟩:=(show du P w H h a (.bt o (.dK kvs)) from ok a _ e)
 rw[ho]at g1;cases g1;rw[he]at g3;cases g3;exact⟨vs,kv,o,es,ho,g2,he,g4⟩
theorem aO{vs:List (Key×Value)}(h:KV kvs vs):vs.length=kvs.length:=by
 induction h with
 | nil=>rfl
 | cons _ _ ih=>simp[ih]
theorem OU{vs:List (Key×Value)}(h:KV kvs vs):∀{i:Nat} {p:Key×V},kvs[i]?=some p→∃v,vs[i]?=some (p.1,v):=by
 induction h with
 | nil=>intro i p e;simp at e
 | cons a b ih=>
  intro i p e;cases i with
  | zero=>
   simp only[List.getElem?_cons_zero,Option.some.injEq]at e;subst e
   rename_i x y _ _
   exact⟨y.2,congrArg some (Prod.ext a.1.symm rfl)⟩
  | succ i=>exact ih (by simpa using e)
theorem LY{k:Key}(h:(CQ P w).is k u=true):RelV (kV k) u:=by
 have h:KH k u=true:=h;cases k with
 | inl i=>cases u<;>first | (cases h;done) | (simp[KH,Value.isInt]at h;subst h;exact⟨_,rfl⟩)
 | inr x=>cases u<;>first | (cases h;done) | (simp[KH,Value.isStrOf]at h;subst h;exact⟨_,rfl⟩)
theorem uE{o:Obj}{es:Array DictEntry}{ep:Nat}(a it:Addr)(kvs:List (Key×V))(he:o.data=.dict es ep):Turn P w K tg (GG a o kvs) [it] it (fun i h=>h.IsKeyIter it a i kvs.length ep) where
 mem:=by simp
 obj:=fun i h st b hb=>by
  have e:b=it:=by simpa using hb
  subst e;obtain⟨o,e,c,d⟩:=st;exact⟨o,e,fun v z=>by rw[d]at z;cases z⟩
 keep:=fun i h h' st k=>st.at fun o e=>k it (by simp) o e
 item:=by
  intro X hP hw hK hc i pi s σ H E I hf st hg;subst hP hw hK;obtain⟨hq,p,hx⟩:=hg;obtain⟨vs,kv,dd⟩:=Bi I.az hq he;obtain⟨v,hv⟩:=OU kv hx;obtain⟨f0,f1,f2,f3,f4,f5⟩:=hf it (by simp);refine wpAny_pyNext_dict_item (by rw[aO kv];exact st) dd hv fun key h' hk gy sb=>?_
  rw[aO kv]at gy;have I1:Inv X pi σ H { s with heap:=h' }:=I.turned (t':=s.toks) (fun b o hb e=>(sb.2 b hb).trans e) f0 f1 f3 f4 f5;exact⟨key,rfl,letGo_keyiter (s':={ s with heap:=h' }) gy ⟨kV p.1,H,I1,LY hk,⟨rfl,p,hx,rfl⟩,gy,fun b hb=>(hf b hb).1⟩⟩
 done:=by
  intro X hP hw hK hc i pi s σ H E I hf st hg;subst hP hw hK;obtain⟨hq,hx⟩:=hg;obtain⟨vs,kv,dd⟩:=Bi I.az hq he;obtain⟨f0,f1,f2,f3,f4,f5⟩:=hf it (by simp);exact wpAny_pyNext_dict_end (I.ok.hd hc) (by rw[aO kv];exact st) dd (List.getElem?_eq_none (by rw[aO kv];exact hx)) fun h' eb=>⟨rfl,I.turned (t':=s.toks) (fun b o hb e=>eb b o hb e) f0 f1 f3 f4 f5⟩
 self:=fun _ _ _ _ _ st h=>wpAny_pyIter_keyiter st h
theorem L9{l:Expr}{tl:TE}(hl:PE X l tl):PI X tg l (fun σ H R=>tl σ H fun x H1=>∃a o kvs,x=.ref a∧H1 a=some (.bt o (.dK kvs))∧R (GG a o kvs) H1):=by
 intro pi s σ H R I h;refine a8 (hl pi s σ H _ I h) fun v s1 af=>?_
 obtain⟨x,H1,I1,r1,q1⟩:=af;obtain⟨a,o,kvs,e,hq,q⟩:=q1;subst e;cases r1;obtain⟨ho,_,lo,ig,YA,bP,es,ep,g1,g2,g3,g4⟩:=(show du X.prog X.w H1 s1.heap a (.bt o (.dK kvs)) from I1.az a _ hq)
 rw[ho]at g1;cases g1;obtain⟨vs,kv,dd⟩:=Bi I1.az hq g3;refine wpAny_pyIter_dict lo dd ?_;refine⟨s1.heap.objs.size,[s1.heap.objs.size],_,_,H1,rfl,I1.kept (t':=s1.toks) fun b o e=>cz _ e,uE a _ kvs g3,⟨_,c8 _ rfl,rfl,by rw[aO kv];rfl⟩,fun b hb=>?_,q⟩;have e:b=s1.heap.objs.size:=by simpa using hb
 subst e;exact I1.pq (aT _) (I1.az.fresh (aT _))
end L2
namespace WL
open PySem PySem.Spec PyProof.Rows L2
theorem OZ:∀x:Key,At K ρ H (dQ x) (kV x)
 | .inl _=>rfl
 | .inr _=>rfl
section
variable{a:Expr}
theorem qL(ha:PE X a (tD C X.K pa)):PI X tg a (mT C X.K (.keys pa)):=(L9 ha).imp fun σ H R af=>by
 obtain⟨aj,m,ρ,w,ae,S,M,e,q⟩:=af;obtain⟨⟨x,m1⟩,e1,e⟩:=aS e;refine⟨aj,m,ρ,x,m1,S,M,e1,fun v H1 au g1 M1 A1=>?_⟩;cases x with
 | aq ks vs=>
  cases e;obtain⟨p,o,kvs,rfl,hp,hk,as⟩:=A1;refine⟨p,o,kvs,rfl,hp,q _ H1 au g1 M1 fun i ρ' ae aa hf hr il _=>?_⟩;have Av:=hf _ _ _ hp;have hl:ks.length=kvs.length:=by rw[←hk,a9]
  refine⟨fun d ed=>?_,fun hle=>⟨Av,by rw[←hl];simpa using hle⟩⟩;rw[eS]at ed;obtain⟨y,ey,rfl⟩:=b5 ed;rw[←hk,eS]at ey;obtain⟨f6,jg,rfl⟩:=b5 ey;refine⟨⟨Av,f6,jg⟩,fun z H2 yl=>?_⟩;obtain⟨rfl,p2,e2,rfl⟩:=yl;rw[jg]at e2;cases e2;exact⟨.refl _,OZ _⟩
 | _=>cases e
theorem LJ{p0:Pos}(ho:PE X a (tD C X.K pa))(g9:attributeBase a "pop" X.env (eval a X.env)=eval a X.env:=by rfl)(ml:((backTo bS (starEach [Expr.Constant (.int 0) j p0] X.env)).all (fun x=>!x.1)&&(backToKw bS (keywordEach [] X.env)).all (fun x=>x.1.isSome)
   &&decide (([Expr.Constant (.int 0) j p0]:List Expr).length+([]:List Keyword).length+(if ([]:List Keyword).isEmpty then 0 else 1)<30))=true:=by rfl)(ia:(apos.endLine==bS.line)=true:=by rfl)(hs:starEach [Expr.Constant (.int 0) j p0] X.env=[(false,eval (Expr.Constant (.int 0) j p0) X.env)]:=by rfl):PE X (.Call (.Attribute a "pop" apos) [.Constant (.int 0) j p0] [] bS) (tD C X.K (.AS pa)):=
 (dR PySem.F.plainAttrs_list PySem.F.slot_list_pop PySem.F.type_list_pop Kv ho (J5 zQ JM hs) g9 ml ia hs rfl).imp fun σ H Q af=>by
 obtain⟨aj,m,ρ,d,ae,S,M,e,q⟩:=af;obtain⟨⟨x,m1⟩,e1,e⟩:=aS e;refine⟨aj,m,ρ,x,m1,S,M,e1,fun v H1 au g1 M1 A1=>?_⟩;cases x with
 | ak i=>
  obtain⟨p,hi,rfl⟩:=A1;have e:(match m1[i]? with
   | some (.lst (d::r))=>some (d,m1.set i (.lst r))
   | _=>none)=some (d,ae):=e
  split at e
  ·rename_i d' r hm
   cases e;obtain⟨vs,hp,as⟩:=M1.at' i p _ hi hm;obtain⟨y,vr,rfl,a3,ar⟩:=as;have eJ:HJ H1 (upd H1 p (.lst vr)):=fun i5 bP gz cp=>by
    rw[CK]
    ·exact cp
    ·rintro rfl;rw[hp]at cp;cases cp
   obtain⟨M4,g4⟩:=M1.write (o:=.lst vr) (q:=.lst r) hi ⟨_,CT,ar.di eJ (.refl _)⟩;refine⟨.inl ⟨rfl,_,.of hp⟩,p,y::vr,0,0,y,rfl,rfl,hp,by decide,by decide,by simp[seqIndex?],rfl,q _ _ au (g1.trans g4) M4 ((a3.di (fun _ _ _ z=>z) (.take au i)).mono M1 g4)⟩
  ·cases e
 | _=>cases e
end
end WL
namespace L2
open PySem PySem.Spec PyProof.Rows
noncomputable def PV(td te:TE):TE:=fun σ H Q=>td σ H fun x H1=>∃a,x=.ref a∧BO H1 a∧te σ H1 fun y H2=>∃b ob kvs more,y=.ref b∧H2 a=some (.dK kvs)∧H2 b=some (.bt ob (.dK more))∧kvs.length+more.length≤sizeLine∧Q .ao (upd H2 a (.dK (JN kvs more)))
theorem Mg(ho:PE X o td)(he:PE X e te)(m:M1 X o "update" apos e bS):PE X (.Call (.Attribute o "update" apos) [e] [] bS) (PV td te):=by
 intro pi s σ H Q I h;refine wpAny_Call_method m.base m.CS m.line PySem.F.plainAttrs_dict PySem.F.slot_dict_update PySem.F.type_dict_update (a8 (ho pi s σ H _ I h) fun u s1 af=>?_);obtain⟨x,H1,I1,rx,a,ex,d,q1⟩:=af;subst ex;obtain rfl:u=Value.ref a:=rx;obtain⟨t1,t2,_⟩:=pB I1 d;refine⟨t1,t2,?_⟩;rw[m.trees];refine Calls.callWith_builtin rfl (Calls.evalArgs_plain (qy (a8 (he pi s1 σ H1 _ I1 q1) fun iv s2 af=>?_)));obtain⟨y,H2,I2,ry,b,ob,kvs,more,ey,ea,eb,hz,q2⟩:=af;refine sj ?_;subst ey;obtain rfl:iv=Value.ref b:=ry;obtain⟨z,hd,vs,rel,dd⟩:=FV I2.az ea;obtain⟨z2,hd2,ws,JE,nK⟩:=S5 I2.az (.inr ⟨ob,eb⟩);have c9:a≠b:=by
  rintro rfl;rw[ea]at eb;cases eb
 refine call_meetsIn PySem.F.slot_dict_update dd.typeIs PySem.F.entry_dict_update (PySem.F.args_dict_update_2 _ _) (meets_dict_update (CQ X.prog X.w) a b c9 hd2) ⟨vs,ws,dd,nK,by rw[←rel.length,←JE.length];exact hz,fun h' nI _ hs=>?_⟩;have hq:∃q,h'.get? a=some q:=let ⟨q,_,_,hq,_⟩:=nI;⟨q,hq⟩
 have hl:(JN kvs more).length≤sizeLine:=eR (KZ more kvs) hz;exact⟨.ao,_,zr (t':=s2.toks) I2 (by rw[ea];exact True.intro) hs hq (j4 hl hd (JE.merge rel) nI),rfl,q2⟩
end L2
namespace WL
open PySem PySem.Spec PyProof.Rows L2
section
variable{a:Expr}
theorem Oh(ho:PE X a (tD C X.K pa))(he:PE X b (tD C X.K pb))(mm:M1 X a "update" apos b bS:=by exact⟨rfl,rfl,rfl,rfl⟩):PE X (.Call (.Attribute a "update" apos) [b] [] bS) (tD C X.K (.upd pa pb)):=
 (Mg ho he mm).imp fun σ H Q af=>by
 obtain⟨aj,m,ρ,d,ae,S,M,e,q⟩:=af;obtain⟨⟨x,m1⟩,e1,e⟩:=aS e;obtain⟨⟨ib,RA⟩,e0,e⟩:=aS e;obtain⟨⟨y,m2⟩,e2,e⟩:=aS e;refine⟨aj,m,ρ,x,m1,S,M,e1,fun v H1 au g1 M1 A1=>?_⟩;obtain⟨p,Ek,rfl,D3,_⟩:=S6 M1 A1 e0;refine⟨p,rfl,.inl ⟨Ek,D3⟩,aj,m1,au,y,m2,S.mono M g1,M1,e2,fun u H2 cS g2 M2 A2=>?_⟩;have ot:=A1.mono M1 g2;cases x with
 | ak i=>
  cases y with
  | aq ks vs=>
   obtain⟨f6,hi,e6⟩:=ot;cases e6;have e:(match m2[i]? with
    | some (.aq ib ig)=>if D.clean.cj vs&&decide (ib.length+ks.length≤1000) then some (D.ao,m2.set i (.aq (FP ib ig ks vs).1 (FP ib ig ks vs).2)) else none
    | _=>none)=some (d,ae):=e
   split at e
   ·rename_i ro Km hm
    split at e
    ·rename_i hz
     rw[gh,decide_eq_true_eq]at hz;cases e;obtain⟨kvs,hp,hk,as⟩:=M2.at' i p _ hi hm;obtain⟨fm,ob,more,rfl,hb,Ao,oQ⟩:=A2;have eJ:HJ H2 (upd H2 p (.dK (JN kvs more))):=fun i5 bP gz cp=>by
      rw[CK]
      ·exact cp
      ·rintro rfl;rw[hp]at cp;cases cp
     have l1:kvs.length=ro.length:=by rw[←hk,a9]
     have l2:more.length=ks.length:=by rw[←Ao,a9]
     have kp:=dS.AU (K:=X.K) (ρ:=cS.take i) (H:=upd H2 p (.dK (JN kvs more))) (dS.di eJ (.refl _) ⟨hk,as⟩) ⟨Ao,oQ.clean (ρ':=cS.take i) eJ hz.1⟩;obtain⟨M4,g4⟩:=M2.write (o:=.dK (JN kvs more)) (q:=.aq (FP ro Km ks vs).1 (FP ro Km ks vs).2) hi ⟨_,CT,kp⟩;exact⟨fm,ob,kvs,more,rfl,hp,hb,by rw[l1,l2,eI];lia,q _ _ cS (g1.trans (g2.trans g4)) M4 rfl⟩
    ·cases e
   ·cases e
  | _=>cases e
 | _=>cases e
end
end WL
namespace PySem
open Sem (wp)
namespace F
theorem Rx:typeLookup (.type "list") (Str.ofString "keys")=pure none:=by rw[jx,jy];kernel_rfl
end F
theorem vO{o:Obj}{k:Nat}{Q:Option Value→Shared→Prop}(hx:s.heap.get? a=some o)(hc:o.cls=.type "list")(fA:o.data=.seq xs k)(hd:o.dict=none)(hA:A.handled=none)(h:∀h' tk,(∀b ob,s.heap.get? b=some ob→h'.get? b=some ob)→Q none { s with heap:=h',toks:=tk }):wpAny (model prog w) A (getAttr? (.ref a) "keys") Q E s:=by
 obtain⟨c,aq,dat,sl⟩:=o;simp only at hc fA hd;subst hc fA hd;obtain⟨hp,g,d,tk,os⟩:=s;have hT:∀qh,(⟨hp,g,d,qh,os⟩:Shared).TypeIs (.ref a) "list":=fun _=>⟨_,hx,rfl⟩
 have f1:=sub_AttributeError;have f3:=F.slot_list_getattribute.lookup;have f4:=F.slot_list_getattribute.bind (.ref a);have f5:=am_list_getattr_none;have n1:(["__module__","__name__","__qualname__","__doc__","__annotations__"]:List Str).contains (Str.ofString "keys")=false:=by decide +kernel
 have n2:(Str.ofString "keys").length+100≤sizeLine:=by decide +kernel
 unfold getAttr? getAttrBy? getAttrBy
 repeat (any_goals (first | assumption | exact hT _ | ((with_reducible show wpAny _ _ (call (Value.builtin "list.__getattribute__") _ _) _ _ _);refine call_meets F.slot_list_getattribute (hT _) am_entry_list_getattribute (F.args_list_getattribute_2 _ _) (meets_getattribute_miss_list a xs k sl (Str.ofString "keys") _ F.Rx n1 n2) ⟨hx,hA,fun h' qh e kK=>?_⟩) | wp_step))
 obtain⟨t',gz,he⟩:=kK.there;show wpAny _ _ (getattributeRaised _ _ _ _ _ _ _) _ _ _;unfold getattributeRaised
 repeat (any_goals (first | assumption | wp_step))
 exact h _ _ kK.keeps
section
variable{K:Type}[DecidableEq K]{knd:KeyKind prog w K}
theorem Nj{d t:Addr}(hh:A.handled=none)(Dt:d≠t)(hit:it≠t)(sy:d≠it)(iP:∀u∈us,u≠.ref d∧u≠.ref it)(hz:us.length≤1000):
  ∀(n i:Nat) (s:Shared) (ps:List (K×Value)) (kvs:List (K×Value)),us.length-i=n→i≤us.length→s.heap.IsListIter it t i→s.heap.IsList t us.toArray→iq knd s.heap (us.drop i) ps→s.heap.DictOf knd d kvs→kvs.length+ps.length≤2000→
   (∀h' tk,h'.DictOf knd d (ps.foldl (fun acc p=>stored acc p.1 p.2) kvs)→(∀b o,b≠d→b≠it→s.heap.get? b=some o→h'.get? b=some o)→R (.ok (.ret .none)) { s with heap:=h',toks:=tk })→
   codeAny (model prog w) A (.builtin "dict.update.loop" ⟨[.ref d,.ref it,rawInt i,.none],[]⟩) R s:=by
 intro n
 induction n with
 | zero=>
  intro i s ps kvs hn hi hI hT hP hD hl hR;refine kl F.zv ?_;rw[k8 F.qw _];unfold Builtin.«dict.update.loop»;have DM:us.drop i=[]:=List.drop_eq_nil_of_le (by lia);rw[DM]at hP;cases hP;refine ab (wpAny_pyNext_list_end (A:=A.in1) hh hI hT (by simp;lia) fun h' hk=>?_);refine ab (m:=Builtin.Dict.addKeywords d []) (ah ?_);refine ah (hR h' s.toks ?_ fun b o _ hb e=>hk b o hb e);obtain⟨o,es,ep,ho,r⟩:=hD;exact⟨o,es,ep,hk _ _ sy ho,r⟩
 | succ n ih=>
  intro i s ps kvs hn hi hI hT hP hD hl hR;refine kl F.zv ?_;rw[k8 F.qw _];unfold Builtin.«dict.update.loop»;have bx:i<us.length:=by lia
  have Dr:us.drop i=us[i]::us.drop (i+1):=List.drop_eq_getElem_cons bx;rw[Dr]at hP;cases hP with
  | @cons u p EK qd q rest=>
  obtain⟨a,key,ea,hk,ha⟩:=q;have xx:=iP us[i] (List.getElem_mem bx);refine ab (wpAny_pyNext_list_item hI hT (x:=us[i]) (by simp[bx]) fun h1 jz dh=>?_);have Dj:i9 h1 a #[key,p.2]:=let ⟨o,ho,hc⟩:=ha;⟨o,(dh.2 a (fun z=>xx.2 (by rw[ea,z]))).trans ho,hc⟩
  have xh:h1.IsList t us.toArray:=let ⟨o,ho,hc⟩:=hT;⟨o,(dh.2 t (Ne.symm hit)).trans ho,hc⟩
  have C7:h1.DictOf knd d kvs:=let ⟨o,es,ep,ho,r⟩:=hD;⟨o,es,ep,(dh.2 d sy).trans ho,r⟩
  have De:iq knd h1 (us.drop (i+1)) qd:=iq.keep (d:=d) (it:=it) rest (fun u hu=>iP u (List.mem_of_mem_drop hu)) fun b o _ hb e=>(dh.2 b hb).trans e
  dsimp only;rw[ea];refine ab (gX ?_);have pair:wpAny (model prog w) A.in1 (Builtin.Dict.pairItems (.ref a)) (fun l s'=>l=[key,p.2]∧s'={ s with heap:=h1 }) (fun _ _=>False) { s with heap:=h1 }:=by
   obtain⟨o,ho,hc,m,hd⟩:=Dj;unfold Builtin.Dict.pairItems;refine ab (wpAny_typeOf (T:="tuple") ⟨o,ho,hc⟩ ?_);rw[ag (by simp)];refine ab (wpAny_seqItems ho hd (ah ⟨by simp,rfl⟩))
  refine ab (wpAny_tryCatch (fb pair (fun l s' uB=>?_) fun _ _ f=>f.elim));obtain⟨rfl,rfl⟩:=uB;have hlen:kvs.length≤sizeLine:=by rw[eI];lia
  refine gX (wpAny_dictSet_pairs (s:={ s with heap:=h1 }) hk C7 (fun h2 C8 ee=>?_) hlen);refine ah ⟨plainId_quiet F.qw _,?_⟩;have ei:(i:Int)+1=((i+1:Nat):Int):=by lia
  rw[ei];have jl:∀b o,b≠d→h1.get? b=some o→h2.get? b=some o:=fun b o hb e=>(ee.2 b hb).trans e
  refine ih (i+1) { s with heap:=h2,toks:=s.toks+1 } qd (stored kvs p.1 p.2) (by lia) (by lia) (jz.at fun o e=>jl it o (Ne.symm sy) e) (let ⟨o,ho,hc⟩:=xh;⟨o,jl t o (Ne.symm Dt) ho,hc⟩)
   (iq.keep (d:=d) (it:=it) De (fun u hu=>iP u (List.mem_of_mem_drop hu)) fun b o hb _ e=>jl b o hb e) C8 ?_ fun h' tk C6 jb=>?_
  ·have:=dG kvs p.1 p.2
   rw[kn]at hl;lia
  ·exact hR h' tk C6 fun b o xk xl e=>jb b o xk xl (jl b o xk ((dh.2 b xl).trans e))
theorem Nk{t:Addr}{o:Obj}{m:Nat}{ps:List (K×Value)}(hh:A.handled=none)(ho:s.heap.get? t=some o)(hc:o.cls=.type "list")(hd:o.dict=none)(fA:o.data=.seq us.toArray m)(hP:iq knd s.heap us ps)(hz:us.length≤1000)(SH:sysModules<s.heap.objs.size)(h:∀h' tk,h'.DictOf knd s.heap.objs.size (ps.foldl (fun acc p=>stored acc p.1 p.2) [])→(∀b ob,s.heap.get? b=some ob→h'.get? b=some ob)→Q (.ref s.heap.objs.size) { s with heap:=h',toks:=tk }) :
  wpAny (model prog w) A (call (.type "dict") [.ref t]) Q E s:=by
 refine callType_codes (Q₁:=fun obj bc=>obj=.ref s.heap.objs.size∧bc={ s with heap:=s.heap.push { cls:=.type "dict",data:=.dict #[] } }) F.kt_called_dict (F.kt_typeCall_dict_1 _) F.entry_dict_init (kt_code_dict_new _ ⟨rfl,rfl⟩) ?_;rintro obj bc ⟨rfl,rfl⟩;have mv:(s.heap.push { cls:=.type "dict",data:=.dict #[] }).DictOf knd s.heap.objs.size []:=Heap.DictOf.new s.heap;refine⟨mv.typeIs,F.args_dict_init_2 _ _,?_⟩;generalize hH:s.heap.push { cls:=.type "dict",data:=.dict #[] }=H1 at mv;have k1:∀b ob,s.heap.get? b=some ob→H1.get? b=some ob:=fun b ob e=>by rw[←hH];exact cz _ e
 have dh:H1.objs.size=s.heap.objs.size+1:=by rw[←hH,kq]
 have xF:t<s.heap.objs.size:=bg ho;unfold Builtin.«dict.__init__»;refine ab ?_;unfold Builtin.Dict.selfAndRest;refine ab (wpAny_notOrdered_dict mv.typeIs ?_);show wpAny _ _ (pure (s.heap.objs.size,[Value.ref t])) _ _ _;refine ah ?_;show wpAny _ _ (Builtin.Dict.updateFrom "dict.__init__" s.heap.objs.size (.ref t) [] .none) _ _ _;unfold Builtin.Dict.updateFrom;refine ab (wpAny_typeOf (T:="list") ⟨o,k1 _ _ ho,hc⟩ ?_);rw[ag (by decide)];refine ab (vO (s:={ s with heap:=H1 }) (k1 _ _ ho) hc fA hd (show A.in1.in1.handled=none from hh) fun H2 tk k2=>?_);rw[ag (by rfl)];refine ab (jn ?_);have xi:H2.IsList t us.toArray:=⟨o,k2 _ _ (k1 _ _ ho),hc,m,fA⟩
 refine ab (wpAny_pyIter_list (s:={ s with heap:=H2,toks:=tk }) xi ?_);refine ah ⟨plainId_quiet F.qw _,?_⟩;have pT:s.heap.objs.size<H2.objs.size:=by
  obtain⟨od,_,_,ky,_⟩:=mv;exact bg (k2 _ _ ky)
 have iP:∀u∈us,∃a,u=.ref a∧a<s.heap.objs.size:=fun u hu=>hP.mem u hu
 have k3:∀b ob,H2.get? b=some ob→(H2.push { cls:=.type "list_iterator",data:=.fields #[.ref t,.int 0 0] }).get? b=some ob:=fun b ob e=>cz _ e
 refine Nj (knd:=knd) (A:=A.in1) (it:=H2.objs.size) (t:=t) (us:=us) hh (i7 xF) (i7 (Nat.lt_trans xF pT)) (b0 pT) (fun u hu=>?_) hz us.length 0 _ ps [] (by lia) (eM _) ⟨_,c8 _ rfl,rfl,rfl⟩
  (let ⟨ob,e,c⟩:=xi;⟨ob,k3 _ _ e,c⟩) ?_ ?_ ?_ fun h' qh hD hk=>?_
 ·obtain⟨a,rfl,ha⟩:=iP u hu
  exact⟨fun z=>by cases z;exact gp _ ha,fun z=>by cases z;exact gp _ (Nat.lt_trans ha pT)⟩
 ·rw[List.drop_zero]
  refine iq.keep (d:=s.heap.objs.size) (it:=s.heap.objs.size) hP (fun u hu=>?_) fun b ob _ _ e=>k3 _ _ (k2 _ _ (k1 _ _ e))
  obtain⟨a,rfl,ha⟩:=iP u hu;exact⟨fun z=>by cases z;exact gp _ ha,fun z=>by cases z;exact gp _ ha⟩
 ·obtain⟨od,es,ep,ky,r⟩:=mv
  exact⟨od,es,ep,k3 _ _ (k2 _ _ ky),r⟩
 ·have e:us.length=ps.length:=Paired.length hP
  simp only[List.length_nil];lia
 ·refine⟨rfl,h h' qh hD fun b ob e=>hk b ob (b0 (bg e)) (b0 (Nat.lt_trans (bg e) pT)) (k3 _ _ (k2 _ _ (k1 _ _ e)))⟩
end
end PySem
namespace L2
open PySem PySem.Spec PyProof.Rows
theorem pO(hc:X.calm=true):gb X (.type "dict") (fun xs H Q=>∃a vs kvs,xs=[.ref a]∧c6 X.K H a vs∧wI X.K H vs kvs∧kvs.length≤1000∧∀p,H p=none→Q (.ref p) (upd H p (.dK (JN [] kvs)))):=by
 intro pi s σ H xs us Q I r h;obtain⟨a,vs,kvs,rfl,ha,hp,hz,q⟩:=h;obtain⟨u,rfl,ru⟩:=vals1 r;cases ru;obtain⟨its,rv,pl,tu⟩:=I.list ha;obtain⟨o,e,cm,hd,m,fA⟩:∃o,s.heap.get? a=some o∧o.cls=.type "list"∧o.dict=none∧∃m,o.data=.seq its.toArray m:=by
  obtain⟨o,n,h1,h2,h3,h4⟩:=pl;exact⟨o,h1,h2,h3,n,h4⟩
 obtain⟨ps,DD,DZ⟩:=zK I hp rv;have hl:its.length=kvs.length:=by rw[←rv.length];exact Paired.length hp
 refine Nk (I.ok.hd hc) e cm hd fA DZ (by lia) I.big fun h' tk hD hk=>?_
 have I2:Inv X pi σ (upd H s.heap.objs.size (.dK (JN [] kvs))) { s with heap:=h',toks:=tk }:=I.laid (fun b ob e=>hk b ob e) (aT _) ?_
 ·exact⟨.ref _,_,I2,rfl,q _ (I.az.fresh (aT _))⟩
 ·refine j4 ?_ ?_ (GN kvs (P:=X.prog) (w:=X.w) DD .nil) hD
  ·have:=KZ kvs []
   simp only[List.length_nil]at this;rw[eI];lia
  ·have:=I.big
   simp only[beq_eq_false_iff_ne];exact i7 this
end L2
namespace WL
open PySem PySem.Spec PyProof.Rows L2
section
variable{a:Expr}
theorem uK:d7 X (.ug mu) (fun xs H Q=>∃a vs kvs,xs=[.ref a]∧c6 X.K H a vs∧wI X.K H vs kvs∧kvs.length≤1000∧∀p,H p=none→Q (.ref p) (upd H p (.dK (JN [] kvs)))):=by
 intro ρ m ae H dx d x Q M ax e q;obtain⟨xs,e0,e⟩:=aS (show ((FJ dx m).bind fun xs=>(pairsOf xs).bind fun z=>if z.1.length≤1000 then some (hV mu (FP [] [] z.1 z.2).1 (FP [] [] z.1 z.2).2 m) else none)=some (d,ae) from e);obtain⟨⟨ks,us⟩,e1,e⟩:=aS e;split at e
 ·rename_i hl
  have aI:=cE e;obtain⟨p,vs,rfl,hq,as⟩:=J6 M ax e0;obtain⟨kvs,h1,h2⟩:=QF e1 as;have dj:eB X.K ρ H (hV mu (FP [] [] ks us).1 (FP [] [] ks us).2 m).1 (hV mu (FP [] [] ks us).1 (FP [] [] ks us).2 m).2 Q:=by rw[aI];exact q
  have h3:=dS.AU (dS.nil (K:=X.K) (ρ:=ρ) (H:=H)) h2;exact⟨p,vs,kvs,rfl,hq,h1,by rw[←cF h2];exact hl,fun l hl=>dj.aq M h3.1 h3.2 hl⟩
 ·cases e
theorem jV(hc:X.calm=true)(hg:Gl X "dict")(hm:X.mg "dict" = none)(ha:PE X a (tD C X.K pa))(he:starEach [a] X.env=[(false,eval a X.env)]:=by rfl):PE X (.Call (.Name "dict" p) [a] [] pos) (tD C X.K (.b1 (.ug mu) pa)):=jT (pO hc) uK boot_dict hg hm ha (by decide) (by decide) he
end
noncomputable def vF:Nat→VK→VK
 | 0,Q=>Q
 | n+1,Q=>fun v H=>∃a u,H a=some u∧eX u∧∀o,vF n Q v (upd H a (.bt o u))
theorem Fc{X:Cx}{pi:List (Addr×Obj)}{σ:L2.St}{s:Shared}:∀(n:Nat) {Q:VK} {u:Value},EP X pi σ (vF n Q) u s→EP X pi σ Q u s
 | 0,_,_,h=>h
 | n+1,Q,u,a7=>by
  obtain⟨v,aa,I,r,a,w,ha,c,q⟩:=a7;obtain⟨o,h9⟩:=freeze I ha c;exact Fc n ⟨v,_,h9,r,q o⟩
theorem OK{t:TE}(h:PE X e t):PE X e (fun σ H Q=>∃n,t σ H (vF n Q)):=by
 intro pi s σ H Q I af;obtain⟨n,q⟩:=af;exact a8 (h pi s σ H _ I q) fun _ _ z=>Fc n z
noncomputable def rS(t:Str×Key):D:=.tup [.str t.1,dQ t.2]
noncomputable abbrev GL:=List (Str×Addr×List V)
noncomputable def fw(L:GL):List (Key×V):=L.map fun t=>(Sum.inr t.1,V.ref t.2.1)
def GR(K:p4)(ρ:List Addr)(H:Hp):ik→GL→Prop
 | [],[]=>True
 | a::r,b::q=>a.1=b.1∧a6 K ρ H (a.2.map rS) b.2.2∧GR K ρ H r q
 | _,_=>False
noncomputable def jK(L:GL)(x:Str)(v:V):GL:=L.map fun t=>if t.1=x then (t.1,t.2.1,t.2.2++[v]) else t
section
variable{H0:Hp}
theorem VF:∀{g:ik} {L:GL},GR K ρ H0 g L→g.map (·.1)=L.map (·.1)
 | [],[],_=>rfl
 | _::_,_::_,⟨a,_,c⟩=>by rw[ck,ck,a,VF c]
 | [],_::_,h=>h.elim
 | _::_,[],h=>h.elim
theorem EX{k:FK}{v:V}(hv:At K ρ H0 (rS k.2) v):∀{g:ik} {L:GL},GR K ρ H0 g L→GR K ρ H0 (g.map (fun p=>if p.1=k.1 then (p.1,p.2++[k.2]) else p)) (jK L k.1 v)
 | [],[],_=>trivial
 | a::r,b::q,a7=>by
  obtain⟨h1,h2,h3⟩:=a7;refine⟨?_,?_,EX hv h3⟩
  ·dsimp only
   by_cases e:a.1=k.1
   ·rw[ag e,ag (h1▸e)];exact h1
   ·rw[ai e,ai fun z=>e (h1.trans z)];exact h1
  ·dsimp only
   by_cases e:a.1=k.1
   ·rw[ag e,ag (h1▸e)]
    show a6 K ρ H0 ((a.2++[k.2]).map rS) (b.2.2++[v]);rw[ft];exact h2.snoc hv
   ·rw[ai e,ai fun z=>e (h1.trans z)];exact h2
 | [],_::_,h=>h.elim
 | _::_,[],h=>h.elim
theorem EW{k:FK}{v:V}{q:Addr}(hv:At K ρ H0 (rS k.2) v):∀{g:ik} {L:GL},GR K ρ H0 g L→GR K ρ H0 (g++[(k.1,[k.2])]) (L++[(k.1,q,[v])])
 | [],[],_=>⟨rfl,a6.one hv,trivial⟩
 | a::r,b::q,a7=>by
  obtain⟨h1,h2,h3⟩:=a7;exact⟨h1,h2,EW hv h3⟩
 | [],_::_,h=>h.elim
 | _::_,[],h=>h.elim
theorem FO{t:Str×Addr×List V}:∀{L:GL},(L.map (·.1)).Nodup→t∈L→K4 (fw L) (Sum.inr t.1)=some (.ref t.2.1)
 | a::r,hn,h=>by
  have hn:=nu (show (a.1::r.map (·.1)).Nodup from hn);rcases cg h with rfl | h
  ·exact J7 rfl
  ·rw[show fw (a::r)=(Sum.inr a.1,V.ref a.2.1)::fw r from rfl,HX fun e=>hn.1 (by rw[iF e];exact i6 h)]
   exact FO hn.2 h
theorem pD{x:Str}:∀{L:GL},x∉L.map (·.1)→K4 (fw L) (Sum.inr x)=none
 | [],_=>rfl
 | a::r,h=>by
  rw[show fw (a::r)=(Sum.inr a.1,V.ref a.2.1)::fw r from rfl,HX fun e=>h (by rw[←iF e];exact bX)];exact pD fun q=>h (b8 _ q)
theorem MS(L:GL)(x:Str)(v:V):fw (jK L x v)=fw L:=by
 unfold fw jK;rw[df];refine jv fun t _=>?_
 show (Sum.inr (if t.1=x then (t.1,t.2.1,t.2.2++[v]) else t).1,_)=_
 by_cases e:t.1=x
 ·simp[e]
 ·simp[e]
structure GS(K:p4)(ρ:List Addr)(H0:Hp)(p:Addr)(g:ik)(H:Hp)(L:GL):Prop where
 kp:∀c u,H0 c=some u→H c=some u
 p0:H0 p=none
 hp:H p=some (.dK (fw L))
 hl:∀t∈L,H t.2.1=some (.lst t.2.2)∧H0 t.2.1=none
 na:(L.map (·.2.1)).Nodup
 nn:(L.map (·.1)).Nodup
 gr:GR K ρ H0 g L
theorem GS.add{p:Addr}{g:ik}{L:GL}(S:GS K ρ H0 p g H L){k:FK}{v:V}(hv:At K ρ H0 (rS k.2) v){t:Str×Addr×List V}(ht:t∈L)(e:t.1=k.1):GS K ρ H0 p (FW g k) (upd H t.2.1 (.lst (t.2.2++[v]))) (jK L k.1 v):=by
 have sP:p≠t.2.1:=fun z=>by
  have:=(S.hl t ht).1;rw[←z,S.hp]at this;cases this
 have hk:g.any (fun q=>decide (q.1=k.1))=true:=by
  rw[C1];have:k.1∈g.map (·.1):=by rw[VF S.gr,←e];exact i6 ht
  obtain⟨q,hq,eq⟩:=dg this;exact⟨q,hq,dk eq⟩
 have m1:(jK L k.1 v).map (·.2.1)=L.map (·.2.1):=by
  unfold jK;rw[df];refine jv fun a _=>?_
  show (if a.1=k.1 then (a.1,a.2.1,a.2.2++[v]) else a).2.1=_;split<;>rfl
 have m2:(jK L k.1 v).map (·.1)=L.map (·.1):=by
  unfold jK;rw[df];refine jv fun a _=>?_
  show (if a.1=k.1 then (a.1,a.2.1,a.2.2++[v]) else a).1=_;split<;>rfl
 have uq:∀a∈L,a.1=k.1→a=t:=fun a ha ea=>by
  obtain⟨i,hi,e1⟩:=nE ha;obtain⟨j,hj,e2⟩:=nE ht;have:i=j:=(List.getElem_inj (h₀:=by simpa using hi) (h₁:=by simpa using hj) S.nn).mp (by simp[e1,e2,ea,e]);subst this;exact e1.symm.trans e2
 have ad:∀a∈L,a.2.1=t.2.1→a=t:=fun a ha ea=>by
  obtain⟨i,hi,e1⟩:=nE ha;obtain⟨j,hj,e2⟩:=nE ht;have:i=j:=(List.getElem_inj (h₀:=by simpa using hi) (h₁:=by simpa using hj) S.na).mp (by simp[e1,e2,ea]);subst this;exact e1.symm.trans e2
 refine⟨fun c u hc=>?_,S.p0,?_,fun a ha=>?_,by rw[m1];exact S.na,by rw[m2];exact S.nn,?_⟩
 ·rw[CK fun z=>by rw[z,(S.hl t ht).2]at hc;cases hc]
  exact S.kp c u hc
 ·rw[CK sP,MS];exact S.hp
 ·obtain⟨b,hb,rfl⟩:=dg ha
  by_cases eb:b.1=k.1
  ·obtain rfl:=uq b hb eb
   rw[ag eb];exact⟨CT,(S.hl b ht).2⟩
  ·rw[ai eb]
   have c9:b.2.1≠t.2.1:=fun z=>eb (by rw[ad b hb z];exact e)
   exact⟨by rw[CK c9];exact(S.hl b hb).1,(S.hl b hb).2⟩
 ·unfold FW
  rw[ag hk];exact EX hv S.gr
theorem GS.new{p:Addr}{g:ik}{L:GL}(S:GS K ρ H0 p g H L){k:FK}{v:V}(hv:At K ρ H0 (rS k.2) v)(hx:k.1∉L.map (·.1)){q:Addr}(hq:H q=none):
  GS K ρ H0 p (FW g k) (upd (upd (upd H q (.lst [])) p (.dK (putK (fw L) (Sum.inr k.1) (.ref q)))) q (.lst [v])) (L++[(k.1,q,[v])]):=by
 have af:H0 q=none:=by
  cases z:H0 q with
  | none=>rfl
  | some u=>rw[S.kp q u z]at hq;cases hq
 have Uk:p≠q:=fun z=>by rw[←z,S.hp]at hq;cases hq
 have hk:¬g.any (fun q=>decide (q.1=k.1))=true:=fun z=>by
  obtain⟨q,hq,eq⟩:=List.any_eq_true.mp z;exact hx (by rw[←VF S.gr,←gq eq];exact i6 hq)
 have Ul:putK (fw L) (Sum.inr k.1) (.ref q)=fw (L++[(k.1,q,[v])]):=by
  unfold putK;rw[ai (by rw[RJ,pD hx];simp)];simp[fw]
 have hn:∀t∈L,t.2.1≠q:=fun t ht z=>by
  have:=(S.hl t ht).1;rw[z,hq]at this;cases this
 refine⟨fun c u hc=>?_,S.p0,?_,fun a ha=>?_,?_,?_,?_⟩
 ·have h1:c≠q:=fun z=>by rw[z,af]at hc;cases hc
  have h2:c≠p:=fun z=>by rw[z,S.p0]at hc;cases hc
  rw[CK h1,CK h2,CK h1];exact S.kp c u hc
 ·rw[CK Uk,CT,Ul]
 ·rcases de ha with ha | ha
  ·have h2:a.2.1≠p:=fun z=>by
    have:=(S.hl a ha).1;rw[z,S.hp]at this;cases this
   rw[CK (hn a ha),CK h2,CK (hn a ha)];exact S.hl a ha
  ·rw[fg ha]
   exact⟨CT,af⟩
 ·rw[ft]
  refine List.nodup_append.mpr ⟨S.na,by simp,fun a ha b hb=>?_⟩;obtain⟨t,ht,rfl⟩:=dg ha;have:b=q:=by simpa using hb
  rw[this];exact hn t ht
 ·rw[ft]
  refine List.nodup_append.mpr ⟨S.nn,by simp,fun a ha b hb=>?_⟩;have:b=k.1:=by simpa using hb
  rw[this];exact fun z=>hx (z▸ha)
 ·unfold FW
  rw[ai hk];exact EW hv S.gr
theorem GS.freeze{p:Addr}{Q:VK}:∀(R i0:GL) {H:Hp},(∀c u,H0 c=some u→H c=some u)→H0 p=none→H p=some (.dK (fw (i0++R)))→(∀t∈R,H t.2.1=some (.lst t.2.2)∧H0 t.2.1=none)→(∀t∈i0,(∃o,H t.2.1=some (.bt o (.lst t.2.2)))∧H0 t.2.1=none)→((i0++R).map (·.2.1)).Nodup→
  (∀aa,(∀c u,H0 c=some u→aa c=some u)→(∃o,aa p=some (.bt o (.dK (fw (i0++R)))))→(∀t∈i0++R,∃o,aa t.2.1=some (.bt o (.lst t.2.2)))→Q (.ref p) aa)→vF (R.length+1) Q (.ref p) H
 | [],i0,H,kp,p0,hp,hR,hL,nd,q=>by
  refine⟨p,_,hp,trivial,fun o=>?_⟩;refine q _ (fun c u hc=>?_) ⟨o,CT⟩ fun t ht=>?_
  ·rw[CK fun z=>by rw[z,p0]at hc;cases hc];exact kp c u hc
  ·rw[pw]at ht
   obtain⟨⟨ob,e⟩,_⟩:=hL t ht;exact⟨ob,by rw[CK fun z=>by rw[z,hp]at e;cases e];exact e⟩
 | r::R,i0,H,kp,p0,hp,hR,hL,nd,q=>by
  obtain⟨h1,h2⟩:=hR r bX;refine⟨r.2.1,_,h1,trivial,fun o=>?_⟩;have e1:i0++r::R=(i0++[r])++R:=by simp
  rw[e1]at hp nd q;have u7:p≠r.2.1:=fun z=>by rw[←z,hp]at h1;cases h1
  have nr:∀t∈R,t.2.1≠r.2.1:=fun t ht z=>by
   rw[ft]at nd;exact(List.nodup_append.mp nd).2.2 r.2.1 (i6 (eQ _ bX)) t.2.1 (i6 ht) z.symm
  refine GS.freeze R (i0++[r]) (fun c u hc=>?_) p0 ?_ (fun t ht=>?_) (fun t ht=>?_) nd q
  ·rw[CK fun z=>by rw[z,h2]at hc;cases hc];exact kp c u hc
  ·rw[CK u7];exact hp
  ·obtain⟨a,b⟩:=hR t (b8 _ ht)
   exact⟨by rw[CK (nr t ht)];exact a,b⟩
  ·rcases de ht with ht | ht
   ·obtain⟨⟨ob,e⟩,z⟩:=hL t ht
    exact⟨⟨ob,by rw[CK fun y=>by rw[y,h1]at e;cases e];exact e⟩,z⟩
   ·rw[fg ht]
    exact⟨⟨o,CT⟩,h2⟩
theorem FL{aa:Hp}(hf:HJ H0 aa):∀{g:ik} {L:GL},GR K ρ H0 g L→(∀t∈L,∃o,aa t.2.1=some (.bt o (.lst t.2.2)))→a6 K ρ aa (g.map fun q=>.lst (q.2.map rS)) (L.map fun t=>V.ref t.2.1)
 | [],[],_,_=>rfl
 | a::r,b::q,a7,h=>by
  obtain⟨h1,h2,h3⟩:=a7;obtain⟨o,e⟩:=h b bX;exact⟨_,_,rfl,⟨b.2.1,o,b.2.2,rfl,e,h2.di hf (.refl _)⟩,FL hf h3 fun t ht=>h t (b8 _ ht)⟩
 | [],_::_,h,_=>h.elim
 | _::_,[],h,_=>h.elim
end
noncomputable def xH(K:p4):TS:=wZ (y0 xK (aW 1)) (wZ (Ge (Gq K (R7 0)) (Gr K 2 (Bh (aW 2) (Bh (aW 3) Gs))) (wZ (Bu (tB (fZ (R7 2) (R7 1))) (qO (R7 1) (R7 2) (Bt xG)) qG) (xJ (EH K "list" gY (xO (R7 1) (R7 2)) (xP (R7 3) xG))))) (Gd (fun σ H Q=>∃n,R7 1 σ H (vF n Q))))
theorem pC{H0:Hp}{p:Addr}{g:ik}{L:GL}{σ:L2.St}{k:FK}{v:V}{D:Ends}(S:GS K ρ H0 p g H L)(hv:At K ρ H0 (rS k.2) v)(h1:σ[1]?=some (some (.ref p)))(h2:σ[2]?=some (some (.str k.1)))(h3:σ[3]?=some (some v))(hL:L.length≤i)(hz:∀t∈L,t.2.2.length≤i)(hi:i<1000)(q:∀aa i0,GS K ρ H0 p (FW g k) aa i0→i0.length≤i+1→(∀t∈i0,t.2.2.length≤i+1)→D.nx σ aa) :
  wZ (Bu (tB (fZ (R7 2) (R7 1))) (qO (R7 1) (R7 2) (Bt xG)) qG) (xJ (EH K "list" gY (xO (R7 1) (R7 2)) (xP (R7 3) xG))) D σ H:=by
 have xE:∀n:Nat,n≤1000→n<sizeLine:=fun n hn=>by rw[eI];lia
 refine⟨_,h2,_,h1,p,_,rfl,jq.k (k:=Sum.inr k.1) S.hp,?_⟩
 by_cases hx:k.1∈L.map (·.1)
 ·obtain⟨t,ht,et⟩:=dg hx
  have AB:K4 (fw L) (Sum.inr k.1)=some (.ref t.2.1):=by rw[←et];exact FO S.nn ht
  refine⟨_,rfl,?_⟩;rw[AB];simp only[Option.isSome_some,Bool.not_true,Bool.false_eq_true,if_false];unfold qG;dsimp only;refine⟨_,h1,_,h2,p,.ref t.2.1,rfl,?_,.inl ⟨rfl,_,.of (S.hl t ht).1⟩,_,h3,t.2.1,t.2.2,v,rfl,rfl,(S.hl t ht).1,xE _ (by have:=hz t ht;lia),?_⟩
  ·rw[←AB];exact jq.k (k:=Sum.inr k.1) S.hp
  ·refine q _ _ (S.add hv ht et) (by unfold jK;rw[a9];lia) fun a ha=>?_
   obtain⟨b,hb,rfl⟩:=dg ha;have:=hz b hb;split
   ·rw[fN,l9];lia
   ·lia
 ·have AB:K4 (fw L) (Sum.inr k.1)=none:=pD hx
  refine⟨_,rfl,?_⟩;rw[AB];simp only[Option.isSome_none,Bool.not_false,if_true];show qO _ _ _ _ σ H;refine⟨eM _,fun r hr=>⟨_,h1,_,h2,p,_,rfl,.inl ⟨fw L,Sum.inr k.1,?_,rfl,?_,rfl⟩,?_⟩⟩
  ·rw[CK fun z=>by rw[←z,S.hp]at hr;cases hr];exact S.hp
  ·unfold fw;rw[a9];exact xE _ (by lia)
  ·have u7:r≠p:=fun z=>by rw[z,S.hp]at hr;cases hr
   have e1:upd (upd H r (.lst [])) p (.dK (putK (fw L) (Sum.inr k.1) (.ref r))) r=some (.lst []):=by rw[CK u7,CT]
   refine⟨_,h1,_,h2,p,.ref r,rfl,?_,.inl ⟨rfl,_,.of e1⟩,_,h3,r,[],v,rfl,rfl,e1,xE _ (eM _),?_⟩
   ·have e2:K4 (putK (fw L) (Sum.inr k.1) (.ref r)) (Sum.inr k.1)=some (.ref r):=by rw[wM,ag rfl]
    rw[←e2];exact jq.k (k:=Sum.inr k.1) CT
   ·refine q _ _ (S.new hv hx hr) (by rw[fN,l9];lia) fun a ha=>?_
    rcases de ha with ha | ha
    ·have:=hz a ha;lia
    ·rw[fg ha]
     show 1≤i+1;lia
theorem vH{E:Ends}{σ:L2.St}(h4:σ.length=4)(h:YH C W K (.cons (.ret (.b1 .group (.var 0))) .nil) E σ H):xH K E σ H:=by
 obtain⟨aj,m,ρ,o,ae,S,M,e,q⟩:=h;have e:((((match aj[0]? with | some (some d)=>some (d,m) | _=>none).bind fun z:D×Mem=>cy .group z.1 z.2).map fun z:D×Mem=>(Out.rt z.1,z.2)).bind fun z:Out×Mem=>match z.1 with | .nx σ'=>aE C W .nil σ' z.2 | .rt d=>some (.rt d,z.2))=some (o,ae):=e;obtain⟨⟨o1,m1⟩,e1,e⟩:=aS e;obtain⟨⟨d1,m2⟩,e2,e1⟩:=b5 e1;cases e1;cases e;obtain⟨⟨d0,m3⟩,e3,e2⟩:=aS e2;split at e3
 ·rename_i XT xn
  cases e3;cases d0 with
  | tup xs=>
   obtain⟨ks,e4,e5⟩:=aS (show ((VJ xs).bind fun ks=>if ks.length≤1000 then some (J1 (ks.foldl FW []),m) else none)=some (d1,m2) from e2);split at e5
   ·rename_i hlen
    cases e5;obtain⟨v0,AA,a,vs,rfl,hT,as⟩:=S.2 0 _ xn;obtain⟨fs,g1,rfl,g3,g4⟩:=lV e4 as;have uy:fs.length=ks.length:=by rw[←g1,a9]
    intro p hp;have I0:∀c u,H c=some u→upd H p (.dK []) c=some u:=fun c u hc=>by rw[CK fun z=>by rw[z,hp]at hc;cases hc];exact hc
    have Ad:∀aa,(∀c u,H c=some u→aa c=some u)→dv K aa a (fs.map fun x=>V.ref x.2):=fun aa k=>(hT.mono fun b ob u z=>k b _ z).sq
    have h0:(σ.set 1 (some (.ref p)))[0]?=some (some (V.ref a)):=by rw[List.getElem?_set_ne (by decide)];exact AA
    have h1:(σ.set 1 (some (.ref p)))[1]?=some (some (V.ref p)):=List.getElem?_set_self (by lia);refine⟨_,h0,a,rfl,⟨_,Ad _ I0⟩,fun i mm σ' aa=>mm+i=fs.length∧σ'.length=4∧σ'[0]?=some (some (V.ref a))∧σ'[1]?=some (some (V.ref p))∧∃L,GS K ρ H p ((ks.take i).foldl FW []) aa L∧L.length≤i∧∀t∈L,t.2.2.length≤i,⟨fs.length,rfl,by rw[List.length_set];exact h4,h0,h1,[],⟨I0,hp,CT,fun t ht=>(nomatch ht),nB,nB,trivial⟩,aT _,fun t ht=>(nomatch ht)⟩,?_⟩;rintro i mm σ' aa ⟨hm,xq,s0,s1,L,G,hL,hz⟩
    by_cases hi:i<fs.length
    ·have hx:(fs.map fun x=>V.ref x.2)[i]?=some (.ref fs[i].2):=by rw[eS,fo hi];rfl
     refine .inr ⟨⟨_,_,Ad _ G.kp,hx⟩,fun hX H2=>fs.length-(i+1)+(i+1)=fs.length∧hX.length=4∧hX[0]?=some (some (V.ref a))∧hX[1]?=some (some (V.ref p))∧∃L,GS K ρ H p ((ks.take (i+1)).foldl FW []) H2 L∧L.length≤i+1∧∀t∈L,t.2.2.length≤i+1,fun hX H2 z=>⟨_,by lia,z⟩,fun x H2 y=>?_⟩;obtain⟨rfl,y⟩:=y;have ex:=(y _ (Ad _ G.kp)).symm.trans hx;cases ex;have Tf:fs[i]∈fs:=List.getElem_mem hi;obtain⟨b,us,eb,hf,v1,r1,rfl,a1,v2,r2,rfl,a2,a3⟩:=g4 _ Tf;cases eb;cases (show v1=.str fs[i].1.1 from a1);cases (show r2=[] from a3);refine⟨_,_,rfl,(hf.mono fun b ob u z=>G.kp b _ z).sq,rfl,_,_,rfl,_,_,rfl,rfl,?_⟩;have Tz:ks[i]?=some fs[i].1:=by rw[←g1,eS,fo hi];rfl
     have Uz:(ks.take (i+1)).foldl FW []=FW ((ks.take i).foldl FW []) fs[i].1:=by rw[List.take_succ,Tz,List.foldl_append];rfl
     refine pC (k:=fs[i].1) G a2 ?_ ?_ ?_ hL hz (by lia) fun aa i0 Ra l1 l2=>⟨by lia,?_,?_,?_,i0,by rw[Uz];exact Ra,l1,l2⟩
     ·rw[List.getElem?_set_ne (by decide),List.getElem?_set_ne (by decide)];exact s1
     ·rw[List.getElem?_set_ne (by decide)];exact List.getElem?_set_self (by lia)
     ·exact List.getElem?_set_self (by rw[List.length_set];lia)
     ·rw[List.length_set,List.length_set];exact xq
     ·rw[List.getElem?_set_ne (by decide),List.getElem?_set_ne (by decide)];exact s0
     ·rw[List.getElem?_set_ne (by decide),List.getElem?_set_ne (by decide)];exact s1
    ·have Yg:i=fs.length:=by lia
     refine .inl ⟨⟨_,Ad _ G.kp,by rw[a9];lia⟩,L.length+1,_,s1,?_⟩;rw[sr (by lia)]at G;refine GS.freeze L [] G.kp G.p0 G.hp G.hl (fun t ht=>(nomatch ht)) G.na fun H2 k2 ⟨ob,DV⟩ sD=>?_
     have Tn:Go ρ ρ H H2:=⟨fun b u hb _=>k2 b u hb,List.prefix_rfl,fun _ z=>.inl z⟩
     have uA:HJ H H2:=fun b ob u z=>k2 b _ z
     have hM:bf K ρ m H2:=M.keep uA fun b hb=>by
      obtain⟨u,hu,_⟩:=M.there hb;rw[hu];exact k2 b u hu
     refine q H2 ρ Tn hM _ ⟨p,ob,fw L,rfl,DV,?_,?_⟩
     ·unfold fw
      rw[df];have:=VF G.gr;have e6:((ks.foldl FW []).map fun q=>(Sum.inr q.1:Key))=((ks.foldl FW []).map (·.1)).map Sum.inr:=by rw[df];rfl
      rw[e6,this,df];rfl
     ·have:=FL uA G.gr sD
      unfold fw;rw[df];exact this
   ·cases e5
  | _=>cases e2
 ·cases e3
theorem xX{Kf:List Stmt}(h:eC X Kf (xH X.K))(h4:X.N.length=4):eC X Kf (YH C W X.K (.cons (.ret (.b1 .group (.var 0))) .nil)):=fun pi s σ H D I q=>h pi s σ H D I (vH (I.len.trans h4) q)
end WL
namespace PySem
namespace F
theorem Wb:typeLookup (.type "list_reverseiterator") "__len__" = pure none:=by rw[jx,jy];kernel_rfl
theorem EB:typeLookup (.type "list_reverseiterator") "__length_hint__" = pure (some (.builtin "list_reverseiterator.__length_hint__")):=by rw[jx,jy];kernel_rfl
theorem Wc:isSubtype (.type "list_reverseiterator") (.type "list_reverseiterator")=pure true:=by rw[isSubtype_type];kernel_rfl
end F
section
variable{l:Addr}
theorem EB(hT:s.TypeIs (.ref I) "list_reverseiterator"){Q:Bool→Shared→Prop}(h:Q false s):wpAny (model prog w) A (Builtin.List.listLengthHint (.ref I)) Q E s:=by
 unfold Builtin.List.listLengthHint;refine ab (wpAny_specialOf hT F.Wb ?_);refine ab (wpAny_specialOf hT F.EB ?_);generalize qV:("list_reverseiterator.__length_hint__" : String)=xS
 wp_delta
 rw[show splitId xS=some ("list_reverseiterator","__length_hint__") from by subst qV;decide +kernel];subst qV;refine ab (wpAny_isInstance (T:="list_reverseiterator") (b:=true) hT F.Wc ?_);refine wpAny_ite_split (fun fc=>absurd fc (by decide)) (fun _=>?_);refine wpAny_ite_split (fun _=>?_) (fun fc=>absurd (by decide +kernel) fc);exact wpAny_ite_split (fun fc=>absurd fc (by decide +kernel)) (fun _=>ah h)
theorem oO(hh:A.handled=none)(hI:s.heap.IsRevIter I l ((items.size:Int)-1))(hl:s.heap.IsList l items)(hz:items.size≤sizeLine){R:List Value→Shared→Prop}(h:∀(h':Heap) (tk:Nat) (acc:Array Value),(∀b o,b≠I→s.heap.get? b=some o→h'.get? b=some o)→acc.toList=items.toList.reverse→R acc.toList { s with heap:=h',toks:=tk }) :
  wpAny (model prog w) A (collect (.ref I)) R E s:=by
 have HP:I<s.heap.objs.size:=let ⟨_,e,_⟩:=hI;bg e
 have TN:l<s.heap.objs.size:=let ⟨_,e,_⟩:=hl;bg e
 have DE:l≠I:=fun z=>by
  obtain⟨o,e,c,d⟩:=hI;obtain⟨bP,aI,cw,_⟩:=hl;rw[z,e]at aI;cases aI;rw[c]at cw;exact absurd cw (by decide)
 unfold collect;refine ab (wpAny_runValue (kl PyProof.Rows.entry_proto_collect' ?_));rw[k8 PySem.F.plain_proto_collect _];show wpAny _ A.in1 (newList [] >>= fun l=>again (.builtin "list.__iadd__" ⟨[l,.ref I],[]⟩)) _ _ s;refine ab (iL ?_);refine ah ⟨plainId_quiet PySem.F.plain_list_iadd _,kl PyProof.Rows.entry_list_iadd' ?_⟩;rw[k8 PySem.F.plain_list_iadd _];show wpAny _ A.in1 (Builtin.List.listExtendWith (.ref s.heap.objs.size) (.ref I) (.ref s.heap.objs.size)) _ _ _;generalize hH:s.heap.push { cls:=.type "list",data:=.seq ([]:List Value).toArray }=H1;have hL:H1.get? s.heap.objs.size=some { cls:=.type "list",data:=.seq #[] }:=by rw[←hH];exact c8 _ rfl
 have k1:∀b o,s.heap.get? b=some o→H1.get? b=some o:=fun b o e=>by rw[←hH];exact cz _ e
 have jz:H1.IsRevIter I l ((items.size:Int)-1):=hI.at fun o e=>k1 _ _ e
 have pS:H1.IsList l items:=hl.at fun o e=>k1 _ _ e
 have W:=Walks.listRev (prog:=prog) (w:=w) (A:=A.in1) (by simp[hh]) I l DE items;have st:(0:Nat)≤items.size∧H1.IsRevIter I l ((items.size:Int)-1-((0:Nat):Int))∧H1.IsList l items:=⟨eM _,by simpa using jz,pS⟩
 unfold Builtin.List.listExtendWith;refine ab (wpAny_typeOf (T:="list_reverseiterator") jz.typeIs ?_);rw[ai (by simp[Builtin.List.listSameRef,i7 HP])];refine ab (W.self 0 { s with heap:=H1 } _ _ st ?_);refine ab (gX (EB (s:={ s with heap:=H1 }) jz.typeIs ?_));refine wpAny_ite_split (fun q=>absurd q (by decide)) (fun _=>ah ⟨plainId_quiet PySem.F.plain_extend_loop _,?_⟩);have uu:s.heap.objs.size∉[I,l]:=fun z=>by
  rcases cg z with z | z
  ·exact absurd HP (by rw[←z];exact gp _)
  ·exact absurd TN (by rw[←fg z];exact gp _)
 refine codeAny_extend_loopS W.toS hz _ uu _ items.size 0 _ #[] 0 rfl (eM _) st hL (ItemsOf.nil _) fun s' gN cw hm md gS=>?_
 rw[Moved.eq_with hm];show wpAny _ A (load s.heap.objs.size >>= _) _ _ _;refine ab (wpAny_load md (ah (h s'.heap s'.toks gN (fun b o hb e=>?_) ?_)))
 ·have SR:b<s.heap.objs.size:=bg e
  refine hm.heap b o (fun z=>?_) (k1 b o e);rcases cg z with z | z
  ·exact absurd z (b0 SR)
  ·exact hb (fg z)
 ·apply List.ext_getElem?
  intro i;have hn:=gS.1
  by_cases hi:i<gN.size
  ·have e:gN[i]?=some gN[i]:=Array.getElem?_eq_getElem hi
   have e2:items[items.size-1-i]?=some gN[i]:=gS.2 i _ e;rw[Array.getElem?_toList,e,List.getElem?_reverse (by rw[fR];lia),fR,Array.getElem?_toList,e2]
  ·rw[List.getElem?_eq_none (by rw[fR];lia),List.getElem?_eq_none (by rw[List.length_reverse,fR];lia)]
theorem LX(hh:A.handled=none)(hI:s.heap.IsRevIter I l ((items.size:Int)-1))(hl:s.heap.IsList l items)(hz:items.size≤sizeLine)(h:∀(h':Heap) (tk:Nat),(∀b o,b≠I→s.heap.get? b=some o→h'.get? b=some o)→Q (.ref h'.objs.size) { s with heap:=h'.push { cls:=.type "tuple",data:=.seq items.reverse },toks:=tk }) :
  wpAny (model prog w) A (call (.type "tuple") [.ref I]) Q E s:=by
 have cd:codeAny (model prog w) A.in1 (.call (.builtin "tuple.__new__") ⟨[.type "tuple",.ref I],[]⟩) (wants (fun obj bc=>bc.TypeIs obj "tuple"∧Q obj bc) E) s:=by
  refine codeAny_of_tree ?_;show wpAny _ A.in1.in1 (do checkBuiltinCall "tuple.__new__" ⟨[.type "tuple",.ref I],[]⟩;again (.builtin "tuple.__new__" ⟨[.type "tuple",.ref I],[]⟩)) _ _ s;refine ab (wpAny_of_eq (F.newCall_tuple_1 _) (ah ⟨plainId_quiet F.plain_tuple_new _,kl F.entry_tuple_new ?_⟩));rw[k8 F.plain_tuple_new _];have kB:=sub_tuple_self;have Yh:=init_tuple_lookup;have Yn:=madeHere_tuple;have Sx:=hI.typeIs;have Tq:A.in1.in1.handled=none:=by simp[hh]
  wp_walk using wpAny_typeOf Sx,oO Tq hI hl hz
  intro h' tk acc hk gS;show wpAny _ _ (Builtin.Tuple.tupleExact acc.toList.toArray >>= fun v=>ret v) _ _ _;unfold Builtin.Tuple.tupleExact;refine ab (iL ?_ (by show acc.toList.toArray.size≤sizeLine;rw[dr,gS,List.length_reverse,fR];exact hz));refine ah ?_;have e:acc.toList.toArray=items.reverse:=by rw[gS];exact lP (by simp)
  rw[e];exact⟨⟨_,c8 _ rfl,rfl⟩,h h' tk hk⟩
 refine callType_codes (Q₁:=fun obj bc=>bc.TypeIs obj "tuple"∧Q obj bc) F.called_tuple (F.typeCall_tuple_1 _) F.entry_object_init cd fun obj bc h₁=>?_
 exact⟨h₁.1,F.args_object_init_2 obj _,object_init_meets F.called_tuple.init.lookup F.called_tuple.made (by decide) prog w A.in1 _ bc ⟨h₁.1,rfl,h₁.2⟩⟩
end
end PySem
namespace L2
open PySem PySem.Spec PyProof.Rows
theorem dN:∀{xs:List V} {us:List Value},Vals xs us→Vals xs.reverse us.reverse
 | _,_,.nil=>.nil
 | _,_,.cons r t=>by
  rw[List.reverse_cons,List.reverse_cons];exact(dN t).append (.cons r .nil)
def gU(K:p4)(vs:List V)(H1:Hp)(Q:VK):Prop:=∃a xs,vs=[V.ref a]∧c6 K H1 a xs∧∀l o,H1 l=none→o.cls=.type "tuple"→o.dict=none→Q (.ref l) (upd H1 l (.bt o (.tup xs.reverse)))
theorem uR{q2:Pos}(hc:X.calm=true)(jk:Gl X "tuple")(hJ:X.mg "tuple" = none)(mq:Gl X "reversed")(mr:X.mg "reversed" = none)(he:PE X e te)(dh:starEach [Expr.Call (.Name "reversed" p2) [e] [] q2] X.env=[(false,eval (.Call (.Name "reversed" p2) [e] [] q2) X.env)]:=by rfl)(ee:starEach [e] X.env=[(false,eval e X.env)]:=by rfl) :
  PE X (.Call (.Name "tuple" p1) [.Call (.Name "reversed" p2) [e] [] q2] [] q1) (fun σ H Q=>te σ H fun x H1=>gU X.K [x] H1 Q):=by
 intro pi s σ H Q I h;refine Call_ (M9 I jk hJ boot_tuple (PyProof.Rows.callWith_type1 ?_ dh rfl));have inner:wpAny (model X.prog X.w) X.A (eval (.Call (.Name "reversed" p2) [e] [] q2) X.env)
   (fun v s1=>∃a xs its r H1,v=.ref r∧Inv X pi σ H1 s1∧Vals xs its∧s1.heap.IsList a its.toArray∧xs.length≤sizeLine∧s1.heap.IsRevIter r a ((its.toArray.size:Int)-1)∧RB X pi H1 r∧∀l o,H1 l=none→o.cls=.type "tuple"→o.dict=none→Q (.ref l) (upd H1 l (.bt o (.tup xs.reverse)))) X.xe s:=by
  refine Call_ (M9 I mq mr boot_reversed (PyProof.Rows.callWith_type1 (a8 (J5 he JM ee q2 pi s σ H (fun vs H1=>gU X.K vs H1 Q) I ?_) fun us s1 ⟨vs,H1,I1,r1,q1⟩=>?_) ee rfl))
  ·exact h
  ·obtain⟨a,xs,rfl,hq,q⟩:=q1
   obtain⟨u,rfl,ru⟩:=r1.one;cases ru;obtain⟨its,rv,pl,hz⟩:=I1.list hq;refine call_reversed_list pl.isList ?_;exact⟨a,xs,its,_,H1,rfl,I1.kept (t':=s1.toks) fun b o e=>cz _ e,rv,pl.isList.at fun o e=>cz _ e,hz,⟨_,c8 _ rfl,rfl,rfl⟩,I1.pq (aT _) (I1.az.fresh (aT _)),q⟩
 rw[dh];refine qy (a8 inner fun v s1 af=>?_);obtain⟨a,xs,its,r,H1,ev,I1,rv,hl,hz,hr,hf,q⟩:=af;refine sj ?_;subst ev;have xw:=rv.length;refine LX (I1.ok.hd hc) hr hl (by rw[dr];lia) fun h' tk hk=>?_
 have Uo:Vals xs.reverse its.reverse:=dN rv;obtain⟨f0,f1,f2,f3,f4,f5⟩:=hf;have I2:Inv X pi σ H1 { s1 with heap:=h',toks:=tk }:=I1.turned (t':=tk) (fun b o hb e=>hk b o hb e) f0 f1 f3 f4 f5;have ea:its.toArray.reverse=its.reverse.toArray:=by simp
 rw[ea];have I3:Inv X pi σ (upd H1 h'.objs.size (.bt { cls:=.type "tuple",data:=.seq its.reverse.toArray } (.tup xs.reverse))) { s1 with heap:=h'.push { cls:=.type "tuple",data:=.seq its.reverse.toArray },toks:=tk }:=
  I2.laid (t':=tk) (fun b o e=>cz _ e) (aT _) ⟨c8 _ rfl,show du X.prog X.w _ _ _ (.tup xs.reverse) from ⟨by rw[List.length_reverse];exact hz,its.reverse,Uo,IsTup.new _ _⟩⟩
 exact⟨.ref h'.objs.size,_,I3,rfl,q _ _ (I2.az.fresh (aT _)) rfl rfl⟩
end L2
namespace PySem
theorem N3{ep:Nat}(S:gE w s.heap a #[] ep t){x:Int}{tk:Tok}{Q:Bool→Shared→Prop}(h:∀h' jg t' b,Heap.SameBut a s.heap h'→gE w h' a #[(hashInt x,.int x tk)] jg t'→Q b { s with heap:=h' }) :
  wpAny (model prog w) A (setAddHashed a (.int x tk) (hashInt x)) Q E s:=by
 unfold setAddHashed setAddHashedIn;refine gX (ab (wpAny_setState_of S.ob rfl S.fit ?_));dsimp only;rw[show byScan (.int x tk) #[]=true by simp[byScan,Value.scannable,scanBound]];simp only[↓reduceIte];unfold setAddByScan;refine ab (ab (jn (ab ?_)));show wpAny _ _ (pure ScanMet.absent) _ _ _;refine ah ?_;dsimp only;have gw:∀(b:Bool) {bc:Shared} {nq:Unit→Shared→Prop},nq () bc→wpAny (model prog w) A (match b with | true=>rule "set.scan.the-table-gave-way" | false=>pure ()) nq E bc:=fun b bc nq q=>by cases b<;>first | exact ah q | exact jn q
 have lp:=layNew_perm t #[] (hashInt x) (.int x tk);have lf:=layNew_fits t #[] (hashInt x) (.int x tk);have ll:=p7 t #[] (hashInt x) (.int x tk);generalize hL:layNew t #[] (hashInt x) (.int x tk)=L at lp lf ll ⊢;obtain⟨Hz,t1,wd,gv⟩:=L;dsimp only at lp lf ll ⊢;have e1:Hz=#[(hashInt x,.int x tk)]:=lP (List.perm_singleton.mp lp);subst e1;refine ab (gw _ ?_);have tail:wpAny (model prog w) A (do
   storeSet a #[(hashInt x,.int x tk)] t1
   if (!wd&&t1.tooFull)=true then do
     (match (relayAll t1 #[(hashInt x,.int x tk)] (SetTable.grown 1)).2.2 with | true=>rule "set.scan.the-table-gave-way" | false=>pure ())
     storeSet a (relayAll t1 #[(hashInt x,.int x tk)] (SetTable.grown 1)).1 (relayAll t1 #[(hashInt x,.int x tk)] (SetTable.grown 1)).2.1
     pure (some true)
    else pure (some true)) (fun r s'=>∃b,r=some b∧Q b s') E s:=by
  refine ab (wpAny_storeSet_of S.ob rfl ?_ (fits_of_scanBound (show 1<scanBound by decide)));have o1:(s.heap.update a (Obj.putSet #[(hashInt x,.int x tk)] t1)).get? a=some (M8 #[(hashInt x,.int x tk)] (ep+1) t1):=o4 (Obj.putSet #[(hashInt x,.int x tk)] t1) S.ob rfl;have JY:=uh s.heap a (Obj.putSet #[(hashInt x,.int x tk)] t1);split
  ·have rp:=relayAll_perm t1 #[(hashInt x,.int x tk)] (SetTable.grown 1)
   have rf:=relayAll_fits t1 #[(hashInt x,.int x tk)] (SetTable.grown 1);have rl:=gR t1 #[(hashInt x,.int x tk)] (SetTable.grown 1);generalize relayAll t1 #[(hashInt x,.int x tk)] (SetTable.grown 1)=Rl at rp rf rl ⊢;obtain⟨HA,t3,XZ⟩:=Rl;dsimp only at rp rf rl ⊢;have e2:HA=#[(hashInt x,.int x tk)]:=lP (List.perm_singleton.mp rp);subst e2;refine ab (gw _ ?_);refine ab (wpAny_storeSet_of o1 rfl ?_ (fits_of_scanBound (show 1<scanBound by decide)));have o2:((s.heap.update a (Obj.putSet #[(hashInt x,.int x tk)] t1)).update a (Obj.putSet #[(hashInt x,.int x tk)] t3)).get? a=some (M8 #[(hashInt x,.int x tk)] (ep+1+1) t3):=o4 (Obj.putSet #[(hashInt x,.int x tk)] t3) o1 rfl;exact ah ⟨true,rfl,h _ _ t3 true (JY.trans (uh _ a _)) ⟨o2,rf,by rw[rl.1,ll.1,S.led],fun q=>absurd q (by simp)⟩⟩
  ·exact ah ⟨true,rfl,h _ _ t1 true JY ⟨o1,lf,by rw[ll.1,S.led],fun q=>absurd q (by simp)⟩⟩
 split
 ·refine ab ?_
  show wpAny _ _ (pure true) _ _ _;refine ah ?_;simp only[↓reduceIte];refine fb tail (fun r s' ⟨b,e,q⟩=>?_) fun _ _ e=>e
  subst e;exact ah q
 ·refine ab (ah ?_)
  simp only[↓reduceIte];refine fb tail (fun r s' ⟨b,e,q⟩=>?_) fun _ _ e=>e
  subst e;exact ah q
theorem LD(hh:A.handled=none){l S:Addr}{vs:List Value}(hv:∀v∈vs,∃x t,v=Value.int x t)(hn:vs.length≤1)(DE:l≠I)(Df:S≠I)(Sw:S≠l):∀(m k:Nat) (s:Shared) (es:Array (Int×Value)) (ep:Nat) (t:SetTable),vs.length-k=m→k≤vs.length→s.heap.IsListIter I l k→s.heap.IsList l vs.toArray→gE w s.heap S es ep t→es.toList.map (·.2)=vs.take k→
  (∀h' tk km jg t',gE w h' S km jg t'→km.toList.map (·.2)=vs→(∀b o,b≠I→b≠S→s.heap.get? b=some o→h'.get? b=some o)→R (.ok (.ret .none)) { s with heap:=h',toks:=tk })→
  codeAny (model prog w) A (.builtin "set.update.loop" ⟨[.ref S,.ref I],[]⟩) R s:=by
 have W:=Walks.list (prog:=prog) (w:=w) (A:=A.in1) (by simp[hh]) I l DE vs.toArray;intro m
 induction m with
 | zero=>
  intro k s es ep t hm hk hit hl hS mh hR;have jl:k=vs.length:=by lia
  refine kl PyProof.Rows.F.entry_set_update_loop ?_;rw[k8 PyProof.Rows.F.plain_set_update_loop _];show wpAny _ A.in1 (pyNext (.ref I) >>= _) _ _ s;refine ab (W.done s _ _ (by rw[dr,←jl];exact⟨hit,hl⟩) fun h' tk sL=>?_);exact ah (hR h' tk es ep t { hS with ob:=sL S _ (by simpa using Df) hS.ob } (by rw[mh,sr (by lia)]) fun b o b1 _ e=>sL b o (by simpa using b1) e)
 | succ m ih=>
  intro k s es ep t hm hk hit hl hS mh hR;have bx:k<vs.length:=by lia
  have An:k=0:=by lia
  subst An;have Du:es=#[]:=lP (List.map_eq_nil_iff.mp mh);subst Du;refine kl PyProof.Rows.F.entry_set_update_loop ?_;rw[k8 PyProof.Rows.F.plain_set_update_loop _];show wpAny _ A.in1 (pyNext (.ref I) >>= _) _ _ s;refine ab (W.item 0 s _ _ (by simpa using bx) ⟨hit,hl⟩ fun v h' tk UE gy sL=>?_);have AA:vs[0]?=some v:=by simpa using UE
  obtain⟨x,u,rfl⟩:=hv v (jw AA);have md:gE w h' S #[] ep t:={ hS with ob:=sL S _ (by simpa using Df) hS.ob }
  show wpAny _ A.in1 (holding [Value.int x u] (setAdd S (.int x u)) >>= _) _ _ { s with heap:=h',toks:=tk };refine ab (gX ?_);unfold setAdd;refine gX (ab ((intKind prog w).pyHash (k:=x) (by simp[intKind,Value.isInt]) ?_));refine N3 (s:={ s with heap:=h',toks:=tk+1 }) md fun h2 Hy t2 bb sb S2=>?_
  have kp:∀b o,b≠S→h'.get? b=some o→h2.get? b=some o:=fun b o hb e=>sb.extBut b o hb e
  refine ah ⟨plainId_quiet PyProof.Rows.F.plain_set_update_loop _,ih 1 _ _ Hy t2 (by lia) bx (gy.1.at fun o q=>kp _ _ (Ne.symm Df) q) (gy.2.at fun o q=>kp _ _ (Ne.symm Sw) q) S2 ?_ fun h3 WJ RF RE t3 q1 q2 q4=>hR h3 WJ RF RE t3 q1 q2 fun b o b1 b2 e=>q4 b o b1 b2 (kp b o b2 (sL b o (by simpa using b1) e))⟩
  match vs,AA with
  | a::r,e=>cases e;rfl
end PySem
namespace PySem
theorem LF{l:Addr}{vs:List Value}(hh:A.handled=none)(hl:s.heap.IsList l vs.toArray)(hv:∀v∈vs,∃x t,v=Value.int x t)(hn:vs.length≤1)(h:∀(h':Heap) (tk:Nat) es ep t,gE w h' s.heap.objs.size es ep t→es.toList.map (·.2)=vs→(∀b o,s.heap.get? b=some o→h'.get? b=some o)→Q (.ref s.heap.objs.size) { s with heap:=h',toks:=tk }) :
  wpAny (model prog w) A (call (.type "set") [.ref l]) Q E s:=by
 obtain⟨c0,tl,Yp⟩:=F.called_set.mro;have Ym:=F.called_set.made;have kB:=F.called_set.sub;have Yr:=F.called_set.notType;have jI:=F.called_set.canCreate;have Ij:=F.typeCall_set_1 (.ref l);refine wpAny_call (codeAny_of_tree ?_);show wpAny _ _ (callAny (.type "set") _) _ _ _;refine ah ⟨Code.quiet_builtin _ (by decide +kernel),kl F.entry_type_call ?_⟩;rw[Around.under_plain (weight_type_call_type "set" [.ref l] []) rfl]
 repeat (any_goals (first | assumption | wp_step))
 refine wz (NW (E:=E) (Q₁:=fun obj bc=>obj=.ref s.heap.objs.size∧bc={ s with heap:=s.heap.push (M8 #[] 0 (.fresh 0 0 (!w.params.followText "set-order"))) }) ⟨rfl,rfl⟩) fun r bc hr=>?_
 cases r with
 | error e=>exact hr
 | ok fl=>
  cases fl with
  | ret obj=>
   obtain⟨rfl,rfl⟩:=hr;generalize xu:(!w.params.followText "set-order")=led;have nX:(s.heap.push (M8 #[] 0 (.fresh 0 0 led))).get? s.heap.objs.size=some (M8 #[] 0 (.fresh 0 0 led)):=c8 _ rfl;have hT:Shared.TypeIs { s with heap:=s.heap.push (M8 #[] 0 (.fresh 0 0 led)) } (.ref s.heap.objs.size) "set":=⟨_,nX,rfl⟩
   have Yj:=F.called_set.init.lookup;have X2:=F.called_set.init.bind (.ref s.heap.objs.size)
   repeat (any_goals (first | assumption | wp_step))
   refine wz (codeAny_call_builtin (R:=wants (fun r cx=>r=.none∧∃h' tk es ep t,cx={ s with heap:=h',toks:=tk }∧gE w h' s.heap.objs.size es ep t∧es.toList.map (·.2)=vs∧(∀b o,s.heap.get? b=some o→h'.get? b=some o)) E) F.called_set.init.plain F.entry_set_init (check_set_init_1 hT ?_)) fun Wl cx D5=>?_
   ·obtain⟨ol,Au,cm,nl,pE⟩:=hl
    obtain⟨YI,Vx,YN,VO⟩:=ol;simp only at cm pE;subst cm;subst pE;have Ud:(s.heap.push (M8 #[] 0 (.fresh 0 0 led))).get? l=some { cls:=.type "list",dict:=Vx,data:=.seq vs.toArray nl,slots:=VO }:=cz _ Au;have Yv:=F.sub_list_set;have Yu:=F.sub_list_frozenset;have c9:(Value.type "list" == Value.type "dict")=false:=by decide
    have pS:(s.heap.push (M8 #[] 0 (.fresh 0 0 led))).IsList l vs.toArray:=⟨_,Ud,rfl,nl,rfl⟩
    have bx:l<s.heap.objs.size:=bg Au;unfold Builtin.«set.__init__» noKeywords Builtin.Frozenset.updateFrom;generalize Ss:pyIter=PI
    wp_walk
    subst Ss;refine wpAny_pyIter_list pS (ab (wpAny_runValue ?_));have hz:(s.heap.push (M8 #[] 0 (.fresh 0 0 led))).objs.size=s.heap.objs.size+1:=kq ..;have up:∀b o,s.heap.get? b=some o→((s.heap.push (M8 #[] 0 (.fresh 0 0 led))).push { cls:=.type "list_iterator",data:=.fields #[.ref l,.int 0 0] }).get? b=some o:=fun b o e=>cz _ (cz _ e)
    refine LD (by simp[hh]) hv hn (by rw[hz];exact b0 (k0 bx)) (by rw[hz];exact b0 (sf _)) (i7 bx) _ 0 _ #[] 0 (.fresh 0 0 led) rfl (eM _) ⟨_,c8 _ rfl,rfl,rfl⟩ (pS.push _) ⟨cz _ nX,rfl,by rw[←xu];rfl,fun q=>absurd q (by simp)⟩ rfl fun h' tk km jg t' q1 q3 q4=>?_
    show wpAny _ _ _ _ _ _;refine ah (ah ⟨rfl,h',tk,km,jg,t',rfl,q1,q3,fun b o e=>q4 b o ?_ ?_ (up b o e)⟩)
    ·rw[hz];exact b0 (k0 (bg e))
    ·exact b0 (bg e)
   ·cases Wl with
    | error e=>exact D5
    | ok RI=>
     cases RI with
     | ret r=>
      obtain⟨rfl,h',tk,es,ep,t,rfl,q1,q3,q4⟩:=D5
      repeat (any_goals (first | assumption | wp_step))
      exact h h' tk es ep t q1 q3 q4
     | _=>exact D5.elim
  | _=>exact hr.elim
end PySem
namespace L2
open PySem PySem.Spec PyProof.Rows
def gW(K:p4)(vs:List V)(H1:Hp)(Q:VK):Prop:=∃(a:Addr) (ns:List Int),vs=[V.ref a]∧c6 K H1 a (ns.map V.int)∧ns.length≤1∧∀p,H1 p=none→Q (.ref p) (upd H1 p (.lst (ns.map V.int)))
theorem Fv:∀{ns:List Int} {its:List Value},Vals (ns.map V.int) its→∀v∈its,∃x t,v=Value.int x t
 | [],_,.nil,v,hv=>nomatch hv
 | n::r,_,.cons (b:=u) a t,v,hv=>by
  rcases cg hv with rfl | hv
  ·obtain⟨t,e⟩:=(show ∃t,v=Value.int n t from a)
   exact⟨n,t,e⟩
  ·exact Fv t v hv
theorem kE{q2:Pos}(hc:X.calm=true)(jk:Gl X "sorted")(hJ:X.mg "sorted" = none)(mq:Gl X "set")(mr:X.mg "set" = none)(he:PE X e te)(dh:starEach [Expr.Call (.Name "set" p2) [e] [] q2] X.env=[(false,eval (.Call (.Name "set" p2) [e] [] q2) X.env)]:=by rfl)(ee:starEach [e] X.env=[(false,eval e X.env)]:=by rfl) :
  PE X (.Call (.Name "sorted" p1) [.Call (.Name "set" p2) [e] [] q2] [] q1) (fun σ H Q=>te σ H fun x H1=>gW X.K [x] H1 Q):=by
 intro pi s σ H Q I h;refine Call_ (M9 I jk hJ boot_sorted (PyProof.Rows.callWith_builtin1 ?_ dh rfl));have inner:wpAny (model X.prog X.w) X.A (eval (.Call (.Name "set" p2) [e] [] q2) X.env)
   (fun v s1=>∃(S:Addr) (ns:List Int) (its:List Value) (es:Array (Int×Value)) (ep:Nat) (t:SetTable) (H1:Hp),v=.ref S∧Inv X pi σ H1 s1∧gE X.w s1.heap S es ep t∧es.toList.map (·.2)=its∧Vals (ns.map V.int) its∧ns.length≤1∧∀p,H1 p=none→Q (.ref p) (upd H1 p (.lst (ns.map V.int)))) X.xe s:=by
  refine Call_ (M9 I mq mr boot_set (PyProof.Rows.callWith_type1 (a8 (J5 he JM ee q2 pi s σ H (fun vs H1=>gW X.K vs H1 Q) I ?_) fun us s1 ⟨vs,H1,I1,r1,q1⟩=>?_) ee rfl))
  ·exact h
  ·obtain⟨a,ns,rfl,hq,hl,q⟩:=q1
   obtain⟨u,rfl,ru⟩:=r1.one;cases ru;obtain⟨its,rv,pl,hz⟩:=I1.list hq;have xw:=rv.length;rw[a9]at xw;refine LF (I1.ok.hd hc) pl.isList (Fv rv) (by lia) fun h' tk es ep t g1 g3 g4=>?_
   exact⟨_,ns,its,es,ep,t,H1,rfl,I1.kept g4,g1,g3,rv,hl,q⟩
 rw[dh];refine qy (a8 inner fun v s1 af=>?_);obtain⟨S,ns,its,es,ep,t,H1,ev,I1,hS,mh,rv,hl,q⟩:=af;refine sj ?_;subst ev;have xw:=rv.length;rw[a9]at xw;have Yb:es.size=its.length:=by rw[←mh,a9,fR]
 refine xc kind_sorted plain_sorted entry_sorted (args_sorted1 _) ?_;unfold Builtin.«sorted»;refine ab (m:=checkCount "sorted" 1 1 _) (ah ?_);refine ab (o8 (A:=X.A.in1) hS (by lia) (by have:=I1.ok.hd hc;simp[this]) fun h1 tk d' acc ku iu=>?_);have I2:Inv X pi σ H1 { s1 with heap:=h1,toks:=tk,drawn:=d' }:=(I1.kept (t':=tk) ku).drawn d';rw[mh]at iu;have Af:acc.toList=its:=by
  match its,iu,xw with
  | [],hp,_=>exact hp.eq_nil
  | [x],hp,_=>exact List.perm_singleton.mp hp
  | _::_::_,_,hn=>simp at hn;lia
 refine ab (uo ?_ (by rw[Af,eI];lia));rw[Af];have jc:(h1.push (seqObj "list" its.toArray 0)).get? h1.objs.size=some (seqObj "list" its.toArray 0):=c8 _ rfl;refine ab (gX (gn slot_list_sort ⟨_,jc,rfl⟩ entry_list_sort (JX jc (by lia) ⟨_,rfl,?_⟩) (args_list_sort _)));refine ah ⟨_,rfl,?_⟩;obtain⟨c,xm⟩:=sortedHeap_at (vs:=its) (out:=(pairsOf its).map (·.2)) jc;have n5:((pairsOf its).map (·.2))=its.toArray:=by
  apply lP;rw[Array.toList_map,pairsOf_toList,List.map_snd_zip (aT _)]
 refine⟨.ref h1.objs.size,_,I2.laid (a:=h1.objs.size) (o:=.lst (ns.map V.int)) (t':=tk) (fun b ob e=>?_) (aT _) ⟨?_,its,c,rv,?_⟩,rfl,q _ (I2.az.fresh (aT _))⟩
 ·have hb:b<h1.objs.size:=bg e
  rw[sortedHeap_old (b0 hb) (by rw[kq];exact k0 hb)];exact cz _ e
 ·rw[a9,eI];lia
 ·rw[xm,n5]
theorem dW{α β:Type}{R:α→β→Prop}:∀{as:List α} {bs:List β},as.length=bs.length→(∀(j:Nat) (a:α) (b:β),as[j]?=some a→bs[j]?=some b→R a b)→Paired R as bs
 | [],[],_,_=>.nil
 | a::r,b::q,h,f=>.cons (f 0 a b rfl rfl) (dW (by simpa using h) fun j x y e1 e2=>f (j+1) x y (by simpa using e1) (by simpa using e2))
 | [],_::_,h,_=>by simp at h
 | _::_,[],h,_=>by simp at h
theorem aH{α β Kq:Type}{R:α→β→Prop}{S:Kq→β→Prop}{f:α→Kq}:∀{as:List α} {bs:List β},Paired R as bs→(∀a b,R a b→S (f a) b)→Paired S (as.map f) bs
 | _,_,.nil,_=>.nil
 | _,_,.cons h t,g=>.cons (g _ _ h) (aH t g)
theorem FC:∀as:List Addr,Vals (as.map V.ref) (as.map Value.ref)
 | []=>.nil
 | a::r=>.cons rfl (FC r)
theorem MH{vs:List (Key×Value)}(h:KV kvs vs):∀{i:Nat} {p:Key×V},kvs[i]?=some p→∃v,vs[i]?=some (p.1,v)∧RelV p.2 v:=by
 induction h with
 | nil=>intro i p e;simp at e
 | cons a b ih=>
  intro i p e;cases i with
  | zero=>
   simp only[List.getElem?_cons_zero,Option.some.injEq]at e;subst e
   rename_i x y _ _
   exact⟨y.2,congrArg some (Prod.ext a.1.symm rfl),a.2⟩
  | succ i=>exact ih (by simpa using e)
theorem oA(I:Inv X pi σ H s)(rv:Vals vs its)(hp:Paired (fun u (p:Str×Int)=>∃a t1 t2,u=Value.ref a∧IsTup s.heap a #[.str p.1 t1,.int p.2 t2]) its ps)(h4:vs.length≤4)(b9:(ps.map (·.1)).Nodup){Q:VK}(q:∀(p:Addr) (js:List Nat),H p=none→js.Perm (List.range vs.length)→PySem.W.kN (KQ ps) js=true→Q (.ref p) (upd H p (.lst (js.map fun j=>vs.getD j .ao)))) :
  wpAny (model X.prog X.w) X.A.in1 (call (.builtin "list.sort") [.ref s.heap.objs.size]) (fun _ s'=>EP X pi σ Q (.ref s.heap.objs.size) s') X.xe { s with heap:=s.heap.push (seqObj "list" its.toArray 0) }:=by
 have hl:=rv.length;have TM:its.length=ps.length:=Paired.length hp;have jc:(s.heap.push (seqObj "list" its.toArray 0)).get? s.heap.objs.size=some (seqObj "list" its.toArray 0):=c8 _ rfl
 by_cases vd:its.length<2
 ·refine gn slot_list_sort ⟨_,jc,rfl⟩ entry_list_sort (JX jc vd ⟨_,rfl,?_⟩) (args_list_sort _)
  obtain⟨c,xm⟩:=sortedHeap_at (vs:=its) (out:=(pairsOf its).map (·.2)) jc;have n5:((pairsOf its).map (·.2))=its.toArray:=by
   apply lP;rw[Array.toList_map,pairsOf_toList,List.map_snd_zip (aT _)]
  have xA:=Q9 rv (List.range vs.length) fun j hj=>List.mem_range.mp hj
  have e1:((List.range vs.length).map fun j=>its.getD j Value.none)=its:=by
   apply List.ext_getElem?;intro i
   by_cases hi:i<its.length
   ·rw[eS,List.getElem?_range (by lia)]
    simp[List.getD_eq_getElem?_getD,hi]
   ·rw[List.getElem?_eq_none (by simp;lia),List.getElem?_eq_none (by lia)]
  rw[e1]at xA;refine⟨.ref s.heap.objs.size,_,I.laid (a:=s.heap.objs.size) (o:=.lst ((List.range vs.length).map fun j=>vs.getD j .ao)) (t':=s.toks) (fun b ob e=>?_) (aT _) ⟨?_,its,c,xA,?_⟩,rfl,q _ _ (I.az.fresh (aT _)) (List.Perm.refl _) ?_⟩
  ·have hb:b<s.heap.objs.size:=bg e
   rw[sortedHeap_old (b0 hb) (by rw[kq];exact k0 hb)];exact cz _ e
  ·rw[a9,List.length_range,eI];lia
  ·rw[xm,n5]
  ·rcases(show vs.length=0∨vs.length=1 by lia) with z | z<;>rw[z]<;>rfl
 ·obtain⟨m,hm,_⟩:=I.loc
  have F0:=ni.C0 hm;have N0:=aM (g:=pz s) (h:=s.heap) (L:=X.env.locals);have BM:=F0.push (seqObj "list" its.toArray 0);have BV:=News.push F0 N0 (seqObj "list" its.toArray 0) rfl;have bx:∀b∈QZ (pz s) s.heap X.env.locals,b.1<s.heap.objs.size:=fun b hb=>bg (N0 b hb).1
  generalize Sq:s.heap.objs.size=D at *;generalize Su:s.heap.push (seqObj "list" its.toArray 0)=hP at *;refine PySem.W.kat_lsort (s:={ s with heap:=hP }) (vs:=its) BM BV (.head fun b hb=>b0 (bx b hb)) (by simp) (by lia) (by lia) fun e1 h1 F1 N1=>?_
  have keep:=OJ (X:=X) (s:=s) N1;have nD:=(N1 (D,_) bX).2.1;have hD:s.heap.get? D=none:=by
   cases e:s.heap.get? D with
   | none=>rfl
   | some ob=>exact absurd (bx (D,ob) (P0 nD (ni.yi _ _) e)) (gp _)
  have hn:H D=none:=by
   cases e:H D with
   | none=>rfl
   | some u=>
    obtain⟨Ey,aI⟩:=(I.az D u e).there;rw[hD]at aI;cases aI
  have yk:∀b xs,IsTup s.heap b xs→b≠X.env.locals:=fun b xs ⟨ob,e,_,n,d⟩ z=>by
   obtain⟨ol,_,_,el,dl,_⟩:=hm;rw[z,el]at e;cases e;rw[dl]at d;cases d
  have my:Paired (fun u (p:Str×Int)=>∃a t1 t2,u=Value.ref a∧IsTup h1 a #[.str p.1 t1,.int p.2 t2]) its ps:=Paired.AM hp fun u p ⟨a,t1,t2,e,ht⟩=>
   ⟨a,t1,t2,e,let ⟨ob,eo,c⟩:=ht;⟨ob,keep a ob (yk _ _ ht) eo,c⟩⟩
  obtain⟨fs,t1,t2,t3⟩:=qK my;refine PySem.W.kat_kind (s:={ s with heap:=h1 }) (T:=.type "str") t1 (by lia) (fun v hv=>?_) (by decide) ?_
  ·obtain⟨x,t,rfl⟩:=t3 v hv
   exact .now
  ·show PySem.W.KasT.kasWp _ _ _ _
   obtain⟨o1,o2,o3⟩:=cH b9;obtain⟨p,xD,iu,xC⟩:=PySem.W.Kc (n:=its.length) (f:=KQ ps) (by lia) (by lia) o1 (fun i j hi hj=>o2 i j (by lia) (by lia)) fun i j k hi hj hk=>o3 i j k (by lia) (by lia) (by lia)
   refine PySem.W.KasT.AV (n:=its.length) (qo:=KQ ps) (fun i j hi hj C hC=>?_) _ xD ?_
   ·obtain⟨a1,b1,b2,p1,sk,nL,pV⟩:=wc (i:=i) my hi
    obtain⟨a2,c1,c2,p2,zw,CF,kH⟩:=wc (i:=j) my hj;unfold PySem.W.kas_ask;rw[sk,zw];refine rA (s:={ s with heap:=h1 }) pV kH ?_;unfold KQ at hC;rw[List.getD_eq_getElem?_getD,List.getD_eq_getElem?_getD,nL,CF]at hC;exact hC
   ·refine PySem.W.KasFin.intro (s:={ s with heap:=h1 }) F1 N1 (.head fun b hb=>b0 (bx b hb)) fun h2 c F2 N2=>?_
    have hv:=Q9 rv p.toList fun j hj=>by
     have:=List.mem_range.mp (iu.mem_iff.mp hj);lia
    refine⟨.ref D,_,I.Eu (t':=s.toks) (o:=.lst (p.toList.map fun j=>vs.getD j .ao)) hm F2 N2 hD ⟨?_,_,c,hv,(N2 (D,_) bX).1⟩,rfl,q D p.toList hn (by rw[hl];exact iu) xC⟩;rw[a9,iu.length_eq,List.length_range,eI];lia
def zl(H:Hp)(vs:List V)(ps:List (Str×Int)):Prop:=Paired (fun v (p:Str×Int)=>∃b o,v=V.ref b∧H b=some (.bt o (.tup [.str p.1,.int p.2]))∧o.cls=.type "tuple"∧o.dict=none) vs ps
theorem uG{as:List Addr}(hp:Paired (fun a (p:Str×Int)=>∃t1 t2,s.heap.get? a=some { cls:=.type "tuple",data:=.seq #[.str p.1 t1,.int p.2 t2] }) as ps):∀{H:Hp},Inv X pi σ H s→as.Nodup→(∀a∈as,RB X pi H a)→∃aa,Inv X pi σ aa s∧kU H aa∧(∀b,b∉as→aa b=H b)∧zl aa (as.map V.ref) ps:=by
 induction hp with
 | nil=>exact fun {H} I _ _=>⟨H,I,fun _ _ h=>h,fun _ _=>rfl,.nil⟩
 | cons h t ih=>
  rename_i a p as ps
  intro H I hn hf;obtain⟨t1,t2,e⟩:=h;have nV:=nu hn;have h0:H a=none:=(hf a bX).1;have I1:Inv X pi σ (upd H a (.bt { cls:=.type "tuple",data:=.seq #[.str p.1 t1,.int p.2 t2] } (.tup [.str p.1,.int p.2]))) s:=Inv.tracked I (hf a bX) ⟨e,show du X.prog X.w _ _ _ (.tup [.str p.1,.int p.2]) from ⟨by rw[eI];exact(show (2:Nat)≤16777216 by decide),[.str p.1 t1,.int p.2 t2],.cons ⟨t1,rfl⟩ (.cons ⟨t2,rfl⟩ .nil),_,e,rfl,0,rfl⟩⟩;obtain⟨aa,I2,s2,o2,ti⟩:=ih I1 nV.2 (fun b hb=>by
   have c9:b≠a:=fun z=>nV.1 (z▸hb)
   obtain⟨g0,g1⟩:=hf b (b8 _ hb);exact⟨by rw[CK c9];exact g0,g1⟩)
  refine⟨aa,I2,fun c u hc=>s2 c u (by rw[CK fun z=>by rw[z,h0]at hc;cases hc];exact hc),fun b hb=>?_,.cons ⟨a,_,rfl,s2 a _ CT,rfl,rfl⟩ ti⟩;rw[o2 b fun z=>hb (b8 _ z),CK fun z=>hb (by rw[z];exact bX)]
noncomputable def Ll(td:TE):TE:=fun σ H Q=>td σ H fun x H1=>∃a kvs ps,x=.ref a∧Rd H1 a (.dK kvs)∧kvs=ps.map (fun p:Str×Int=>((Sum.inr p.1:Key),V.int p.2))∧ps.length≤4∧(ps.map (·.1)).Nodup∧
 ∀(H2:Hp) (vs:List V) (p:Addr) (js:List Nat),kU H1 H2→zl H2 vs ps→H2 p=none→js.Perm (List.range vs.length)→PySem.W.kN (KQ ps) js=true→Q (.ref p) (upd H2 p (.lst (js.map fun j=>vs.getD j .ao)))
theorem uT(hc:X.calm=true)(jk:Gl X "sorted")(hJ:X.mg "sorted" = none)(he:PE X e td)(g9:attributeBase e "items" X.env (eval e X.env)=eval e X.env:=by rfl)(ia:(apos.endLine==bS.line)=true:=by rfl)(dh:starEach [Expr.Call (.Attribute e "items" apos) [] [] bS] X.env=[(false,eval (.Call (.Attribute e "items" apos) [] [] bS) X.env)]:=by rfl) :
  PE X (.Call (.Name "sorted" p1) [.Call (.Attribute e "items" apos) [] [] bS] [] q1) (Ll td):=by
 intro pi s σ H Q I h;refine Call_ (M9 I jk hJ boot_sorted (PyProof.Rows.callWith_builtin1 ?_ dh rfl));rw[dh];have inner:wpAny (model X.prog X.w) X.A (eval (.Call (.Attribute e "items" apos) [] [] bS) X.env) (fun v s1=>∃(r a:Addr) (kvs:List (Key×V)) (ps:List (Str×Int)) (H1:Hp),v=.ref r∧Inv X pi σ H1 s1∧s1.heap.IsItemsView r a∧Rd H1 a (.dK kvs)∧kvs=ps.map (fun p:Str×Int=>((Sum.inr p.1:Key),V.int p.2))∧ps.length≤4∧(ps.map (·.1)).Nodup∧
   ∀(H2:Hp) (vs:List V) (p:Addr) (js:List Nat),kU H1 H2→zl H2 vs ps→H2 p=none→js.Perm (List.range vs.length)→PySem.W.kN (KQ ps) js=true→Q (.ref p) (upd H2 p (.lst (js.map fun j=>vs.getD j .ao)))) X.xe s:=by
  refine wpAny_Call_method0_late g9 ia (a8 (he pi s σ H _ I h) fun u s1 af=>?_);obtain⟨x,H1,I1,rx,a,kvs,ps,ex,ea,ek,h4,hn,q⟩:=af;subst ex;obtain rfl:u=Value.ref a:=rx;obtain⟨t1,t2,lo⟩:=pB I1 (.inl ⟨kvs,ea⟩);obtain⟨_,_,vs,rel,dd⟩:=S5 I1.az ea;refine⟨"dict","dict.items",PySem.F.plainAttrs_dict,PySem.F.slot_dict_items,PySem.F.type_dict_items,t1,t2,Calls.callWith_builtin rfl (PySem.evalArgs_none ?_)⟩;refine call_meetsIn PySem.F.slot_dict_items dd.typeIs PySem.F.entry_dict_items (PySem.F.args_dict_items_1 _) (meets_dict_items (CQ X.prog X.w) a lo) ⟨⟨vs,dd⟩,?_⟩;exact⟨_,a,kvs,ps,H1,rfl,I1.kept (t':=s1.toks) fun b o e=>cz _ e,⟨_,c8 _ rfl,rfl,rfl⟩,ea,ek,h4,hn,q⟩
 refine qy (a8 inner fun v s1 af=>?_);obtain⟨r,a,kvs,ps,H1,ev,I1,hv,ea,ek,h4,hn,q⟩:=af;refine sj ?_;subst ev;obtain⟨z,_,ws,rel,dd⟩:=S5 I1.az ea;obtain⟨ep,dat⟩:=dd.dictAt;have xI:ws.length=ps.length:=by rw[←rel.length,ek,a9]
 refine xc kind_sorted plain_sorted entry_sorted (args_sorted1 _) ?_;unfold Builtin.«sorted»;refine ab (m:=checkCount "sorted" 1 1 _) (ah ?_);refine ab (PySem.W.kdx_collect (A:=X.A.in1) (I1.ok.hd hc) hv dat (by rw[←rel.length];exact z) fun h1 tk as ku SA hG=>?_);have I2:Inv X pi σ H1 { s1 with heap:=h1,toks:=tk }:=I1.kept (t':=tk) ku;have b9:as.Nodup:=hG.rise.imp fun q=>b0 q
 have u7:Paired (fun a (p:Str×Int)=>∃t1 t2,h1.get? a=some { cls:=.type "tuple",data:=.seq #[.str p.1 t1,.int p.2 t2] }) as ps:=by
  refine dW (by lia) fun j a p ha hp=>?_
  obtain⟨key,k,x,e1,e2,e3⟩:=hG.pairs j a ha;obtain⟨y,hy⟩:=MH rel (i:=j) (p:=(Sum.inr p.1,V.int p.2)) (by rw[ek,eS,hp];rfl);obtain⟨IT,Ed⟩:=hy;rw[e1]at IT;cases IT;have hk:KH (Sum.inr p.1) key=true:=e2;obtain⟨t2,rfl⟩:=(show ∃t,x=Value.int p.2 t from Ed)
  cases key<;>first | (cases hk;done) | skip
  simp[KH,Value.isStrOf]at hk;subst hk;exact⟨_,t2,e3⟩
 obtain⟨H2,I3,sub,YU,ti⟩:=uG (s:={ s1 with heap:=h1,toks:=tk }) u7 I2 b9 (fun b hb=>I1.pq (nz (hG.above b hb)) (I1.az.fresh (nz (hG.above b hb))));refine ab (uo ?_ (by rw[a9,SA,xI,eI];lia));have rv:Vals (as.map V.ref) (as.map Value.ref):=FC as;have sP:Paired (fun u (p:Str×Int)=>∃a t1 t2,u=Value.ref a∧IsTup h1 a #[.str p.1 t1,.int p.2 t2]) (as.map Value.ref) ps:=aH u7 fun a p ⟨t1,t2,e⟩=>⟨a,t1,t2,rfl,_,e,rfl,_,rfl⟩
 refine ab (gX (fb (oA (s:={ s1 with heap:=h1,toks:=tk }) (Q:=Q) I3 rv sP (by rw[a9];lia) hn fun p js hp hj hr=>q H2 _ p js sub ti hp hj hr) (fun _ s' x=>?_) fun _ _ e=>e));exact ah ⟨_,rfl,x⟩
end L2
namespace WL
open PySem PySem.Spec PyProof.Rows L2
theorem uP(hn:(ps.map (·.1)).Nodup){js:List Nat}(hp:js.Perm (List.range ps.length))(hs:PySem.W.kN (KQ ps) js=true):(js.map fun j=>ps.getD j (⟨#[]⟩,0))=J0 ps:=by
 have pM:∀j∈js,j<ps.length:=fun j hj=>List.mem_range.mp (hp.mem_iff.mp hj)
 have tf:=Cw hn pM hs;refine dI hn (dO ps _ hp) ?_;rw[List.pairwise_map];have b9:js.Nodup:=hp.nodup_iff.mpr List.nodup_range;refine List.Pairwise.imp_of_mem (fun {i j} hi hj z=>?_) (List.Pairwise.and tf b9);obtain⟨z1,z2⟩:=z;have ki:=pM i hi;have kj:=pM j hj;unfold KQ at z1;rw[QK (key_ne hn (by lia) (by lia) z2),decide_eq_true_eq]at z1;unfold FT;rw[dm (fun h=>List.lt_irrefl _ (List.lt_trans z1 h))];rfl
theorem pX{α β:Type}:∀(a:List α) (b:List β),((a.zip b).map (·.1)).Sublist a
 | [],_=>by simp
 | _::_,[]=>by simp
 | x::a,y::b=>(pX a b).cons₂ x
theorem wV{K:p4}{ρ:List Addr}{H:Hp}:∀{vs:List V} {ps:List (Str×Int)},zl H vs ps→a6 K ρ H (ps.map QC) vs
 | _,_,.nil=>rfl
 | _,_,.cons a7 t=>by
  obtain⟨b,o,e,h,c,d⟩:=a7;exact⟨_,_,rfl,⟨b,_,e,⟨o,c,d,.inl h⟩,_,_,rfl,rfl,_,_,rfl,rfl,rfl⟩,wV t⟩
theorem wJ{K:p4}{ρ:List Addr}{H:Hp}:∀{ks:List Key} {ds:List D} {kvs:List (Key×V)} {ss:List Str} {ns:List Int},kvs.map (·.1)=ks→a6 K ρ H ds (kvs.map (·.2))→strsOf (ks.map cy.kD)=some ss→intsOf ds=some ns→kvs=(ss.zip ns).map fun p:Str×Int=>((Sum.inr p.1:Key),V.int p.2)
 | [],ds,[],ss,ns,_,a,e1,e2=>by
  cases e1;simp
 | k::ks,[],kv::kvs,ss,ns,_,a,e1,e2=>by cases (show _=[] from a)
 | k::ks,d::ds,kv::kvs,ss,ns,h,a7,e1,e2=>by
  obtain⟨v,r,e,av,ar⟩:=a7;cases e;rw[ck,List.cons.injEq]at h;obtain⟨h1,h2⟩:=h;cases k with
  | inl i=>cases e1
  | inr x=>
   obtain⟨ie,e3,rfl⟩:=b5 (show (strsOf (ks.map cy.kD)).map (x::·)=some ss from e1);cases d with
   | int n=>
    obtain⟨Jv,e4,rfl⟩:=b5 (show (intsOf ds).map (n::·)=some ns from e2);rw[wJ h2 ar e3 e4];obtain⟨a,b⟩:=kv;cases (show a=Sum.inr x from h1);cases (show b=V.int n from av);rfl
   | _=>cases e2
 | [],_,_::_,_,_,h,_,_,_=>by cases h
 | _::_,_,[],_,_,h,_,_,_=>by cases h
section
variable{a:Expr}{q2:Pos}
theorem uL(hc:X.calm=true)(jk:Gl X "tuple")(hJ:X.mg "tuple" = none)(mq:Gl X "reversed")(mr:X.mg "reversed" = none)(ha:PE X a (tD C X.K pa))(dh:starEach [Expr.Call (.Name "reversed" p2) [a] [] q2] X.env=[(false,eval (.Call (.Name "reversed" p2) [a] [] q2) X.env)]:=by rfl)(ee:starEach [a] X.env=[(false,eval a X.env)]:=by rfl) :
  PE X (.Call (.Name "tuple" p1) [.Call (.Name "reversed" p2) [a] [] q2] [] q1) (tD C X.K (.b1 .yv pa)):=
 wg (r:=fun x H1 Q=>gU X.K [x] H1 Q) (f:=cy .yv) (uR hc jk hJ mq mr ha dh ee) (by
  intro ρ m ae H dx d x Q M ax e q;obtain⟨xs,e1,e⟩:=aS (show ((FJ dx m).bind fun xs=>if xs.length≤1000 then some (D.tup xs.reverse,m) else none)=some (d,ae) from e);split at e
  ·cases e
   obtain⟨p,vs,rfl,hq,as⟩:=J6 M ax e1;exact⟨p,vs,rfl,hq,fun l o hl cm hd=>.of (q.tup M as.rev hl cm hd)⟩
  ·cases e) fun _ _=>rfl
theorem jU(hc:X.calm=true)(jk:Gl X "sorted")(hJ:X.mg "sorted" = none)(mq:Gl X "set")(mr:X.mg "set" = none)(ha:PE X a (tD C X.K pa))(dh:starEach [Expr.Call (.Name "set" p2) [a] [] q2] X.env=[(false,eval (.Call (.Name "set" p2) [a] [] q2) X.env)]:=by rfl)(ee:starEach [a] X.env=[(false,eval a X.env)]:=by rfl) :
  PE X (.Call (.Name "sorted" p1) [.Call (.Name "set" p2) [a] [] q2] [] q1) (tD C X.K (.b1 (.yt mu) pa)):=
 wg (r:=fun x H1 Q=>gW X.K [x] H1 Q) (f:=cy (.yt mu)) (kE hc jk hJ mq mr ha dh ee) (by
  intro ρ m ae H dx d x Q M ax e q;obtain⟨xs,e1,e⟩:=aS (show ((FJ dx m).bind fun xs=>(intsOf xs).bind fun ns=>if ns.length≤1 then some (bE mu (ns.map .int) m) else none)=some (d,ae) from e);obtain⟨ns,e2,e⟩:=aS e;split at e
  ·rename_i hl
   have aI:bE mu (ns.map .int) m=(d,ae):=cE e;obtain⟨p,vs,rfl,hq,as⟩:=J6 M ax e1;cases (cC e2 as).1;have dj:eB X.K ρ H (bE mu (ns.map .int) m).1 (bE mu (ns.map .int) m).2 Q:=by rw[aI];exact q
   exact⟨p,ns,rfl,hq,hl,fun l hl=>dj.lst M (.ints ns) hl⟩
  ·cases e) fun _ _=>rfl
theorem oH(hc:X.calm=true)(jk:Gl X "sorted")(hJ:X.mg "sorted" = none)(ha:PE X a (tD C X.K pa))(g9:attributeBase a "items" X.env (eval a X.env)=eval a X.env:=by rfl)(ia:(apos.endLine==bS.line)=true:=by rfl)(dh:starEach [Expr.Call (.Attribute a "items" apos) [] [] bS] X.env=[(false,eval (.Call (.Attribute a "items" apos) [] [] bS) X.env)]:=by rfl) :
  PE X (.Call (.Name "sorted" p1) [.Call (.Attribute a "items" apos) [] [] bS] [] q1) (tD C X.K (.b1 (.AX mu) pa)):=
 (uT hc jk hJ ha g9 ia dh).tw fun σ H Q af=>by
 obtain⟨aj,m,ρ,d,ae,S,M,e,q⟩:=af;obtain⟨⟨x,m1⟩,e1,e⟩:=aS e;refine⟨aj,m,ρ,x,m1,S,M,e1,fun v H1 au g1 M1 A1=>?_⟩;obtain⟨⟨ks,ds⟩,e0,e⟩:=aS (show ((GX x m1).bind fun z=>(strsOf (z.1.map cy.kD)).bind fun ss=>(intsOf z.2).bind fun ns=>if ss.length≤4∧ss.Nodup then some (bE mu ((J0 (ss.zip ns)).map QC) m1) else none)=some (d,ae) from e);obtain⟨ss,e2,e⟩:=aS e;obtain⟨ns,e3,e⟩:=aS e;split at e
 case isFalse=>cases e
 rename_i SW
 have aI:=cE e;obtain⟨p,kvs,rfl,hr,hk,as⟩:=S6 M1 A1 e0;have ek:=wJ hk as e2 e3;have hz:(ss.zip ns).length≤4:=by rw[List.length_zip];lia
 have b9:((ss.zip ns).map (·.1)).Nodup:=(pX ss ns).nodup SW.2;refine⟨p,kvs,ss.zip ns,rfl,hr,ek,hz,b9,fun H2 vs l js sub ti hl hp hs=>?_⟩;have hlen:vs.length=(ss.zip ns).length:=Paired.length ti;have dj:eB X.K ρ H (bE mu ((J0 (ss.zip ns)).map QC) m1).1 (bE mu ((J0 (ss.zip ns)).map QC) m1).2 Q:=by rw[aI];exact q
 have g2:=g1.trans (kU.go sub au);refine(dj.go g2).lst (kU.mem sub M1) ?_ hl;rw[hlen]at hp;rw[←uP b9 hp hs,df];have xj:=wV (K:=X.K) (ρ:=au) ti;have:∀l:List Nat,(∀j∈l,j<(ss.zip ns).length)→a6 X.K au H2 (l.map (QC∘fun j=>(ss.zip ns).getD j (⟨#[]⟩,0))) (l.map fun j=>vs.getD j .ao):=fun l=>by
  induction l with
  | nil=>exact fun _=>rfl
  | cons j r ih=>
   intro h;have hj:=h j bX;obtain⟨v,ev,av⟩:=xj.get (i:=j) (d:=QC ((ss.zip ns)[j])) (by rw[eS,fo hj];rfl);refine⟨vs.getD j .ao,_,rfl,?_,ih fun i hi=>h i (b8 _ hi)⟩;show At X.K au H2 (QC ((ss.zip ns).getD j (⟨#[]⟩,0))) _;rw[List.getD_eq_getElem?_getD,List.getD_eq_getElem?_getD,ev,fo hj];exact av
 exact this js fun j hj=>List.mem_range.mp (hp.mem_iff.mp hj)
end
section
variable{a:Expr}{es:List Expr}{ps:iz}{l:List String}
theorem kc(f:String)(D:∀f∈l,Def X.prog X.w X.K X.mg X.base n C f)(hr:gm n X.A)(ha:PA X (e::es) (t8 C X.K ps))(hf:f∈l:=by decide)(hg:Gl X (Str.ofString f):=by exact rfl)(iN:(Str.ofString f==("__debug__" : Str))=false:=by decide)(he:starEach (e::es) X.env=(false,eval e X.env)::starEach es X.env:=by rfl)(n9:(backTo pos (starEach es X.env)).any (·.1)=false:=by rfl):
  PE X (.Call (.Name (Str.ofString f) p) (e::es) [] pos) (tD C X.K (.call f ps)):=LP (Def.Rp (D f hf) hr) hg ha iN he n9
theorem GK(i:Nat)(hN:X.N.Nodup)(he:PE X a (tD C X.K pa))(hi:X.N[i]?=some x:=by exact rfl)(hx:Loc X.env.scope x:=by exact Or.inl rfl)(hs:swapsWith a (some (.Name x pos')) pos.line X.env=pure false:=by rfl)(hf:X.fn x=true∨X.env.scope.names.lookup x=some .local:=by first | exact .inl rfl | exact .inr rfl | assumption):
  PS X (.Assign [.Name x pos'] a pos) (lj C W X.K (.set i pa)):=RN i hN hi hx he hs hf
theorem kL(i:Nat)(hN:X.N.Nodup)(hi:X.N[i]?=some x:=by exact rfl)(hx:Loc X.env.scope x:=by exact Or.inl rfl)(hf:X.fn x=true∨X.env.scope.names.lookup x=some .local:=by first | exact .inl rfl | exact .inr rfl | assumption):PG X (.Name x pos) (qg X.K (.nm i)):=J9 i hN hi hx hf
end
structure En where
 f:String
 st:Stmt
 ps:List Str
 N:List Str
 F:Fn
def W9(p:En→Prop):List En→Prop
 | []=>True
 | e::r=>p e∧W9 p r
noncomputable abbrev FA (K:p4) (f:Str) (st:Stmt):Prop:=∃(x:Addr) (oc:Value) (od an:Option Addr) (sl:Array (Option Value)) (kV dc pm cd ct:Value),PySem.W.nsIn K mainGlobals f=some (some (.ref x))∧K.lookup x=some ⟨oc,od,.func (PySem.W.fnOf f f (N7 st) (JZ st) (GQ st) .none kV dc pm an cd ct),sl⟩∧PySem.W.codeIn K cd f=true∧PySem.W.keepIn K (.ref x)=true
theorem RO{f:Str}{x:Addr}{oc:Value}{od an:Option Addr}{sl:Array (Option Value)}{kV dc pm cd ct:Value}(a:PySem.W.nsIn K mainGlobals f=some (some (.ref x)))(l:K.lookup x=some ⟨oc,od,.func (PySem.W.fnOf f f (N7 st) (JZ st) (GQ st) .none kV dc pm an cd ct),sl⟩)(c:PySem.W.codeIn K cd f=true)(k:PySem.W.keepIn K (.ref x)=true):FA K f st:=⟨x,oc,od,an,sl,kV,dc,pm,cd,ct,a,l,c,k⟩
def Cr(Γ:String→Option Fn)(e:En):Prop:=W4 e.N e.ps (GQ e.st)∧Γ e.f=some e.F∧e.F.ps=e.ps.length∧e.F.ns=e.N.length∧∀(kV doc pm:Value) (an:Option Addr) (dz ct:Value) (us:List Value),us.length=e.ps.length→bindArgs (PySem.W.fnOf (Str.ofString e.f) (Str.ofString e.f) (N7 e.st) (JZ e.st) (GQ e.st) .none kV doc pm an dz ct) ⟨us,[]⟩=pure (e.ps.zip us)
noncomputable abbrev dA (P:Program) (w:World) (K:p4) (mg:Str→Option Value) (base:Heap) (W n:Nat) (Γ:String→Option Fn) (f:String) (st:Stmt) (N:List Str) (b:bp):Prop:=∀{fa:Addr} {dz:Value} {A:Around} {outer:List Env} {s:Shared} {H:Hp} {E:XK},gm n (A.deeper (envOfC (Str.ofString f) (GQ st) s.heap.objs.size fa dz))→eC (m9 jo P w K mg base N (Str.ofString f) (GQ st) fa dz A outer s H E).vn (JZ st) (YH (BW W Γ n) W K b)
noncomputable abbrev v3 (K:p4) (mg:Str→Option Value) (e:En):Prop:=∃fa fd,Ct K mg e.f e.st e.ps fa fd
theorem Ki(X:K.In h)(G:h.Ns mainGlobals mg):∀{l:List En},W9 (fun e=>FA K (Str.ofString e.f) e.st) l→W9 (Cr Γ) l→W9 (v3 K mg) l
 | [],_,_=>trivial
 | _::_,⟨⟨x,oc,od,an,sl,kV,dc,pm,cd,ct,a,l,c,k⟩,t⟩,⟨q,u⟩=>⟨⟨x,_,pF l c k,(pF l c k).binds q.2.2.2.2,PySem.W.mg_of X G a⟩,Ki X G t u⟩
theorem FY:∀{l:List En},W9 (v3 K mg) l→∀f∈l.map (·.f),Def P w K mg base 0 (BW W Γ 0) f
 | _::_,⟨⟨_,_,t⟩,_⟩,_,.head _=>t.zero
 | _::_,a7,f,.tail _ q=>by
  obtain⟨_,h⟩:=a7;exact FY h f q
theorem FX:∀{l:List En},W9 (v3 K mg) l→W9 (Cr Γ) l→W9 (fun e=>dA P w K mg base W n Γ e.f e.st e.N e.F.body) l→∀f∈l.map (·.f),Def P w K mg base (n+1) (BW W Γ (n+1)) f
 | e::_,⟨⟨fa,fd,t⟩,_⟩,⟨q,_⟩,⟨o,_⟩,_,.head _=>⟨fa,fd,_,lU t.1 q.1 q.2.1 q.2.2.1 q.2.2.2.1 (fun dz A outer s H E hr=>o hr),t.2.2,t.1.kp,t.2.1⟩
 | _::_,⟨_,h⟩,⟨_,q⟩,⟨_,o⟩,f,.tail _ z=>FX h q o f z
theorem len0(h:l.length=0):l=[]:=List.length_eq_zero_iff.mp h
theorem za(h:l.length=n+1):∃a r,l=a::r∧r.length=n:=by cases l with
 | nil=>cases h
 | cons a r=>exact⟨a,r,rfl,Nat.succ.inj h⟩
theorem Jb(h:l.length=1):∃a,l=[a]:=by obtain⟨a,r,rfl,k⟩:=za h;exact⟨a,by rw[len0 k]⟩
theorem Jc(h:l.length=2):∃a b,l=[a,b]:=by obtain⟨a,r,rfl,k⟩:=za h;obtain⟨b,rfl⟩:=Jb k;exact⟨a,b,rfl⟩
theorem Gp(h:l.length=3):∃a b c,l=[a,b,c]:=by obtain⟨a,r,rfl,k⟩:=za h;obtain⟨b,c,rfl⟩:=Jc k;exact⟨a,b,c,rfl⟩
theorem QQ(h:l.length=4):∃a b c d,l=[a,b,c,d]:=by obtain⟨a,r,rfl,k⟩:=za h;obtain⟨b,c,d,rfl⟩:=Gp k;exact⟨a,b,c,d,rfl⟩
end WL
end
section
namespace T
open PySem L2 WL
noncomputable def uk:D:=.int 997
noncomputable def xa:D:=.int 3
noncomputable def F7:bp:=(.cons (.set 3 (.b1 (.dict true) (.var 1))) (.cons (.set 4 (.lst true .nil)) (.cons (.set 5 (.call "do_deeds" (.cons (.var 0) (.cons (.var 3) (.cons (.var 4) (.cons (.var 2) .nil)))))) (.cons (.set 6 (.b1 .tuple (.comp false 1 (.nm 7) (.iw (.con xa)) .tt (.call "page_of" (.cons (.var 4) (.cons (.var 7) .nil)))))) (.cons (.ret (.tup (.cons (.var 5) (.cons (.call "store_of" (.cons (.var 3) .nil)) (.cons (.var 6) .nil))))) .nil)))))
noncomputable def F9:Fn:=⟨3,7,F7⟩
noncomputable def YC:bp:=(.cons (.set 2 (.ix (.var 0) (.con (.int 0)))) (.cons (.ite (.val (.cmp .eq (.var 2) (.con (.str "number")))) (.cons (.ret (.ix (.var 0) (.con (.int 1)))) .nil) .nil) (.cons (.ite (.val (.cmp .eq (.var 2) (.con (.str "name")))) (.cons (.ret (.get (.var 1) (.ix (.var 0) (.con (.int 1))) (.con (.int 0)))) .nil) .nil) (.cons (.set 3 (.call "number_of" (.cons (.ix (.var 0) (.con (.int 1))) (.cons (.var 1) .nil)))) (.cons (.set 4 (.call "number_of" (.cons (.ix (.var 0) (.con (.int 2))) (.cons (.var 1) .nil)))) (.cons (.ite (.val (.cmp .eq (.var 2) (.con (.str "sum")))) (.cons (.ret (.bin .mod (.bin .add (.var 3) (.var 4)) (.con uk))) .nil) .nil) (.cons (.ite (.val (.cmp .eq (.var 2) (.con (.str "times")))) (.cons (.ret (.bin .mod (.bin .mul (.var 3) (.var 4)) (.con uk))) .nil) .nil) (.cons (.ret (.rk (.val (.cmp .lt (.var 3) (.var 4))) (.con (.int 1)) (.con (.int 0)))) .nil))))))))
noncomputable def K3:Fn:=⟨2,5,YC⟩
noncomputable def UG:bp:=(.cons (.set 4 (.con (.int 0))) (.cons (.set 5 (.b1 (.og true) (.var 0))) (.cons (.bh (.val (.var 5)) (.cons (.set 6 (.pop (.var 5))) (.cons (.set 7 (.ix (.var 6) (.con (.int 0)))) (.cons (.ite (.val (.cmp .eq (.var 7) (.con (.str "put")))) (.cons (.put (.var 1) (.ix (.var 6) (.con (.int 1))) (.call "number_of" (.cons (.ix (.var 6) (.con (.int 2))) (.cons (.var 1) .nil)))) .nil) (.cons (.ite (.val (.cmp .eq (.var 7) (.con (.str "show")))) (.cons (.drop (.app (.var 2) (.tup (.cons (.ix (.var 6) (.con (.int 1))) (.cons (.call "number_of" (.cons (.ix (.var 6) (.con (.int 2))) (.cons (.var 1) .nil))) .nil))))) .nil) (.cons (.ite (.val (.cmp .eq (.var 7) (.con (.str "if")))) (.cons (.set 8 (.rk (.val (.cmp .ne (.call "number_of" (.cons (.ix (.var 6) (.con (.int 1))) (.cons (.var 1) .nil))) (.con (.int 0)))) (.ix (.var 6) (.con (.int 2))) (.ix (.var 6) (.con (.int 3))))) (.cons (.drop (.ext (.var 5) (.b1 (.og false) (.var 8)))) .nil)) (.cons (.ite (.val (.cmp .ne (.call "number_of" (.cons (.ix (.var 6) (.con (.int 1))) (.cons (.var 1) .nil))) (.con (.int 0)))) (.cons (.ite (.val (.cmp .ge (.var 4) (.var 3))) (.cons (.ret (.con .ao)) .nil) .nil) (.cons (.set 4 (.bin .add (.var 4) (.con (.int 1)))) (.cons (.drop (.app (.var 5) (.var 6))) (.cons (.drop (.ext (.var 5) (.b1 (.og false) (.ix (.var 6) (.con (.int 2)))))) .nil)))) .nil) .nil)) .nil)) .nil)) .nil)))) (.cons (.ret (.var 4)) .nil))))
noncomputable def ou:Fn:=⟨4,9,UG⟩
noncomputable def fL:bp:=(.cons (.ret (.b1 .tuple (.comp false 2 (.tp [(.nm 2),(.nm 3)]) (.seq (.var 0)) (.val (.cmp .eq (.var 2) (.var 1))) (.var 3)))) .nil)
noncomputable def XF:Fn:=⟨2,2,fL⟩
noncomputable def bW:bp:=(.cons (.ret (.b1 .tuple (.comp false 1 (.nm 1) (.seq (.b1 (.t5 false) (.var 0))) (.val (.cmp .ne (.mM (.var 0) (.var 1)) (.con (.int 0)))) (.tup (.cons (.var 1) (.cons (.mM (.var 0) (.var 1)) .nil)))))) .nil)
noncomputable def UL:Fn:=⟨1,1,bW⟩
noncomputable def tR:bp:=(.cons (.ite (.val (.cmp .lt (.var 1) (.b1 .len (.var 0)))) (.cons (.ret (.ix (.var 0) (.var 1))) .nil) .nil) (.cons (.ret (.con (.int 0))) .nil))
noncomputable def TF:Fn:=⟨2,2,tR⟩
noncomputable def Fp:bp:=(.cons (.ret (.bin .mod (.bin .mod (.bin .mul (.var 0) (.con (.int 48271))) (.var 1)) (.var 2))) .nil)
noncomputable def KR:Fn:=⟨3,3,Fp⟩
noncomputable def tQ:bp:=(.cons (.set 2 (.con (.str "abcdefghijklmnopqrstuvwxyz"))) (.cons (.set 3 (.call "_law_cell" (.cons (.var 0) (.cons (.con (.int 0)) .nil)))) (.cons (.set 4 (.ix (.var 2) (.bin .mod (.bin .add (.call "_law_mix" (.cons (.var 3) (.cons (.con (.int 9949)) (.cons (.con (.int 26)) .nil)))) (.bin .mul (.con (.int 5)) (.var 1))) (.con (.int 26))))) (.cons (.set 5 (.join (.con (.str "")) (.comp false 1 (.nm 7) (.iw (.call "_law_mix" (.cons (.var 3) (.cons (.con (.int 9931)) (.cons (.con (.int 3)) .nil))))) .tt (.ix (.var 2) (.call "_law_mix" (.cons (.bin .add (.var 3) (.bin .mul (.con (.int 3)) (.var 7))) (.cons (.con (.int 9941)) (.cons (.con (.int 26)) .nil)))))))) (.cons (.set 6 (.call "_law_mix" (.cons (.var 3) (.cons (.con (.int 9929)) (.cons (.bin .add (.b1 .len (.var 5)) (.con (.int 1))) .nil))))) (.cons (.ret (.bin .add (.bin .add (.sl (.var 5) .no (.pt (.var 6))) (.var 4)) (.sl (.var 5) (.pt (.var 6)) .no))) .nil))))))
noncomputable def zt:Fn:=⟨2,7,tQ⟩
noncomputable def mW:bp:=(.cons (.ret (.comp false 1 (.nm 1) (.iw (.con (.int 4))) .tt (.call "_law_name" (.cons (.var 0) (.cons (.var 1) .nil))))) .nil)
noncomputable def cO:Fn:=⟨1,1,mW⟩
noncomputable def fK:bp:=(.cons (.ret (.lst false (.cons (.con (.int 0)) (.cons (.con (.int 2)) (.cons (.call "_law_mix" (.cons (.call "_law_cell" (.cons (.var 0) (.cons (.con (.int 1)) .nil))) (.cons (.con (.int 9923)) (.cons (.con (.int 3)) .nil)))) (.cons (.call "_law_mix" (.cons (.call "_law_cell" (.cons (.var 0) (.cons (.con (.int 1)) .nil))) (.cons (.con (.int 9907)) (.cons (.con (.int 3)) .nil)))) .nil)))))) .nil)
noncomputable def XD:Fn:=⟨1,1,fK⟩
noncomputable def tO:bp:=(.cons (.set 3 (.call "_law_mix" (.cons (.var 1) (.cons (.con (.int 9901)) (.cons (.con (.int 9)) .nil))))) (.cons (.ite (.or (.val (.cmp .eq (.var 2) (.con (.int 0)))) (.val (.cmp .lt (.var 3) (.con (.int 3))))) (.cons (.ite (.val (.cmp .eq (.bin .mod (.var 3) (.con (.int 3))) (.con (.int 0)))) (.cons (.ret (.tup (.cons (.con (.str "number")) (.cons (.call "_law_mix" (.cons (.var 1) (.cons (.con (.int 9887)) (.cons (.con (.int 997)) .nil)))) .nil)))) .nil) .nil) (.cons (.ret (.tup (.cons (.con (.str "name")) (.cons (.ix (.var 0) (.call "_law_mix" (.cons (.var 1) (.cons (.con (.int 9883)) (.cons (.con (.int 4)) .nil))))) .nil)))) .nil)) .nil) (.cons (.set 4 (.call "_law_term" (.cons (.var 0) (.cons (.bin .add (.bin .mul (.var 1) (.con (.int 3))) (.con (.int 1))) (.cons (.bin .sub (.var 2) (.con (.int 1))) .nil))))) (.cons (.ret (.tup (.cons (.ix (.lst false (.cons (.con (.str "sum")) (.cons (.con (.str "times")) (.cons (.con (.str "less")) .nil)))) (.bin .mod (.var 3) (.con (.int 3)))) (.cons (.var 4) (.cons (.call "_law_term" (.cons (.var 0) (.cons (.bin .add (.bin .mul (.var 1) (.con (.int 5))) (.con (.int 2))) (.cons (.bin .sub (.var 2) (.con (.int 1))) .nil)))) .nil))))) .nil))))
noncomputable def W6:Fn:=⟨3,5,tO⟩
noncomputable def YB:bp:=(.cons (.ite (.val (.cmp .eq (.ix (.var 0) (.con (.int 0))) (.con (.str "name")))) (.cons (.ret (.lst false (.cons (.ix (.var 0) (.con (.int 1))) .nil))) .nil) .nil) (.cons (.ite (.val (.cmp .eq (.ix (.var 0) (.con (.int 0))) (.con (.str "number")))) (.cons (.ret (.lst false .nil)) .nil) .nil) (.cons (.ret (.cat false (.call "_law_names_in" (.cons (.ix (.var 0) (.con (.int 1))) .nil)) (.call "_law_names_in" (.cons (.ix (.var 0) (.con (.int 2))) .nil)))) .nil)))
noncomputable def M6:Fn:=⟨1,1,YB⟩
noncomputable def QX:bp:=(.cons (.asg (.tp [(.nm 4),(.nm 5),(.nm 6)]) (.var 0)) (.cons (.set 7 (.call "_law_term" (.cons (.var 4) (.cons (.var 1) (.cons (.bin .add (.con (.int 1)) (.bin .mod (.var 1) (.con (.int 2)))) .nil))))) (.cons (.set 8 (.b1 .max (.cat false (.comp false 1 (.nm 14) (.seq (.call "_law_names_in" (.cons (.var 7) .nil))) .tt (.ix (.var 5) (.index (.var 4) (.var 14)))) (.lst false (.cons (.var 3) .nil))))) (.cons (.set 9 (.call "_law_mix" (.cons (.var 1) (.cons (.con (.int 9871)) (.cons (.con (.int 9)) .nil))))) (.cons (.ite (.and (.val (.cmp .gt (.var 2) (.con (.int 0)))) (.val (.cmp .lt (.var 9) (.con (.int 2))))) (.cons (.set 10 (.call "_law_block" (.cons (.var 0) (.cons (.bin .add (.bin .mul (.var 1) (.con (.int 3))) (.con (.int 1))) (.cons (.bin .sub (.var 2) (.con (.int 1))) (.cons (.var 8) .nil)))))) (.cons (.ret (.tup (.cons (.con (.str "if")) (.cons (.var 7) (.cons (.var 10) (.cons (.call "_law_block" (.cons (.var 0) (.cons (.bin .add (.bin .mul (.var 1) (.con (.int 5))) (.con (.int 2))) (.cons (.bin .sub (.var 2) (.con (.int 1))) (.cons (.var 8) .nil))))) .nil)))))) .nil)) .nil) (.cons (.ite (.and (.val (.cmp .gt (.var 2) (.con (.int 0)))) (.and (.val (.cmp .lt (.var 9) (.con (.int 4)))) (.or (.val (.cmp .eq (.var 3) (.con (.int 0)))) (.not (.val (.var 6)))))) (.cons (.set 11 (.tup (.cons (.con (.str "put")) (.cons (.ix (.var 4) (.con (.int 0))) (.cons (.tup (.cons (.con (.str "sum")) (.cons (.tup (.cons (.con (.str "name")) (.cons (.ix (.var 4) (.con (.int 0))) .nil))) (.cons (.tup (.cons (.con (.str "number")) (.cons (.con (.int 1)) .nil))) .nil)))) .nil))))) (.cons (.set 12 (.call "_law_block" (.cons (.var 0) (.cons (.bin .add (.bin .mul (.var 1) (.con (.int 3))) (.con (.int 1))) (.cons (.bin .sub (.var 2) (.con (.int 1))) (.cons (.var 3) .nil)))))) (.cons (.ite (.val (.var 6)) (.cons (.set 7 (.tup (.cons (.con (.str "less")) (.cons (.tup (.cons (.con (.str "name")) (.cons (.ix (.var 4) (.con (.int 0))) .nil))) (.cons (.tup (.cons (.con (.str "number")) (.cons (.call "_law_mix" (.cons (.var 1) (.cons (.con (.int 9859)) (.cons (.con (.int 6)) .nil)))) .nil))) .nil))))) .nil) .nil) (.cons (.ret (.tup (.cons (.con (.str "while")) (.cons (.var 7) (.cons (.bin .add (.var 12) (.tup (.cons (.var 11) .nil))) .nil))))) .nil)))) .nil) (.cons (.set 13 (.comp false 1 (.nm 14) (.iw (.con (.int 4))) (.or (.val (.cmp .ge (.ix (.var 5) (.var 14)) (.var 8))) (.not (.val (.var 6)))) (.var 14))) (.cons (.ite (.and (.val (.cmp .lt (.var 9) (.con (.int 7)))) (.val (.var 13))) (.cons (.ret (.tup (.cons (.con (.str "put")) (.cons (.ix (.var 4) (.ix (.var 13) (.call "_law_mix" (.cons (.var 1) (.cons (.con (.int 9857)) (.cons (.b1 .len (.var 13)) .nil)))))) (.cons (.var 7) .nil))))) .nil) .nil) (.cons (.ret (.tup (.cons (.con (.str "show")) (.cons (.max2 (.call "_law_mix" (.cons (.var 1) (.cons (.con (.int 9851)) (.cons (.con (.int 3)) .nil)))) (.bin .mul (.var 8) (.b1 .int (.var 6)))) (.cons (.var 7) .nil))))) .nil)))))))))
noncomputable def zu:Fn:=⟨4,14,QX⟩
noncomputable def mX:bp:=(.cons (.set 4 (.bin .add (.con (.int 1)) (.call "_law_mix" (.cons (.var 1) (.cons (.con (.int 9839)) (.cons (.con (.int 2)) .nil)))))) (.cons (.ret (.b1 .tuple (.comp false 1 (.nm 5) (.iw (.var 4)) .tt (.call "_law_deed" (.cons (.var 0) (.cons (.bin .add (.bin .mul (.var 1) (.con (.int 7))) (.bin .mul (.con (.int 11)) (.var 5))) (.cons (.var 2) (.cons (.var 3) .nil)))))))) .nil))
noncomputable def W7:Fn:=⟨4,5,mX⟩
noncomputable def bZ:bp:=(.cons (.set 2 (.cmp .gt (.call "_law_mix" (.cons (.call "_law_cell" (.cons (.var 0) (.cons (.con (.int 0)) .nil))) (.cons (.con (.int 9833)) (.cons (.con (.int 4)) .nil)))) (.con (.int 0)))) (.cons (.set 3 (.tup (.cons (.call "_law_names" (.cons (.var 0) .nil)) (.cons (.call "_law_levels" (.cons (.var 0) .nil)) (.cons (.var 2) .nil))))) (.cons (.set 4 (.sl (.var 0) (.pt (.var 1)) (.pt (.bin .add (.bin .add (.var 1) (.con (.int 1))) (.bin .mod (.call "_law_cell" (.cons (.var 0) (.cons (.con (.int 0)) .nil))) (.con (.int 3))))))) (.cons (.ret (.b1 .tuple (.comp false 1 (.nm 5) (.seq (.var 4)) .tt (.call "_law_deed" (.cons (.var 3) (.cons (.var 5) (.cons (.con (.int 2)) (.cons (.con (.int 0)) .nil)))))))) .nil))))
noncomputable def cN:Fn:=⟨2,5,bZ⟩
noncomputable def bY:bp:=(.cons (.set 2 (.lst true .nil)) (.cons (.fr (.tp [(.nm 3),(.nm 4)]) (.enum (.call "_law_names" (.cons (.var 0) .nil))) (.cons (.set 5 (.call "_law_mix" (.cons (.bin .add (.call "_law_cell" (.cons (.var 0) (.cons (.var 1) .nil))) (.bin .mul (.con (.int 13)) (.var 3))) (.cons (.con (.int 9829)) (.cons (.con (.int 997)) .nil))))) (.cons (.ite (.val (.cmp .eq (.bin .mod (.call "_law_cell" (.cons (.var 0) (.cons (.var 1) .nil))) (.con (.int 4))) (.con (.int 0)))) (.cons (.set 5 (.bin .mod (.var 5) (.con (.int 3)))) .nil) .nil) (.cons (.drop (.app (.var 2) (.tup (.cons (.var 4) (.cons (.var 5) .nil))))) .nil)))) (.cons (.ret (.b1 .tuple (.b1 (.sorted false) (.var 2)))) .nil)))
noncomputable def nH:Fn:=⟨2,6,bY⟩
noncomputable def xb:D:=.tup [.str "sum",.str "times",.str "less"]
noncomputable def U9:bp:=(.cons (.set 1 (.CB true [] .nil)) (.cons (.set 2 (.b1 (.list true) (.var 0))) (.cons (.bh (.val (.var 2)) (.cons (.set 3 (.pop (.var 2))) (.cons (.ite (.val (.cmp .isin (.ix (.var 3) (.con (.int 0))) (.tup (.cons (.con (.str "name")) (.cons (.con (.str "put")) .nil))))) (.cons (.put (.var 1) (.ix (.var 3) (.con (.int 1))) (.con (.bl true))) .nil) .nil) (.cons (.drop (.ext (.var 2) (.call "parts_of" (.cons (.var 3) .nil)))) .nil)))) (.cons (.ret (.b1 .tuple (.b1 (.t5 false) (.var 1)))) .nil))))
noncomputable def UW:Fn:=⟨1,4,U9⟩
noncomputable def R4:bp:=(.cons (.ret (.call "names_of" (.cons (.tup (.cons (.var 0) .nil)) .nil))) .nil)
noncomputable def R6:Fn:=⟨1,1,R4⟩
noncomputable def c7:bp:=(.cons (.set 1 (.ix (.var 0) (.con (.int 0)))) (.cons (.ite (.val (.cmp .isin (.var 1) (.tup (.cons (.con (.str "number")) (.cons (.con (.str "name")) .nil))))) (.cons (.ret (.tup .nil)) .nil) .nil) (.cons (.ite (.val (.cmp .isin (.var 1) (.con xb))) (.cons (.ret (.sl (.var 0) (.pt (.con (.int 1))) .no)) .nil) .nil) (.cons (.ite (.val (.cmp .isin (.var 1) (.tup (.cons (.con (.str "put")) (.cons (.con (.str "show")) .nil))))) (.cons (.ret (.sl (.var 0) (.pt (.con (.int 2))) .no)) .nil) .nil) (.cons (.ite (.val (.cmp .eq (.var 1) (.con (.str "if")))) (.cons (.ret (.bin .add (.bin .add (.tup (.cons (.ix (.var 0) (.con (.int 1))) .nil)) (.ix (.var 0) (.con (.int 2)))) (.ix (.var 0) (.con (.int 3))))) .nil) .nil) (.cons (.ret (.bin .add (.tup (.cons (.ix (.var 0) (.con (.int 1))) .nil)) (.ix (.var 0) (.con (.int 2))))) .nil))))))
noncomputable def KY:Fn:=⟨1,2,c7⟩
noncomputable def tU:bp:=(.cons (.set 1 .CO) (.cons (.drop (.call "gather_flows" (.cons (.var 0) (.cons (.tup .nil) (.cons (.var 1) .nil))))) (.cons (.ret (.b1 .tuple (.b1 (.AW false) (.var 1)))) .nil)))
noncomputable def tZ:Fn:=⟨1,2,tU⟩
noncomputable def Fq:bp:=(.cons (.set 2 (.b1 (.dict false) (.var 1))) (.cons (.ret (.b1 .all (.comp false 2 (.tp [(.nm 3),(.nm 4)]) (.seq (.call "flows" (.cons (.var 0) .nil))) .tt (.cmp .le (.get (.var 2) (.var 3) (.con (.int 0))) (.call "level_of" (.cons (.var 4) (.cons (.var 2) .nil))))))) .nil))
noncomputable def Ft:Fn:=⟨2,3,Fq⟩
noncomputable def O9:bp:=(.cons (.fr (.nm 3) (.seq (.var 0)) (.cons (.set 4 (.ix (.var 3) (.con (.int 0)))) (.cons (.ite (.val (.cmp .eq (.var 4) (.con (.str "if")))) (.cons (.set 5 (.bin .add (.var 1) (.call "names_in_term" (.cons (.ix (.var 3) (.con (.int 1))) .nil)))) (.cons (.drop (.call "gather_flows" (.cons (.ix (.var 3) (.con (.int 2))) (.cons (.var 5) (.cons (.var 2) .nil))))) (.cons (.drop (.call "gather_flows" (.cons (.ix (.var 3) (.con (.int 3))) (.cons (.var 5) (.cons (.var 2) .nil))))) .nil))) (.cons (.ite (.val (.cmp .eq (.var 4) (.con (.str "while")))) (.cons (.drop (.call "add_flows" (.cons (.bin .add (.var 1) (.call "names_in_term" (.cons (.ix (.var 3) (.con (.int 1))) .nil))) (.cons (.tup (.cons (.con (.str "page")) (.cons (.con (.int 0)) .nil))) (.cons (.var 2) .nil))))) (.cons (.drop (.call "gather_flows" (.cons (.ix (.var 3) (.con (.int 2))) (.cons (.var 1) (.cons (.var 2) .nil))))) .nil)) (.cons (.ite (.val (.cmp .eq (.var 4) (.con (.str "put")))) (.cons (.drop (.call "add_flows" (.cons (.bin .add (.var 1) (.call "names_in_term" (.cons (.ix (.var 3) (.con (.int 2))) .nil))) (.cons (.tup (.cons (.con (.str "name")) (.cons (.ix (.var 3) (.con (.int 1))) .nil))) (.cons (.var 2) .nil))))) .nil) (.cons (.drop (.call "add_flows" (.cons (.bin .add (.var 1) (.call "names_in_term" (.cons (.ix (.var 3) (.con (.int 2))) .nil))) (.cons (.tup (.cons (.con (.str "page")) (.cons (.ix (.var 3) (.con (.int 1))) .nil))) (.cons (.var 2) .nil))))) .nil)) .nil)) .nil)) .nil))) .nil)
noncomputable def vz:Fn:=⟨3,6,O9⟩
noncomputable def LR:bp:=(.cons (.fr (.nm 3) (.seq (.var 0)) (.cons (.zC (.var 2) (.tup (.cons (.var 3) (.cons (.var 1) .nil)))) .nil)) .nil)
noncomputable def vy:Fn:=⟨3,4,LR⟩
noncomputable def cA:bp:=(.cons (.ite (.val (.cmp .eq (.ix (.var 0) (.con (.int 0))) (.con (.str "page")))) (.cons (.ret (.ix (.var 0) (.con (.int 1)))) .nil) .nil) (.cons (.ret (.get (.var 1) (.ix (.var 0) (.con (.int 1))) (.con (.int 0)))) .nil))
noncomputable def cP:Fn:=⟨2,2,cA⟩
noncomputable def NQ:bp:=(.cons (.set 2 (.b1 (.dict false) (.var 1))) (.cons (.set 3 (.call "targets_by_name" (.cons (.call "flows" (.cons (.var 0) .nil)) .nil))) (.cons (.set 4 (.b1 (.ug true) (.comp false 1 (.nm 10) (.seq (.call "names_of" (.cons (.var 0) .nil))) .tt (.tup (.cons (.var 10) (.cons (.con (.int 0)) .nil)))))) (.cons (.drop (.upd (.var 4) (.var 2))) (.cons (.fr (.nm 5) (.seq (.b1 (.yt false) (.comp false 2 (.tp [(.nm 10),(.nm 11)]) (.seq (.var 1)) .tt (.var 11)))) (.cons (.set 6 (.comp false 2 (.tp [(.nm 10),(.nm 11)]) (.seq (.var 1)) (.val (.cmp .eq (.var 11) (.var 5))) (.var 10))) (.cons (.set 7 (.call "names_reached" (.cons (.var 6) (.cons (.var 3) (.cons (.var 2) .nil))))) (.cons (.set 8 (.call "trail_down" (.cons (.var 5) (.cons (.var 7) (.cons (.var 3) (.cons (.var 2) .nil)))))) (.cons (.ite (.val (.cmp .mI (.var 8) (.con .ao))) (.cons (.ret (.var 8)) .nil) .nil) (.cons (.fr (.nm 9) (.keys (.var 7)) (.cons (.put (.var 4) (.var 9) (.max2 (.var 5) (.mM (.var 4) (.var 9)))) .nil)) .nil)))))) (.cons (.ret (.tup (.cons (.con (.str "house")) (.cons (.b1 .tuple (.b1 (.AX false) (.var 4))) .nil)))) .nil))))))
noncomputable def fP:Fn:=⟨2,10,NQ⟩
noncomputable def PL:bp:=(.cons (.ret (.b1 .group (.var 0))) .nil)
noncomputable def Q0:Fn:=⟨1,4,PL⟩
noncomputable def MJ:bp:=(.cons (.set 3 (.b1 (.ug true) (.comp false 1 (.nm 8) (.seq (.var 0)) .tt (.tup (.cons (.var 8) (.cons (.con .ao) .nil)))))) (.cons (.set 4 (.b1 (.list true) (.var 0))) (.cons (.bh (.val (.var 4)) (.cons (.set 5 (.AS (.var 4))) (.cons (.fr (.tp [(.nm 6),(.nm 7)]) (.seq (.get (.var 1) (.var 5) (.lst false .nil))) (.cons (.ite (.and (.val (.cmp .eq (.var 6) (.con (.str "name")))) (.and (.val (.tS (.var 7) (.var 2))) (.val (.tS (.var 7) (.var 3))))) (.cons (.put (.var 3) (.var 7) (.var 5)) (.cons (.drop (.app (.var 4) (.var 7))) .nil)) .nil) .nil)) .nil))) (.cons (.ret (.var 3)) .nil))))
noncomputable def vE:Fn:=⟨3,8,MJ⟩
noncomputable def QW:bp:=(.cons (.fr (.nm 4) (.keys (.var 1)) (.cons (.fr (.nm 5) (.seq (.get (.var 2) (.var 4) (.lst false .nil))) (.cons (.ite (.val (.call "is_below" (.cons (.var 5) (.cons (.var 0) (.cons (.var 3) .nil))))) (.cons (.ret (.tup (.cons (.con (.str "trail")) (.cons (.call "way_to" (.cons (.var 4) (.cons (.var 1) .nil))) (.cons (.var 5) .nil))))) .nil) .nil) .nil)) .nil)) (.cons (.ret (.con .ao)) .nil))
noncomputable def W5:Fn:=⟨4,6,QW⟩
noncomputable def cB:bp:=(.cons (.ite (.val (.cmp .eq (.ix (.var 0) (.con (.int 0))) (.con (.str "page")))) (.cons (.ret (.cmp .lt (.ix (.var 0) (.con (.int 1))) (.var 1))) .nil) .nil) (.cons (.ret (.cmp .lt (.get (.var 2) (.ix (.var 0) (.con (.int 1))) (.var 1)) (.var 1))) .nil))
noncomputable def cQ:Fn:=⟨3,3,cB⟩
noncomputable def bV:bp:=(.cons (.set 2 (.lst true .nil)) (.cons (.set 3 (.var 0)) (.cons (.bh (.val (.cmp .mI (.var 3) (.con .ao))) (.cons (.drop (.app (.var 2) (.var 3))) (.cons (.set 3 (.mM (.var 1) (.var 3))) .nil))) (.cons (.ret (.b1 .yv (.var 2))) .nil))))
noncomputable def nG:Fn:=⟨2,4,bV⟩
noncomputable def O8:bp:=(.cons (.set 4 (.lst true .nil)) (.cons (.fr (.tp [(.nm 5),(.tp [(.nm 6),(.nm 7)])]) (.CH (.var 0)) (.cons (.ite (.val (.cmp .gt (.get (.b1 (.dict false) (.var 1)) (.var 6) (.con (.int 0))) (.var 2))) (.cons (.set 7 (.call "_law_mix" (.cons (.bin .add (.var 3) (.bin .mul (.con (.int 17)) (.var 5))) (.cons (.con (.int 9817)) (.cons (.con (.int 997)) .nil))))) .nil) .nil) (.cons (.drop (.app (.var 4) (.tup (.cons (.var 6) (.cons (.var 7) .nil))))) .nil))) (.cons (.ret (.b1 .tuple (.var 4))) .nil)))
noncomputable def KC:Fn:=⟨4,8,O8⟩
noncomputable def mZ:bp:=(.cons (.ite (.or (.val (.cmp .ne (.ix (.var 0) (.con (.int 0))) (.ix (.var 1) (.con (.int 0))))) (.val (.cmp .ne (.sl (.ix (.var 0) (.con (.int 2))) .no (.pt (.bin .add (.var 3) (.con (.int 1))))) (.sl (.ix (.var 1) (.con (.int 2))) .no (.pt (.bin .add (.var 3) (.con (.int 1)))))))) (.cons (.ret (.con (.bl false))) .nil) .nil) (.cons (.set 4 (.b1 (.dict false) (.var 2))) (.cons (.set 5 (.comp false 1 (.nm 6) (.seq (.lst false (.cons (.var 0) (.cons (.var 1) .nil)))) .tt (.comp false 1 (.nm 7) (.seq (.ix (.var 6) (.con (.int 1)))) (.val (.cmp .le (.get (.var 4) (.ix (.var 7) (.con (.int 0))) (.con (.int 0))) (.var 3))) (.var 7)))) (.cons (.ret (.cmp .eq (.ix (.var 5) (.con (.int 0))) (.ix (.var 5) (.con (.int 1))))) .nil))))
noncomputable def W8:Fn:=⟨4,6,mZ⟩
noncomputable def Bq:bp:=(.cons (.set 1 (.call "_law_program" (.cons (.var 0) (.cons (.con (.int 2)) .nil)))) (.cons (.set 2 (.call "_law_names" (.cons (.var 0) .nil))) (.cons (.set 3 (.call "settled" (.cons (.var 1) (.cons (.tup .nil) .nil)))) (.cons (.ite (.or (.val (.cmp .ne (.ix (.var 3) (.con (.int 0))) (.con (.str "house")))) (.val (.comp false 1 (.nm 9) (.seq (.ix (.var 3) (.con (.int 1)))) (.val (.cmp .ne (.ix (.var 9) (.con (.int 1))) (.con (.int 0)))) (.var 9)))) (.cons (.ret (.con (.bl false))) .nil) .nil) (.cons (.fr (.nm 4) (.seq (.cat false (.lst false (.cons (.call "_law_cell" (.cons (.var 0) (.cons (.con (.int 5)) .nil))) .nil)) (.b1 (.list false) (.sl (.var 0) (.pt (.con (.int 6))) (.pt (.con (.int 10))))))) (.cons (.set 5 (.call "settled" (.cons (.var 1) (.cons (.tup (.cons (.tup (.cons (.ix (.var 2) (.call "_law_mix" (.cons (.var 4) (.cons (.con (.int 9781)) (.cons (.con (.int 4)) .nil))))) (.cons (.bin .add (.con (.int 1)) (.call "_law_mix" (.cons (.var 4) (.cons (.con (.int 9769)) (.cons (.con (.int 2)) .nil))))) .nil))) .nil)) .nil)))) (.cons (.ite (.val (.cmp .eq (.ix (.var 5) (.con (.int 0))) (.con (.str "house")))) (.cons (.ite (.val (.cmp .mI (.call "lets" (.cons (.var 1) (.cons (.ix (.var 5) (.con (.int 1))) .nil))) (.con (.bl true)))) (.cons (.ret (.con (.bl false))) .nil) .nil) (.cons (.set 6 (.call "_law_store" (.cons (.var 0) (.cons (.con (.int 5)) .nil)))) (.cons (.set 7 (.call "_law_mix" (.cons (.var 4) (.cons (.con (.int 9791)) (.cons (.con (.int 2)) .nil))))) (.cons (.set 8 (.call "_law_other_store" (.cons (.var 6) (.cons (.ix (.var 5) (.con (.int 1))) (.cons (.var 7) (.cons (.var 4) .nil)))))) (.cons (.ite (.not (.val (.call "_law_alike" (.cons (.call "run" (.cons (.var 1) (.cons (.var 6) (.cons (.con (.int 5)) .nil)))) (.cons (.call "run" (.cons (.var 1) (.cons (.var 8) (.cons (.con (.int 5)) .nil)))) (.cons (.ix (.var 5) (.con (.int 1))) (.cons (.var 7) .nil))))))) (.cons (.ret (.con (.bl false))) .nil) .nil) .nil))))) .nil) .nil))) (.cons (.ret (.con (.bl true))) .nil))))))
noncomputable def Br:Fn:=⟨1,9,Bq⟩
end T
namespace T
open PySem L2 WL PySem.Spec PyProof.Rows
noncomputable def top(i:Nat):Stmt:=PySem.Challenge.pw_whisperwall_k08_whole_settled_levels_kee.main.body.getD i (.Pass ⟨0,0,0,0⟩)
noncomputable abbrev B7:List Str:=["program","found","waiting","part"]
noncomputable abbrev R5:List Str:=["term"]
noncomputable abbrev Ca:List Str:=["part","kind"]
noncomputable abbrev B3:List Str:=["program","found"]
noncomputable abbrev B6:List Str:=["program","house","levels"]
noncomputable abbrev B4:List Str:=["block","choosing","found","deed","kind","within"]
noncomputable abbrev BY:List Str:=["names","target","found","name"]
noncomputable abbrev cL:List Str:=["target","levels"]
noncomputable abbrev Cm:List Str:=p6
noncomputable abbrev Cn:List Str:=["pairs","onward","name","target"]
noncomputable abbrev B8:List Str:=pf
noncomputable abbrev Co:List Str:=["level","came_from","onward","told","name","target"]
noncomputable abbrev cM:List Str:=["target","level","told"]
noncomputable abbrev Cp:List Str:=["name","came_from","names","step"]
noncomputable abbrev Ck:List Str:=["program","store","most","standing","shown","turns","pages"]
noncomputable abbrev B9:List Str:=["term","standing","kind","first","second"]
noncomputable abbrev B2:List Str:=["program","standing","shown","most","turns","waiting","deed","kind","block"]
noncomputable abbrev fO:List Str:=["shown","level"]
noncomputable abbrev cJ:List Str:=["standing"]
noncomputable abbrev tY:List Str:=pj
noncomputable abbrev Fs:List Str:=["_law_cell_here","_law_prime","_law_many"]
noncomputable abbrev Ce:List Str:=["_law_script","_law_k","_law_letters","_law_seed","_law_sign","_law_tail","_law_at"]
noncomputable abbrev nF:List Str:=["_law_script"]
noncomputable abbrev fM:List Str:=["_law_script"]
noncomputable abbrev Cj:List Str:=["_law_names_here","_law_seed","_law_left","_law_turn","_law_one"]
noncomputable abbrev YD:List Str:=["_law_term_here"]
noncomputable abbrev Cd:List Str:=["_law_plan","_law_cell_here","_law_deep","_law_need","_law_names_here","_law_levels_here","_law_honest","_law_term_here","_law_high","_law_turn","_law_one","_law_more","_law_block_here","_law_some"]
noncomputable abbrev Cc:List Str:=["_law_plan","_law_cell_here","_law_deep","_law_need","_law_many"]
noncomputable abbrev Cg:List Str:=["_law_script","_law_k","_law_honest","_law_plan","_law_cells"]
noncomputable abbrev Ci:List Str:=["_law_script","_law_k","_law_found","_law_n","_law_name_here","_law_number"]
noncomputable abbrev Cf:List Str:=["_law_store_here","_law_house_here","_law_level","_law_cell_here","_law_found","_law_k","_law_name_here","_law_number"]
noncomputable abbrev Cb:List Str:=["_law_one","_law_other","_law_house_here","_law_level","_law_levels_here","_law_left"]
noncomputable abbrev B5:List Str:=["_law_script","_law_program_here","_law_names_here","_law_free","_law_cell_here","_law_found","_law_store_here","_law_level","_law_other"]
noncomputable def qz:List En:=[⟨"names_of",top 4,["program"],B7,UW⟩,⟨"names_in_term",top 5,["term"],R5,R6⟩,⟨"parts_of",top 6,["part"],Ca,KY⟩,⟨"flows",top 8,["program"],B3,tZ⟩,⟨"lets",top 9,["program","house"],B6,Ft⟩,⟨"gather_flows",top 10,["block","choosing","found"],B4,vz⟩,⟨"add_flows",top 11,["names","target","found"],BY,vy⟩,⟨"level_of",top 12,["target","levels"],cL,cP⟩,⟨"settled",top 14,["program","house"],Cm,fP⟩,⟨"targets_by_name",top 15,["pairs"],Cn,Q0⟩,⟨"names_reached",top 16,["starts","onward","told"],B8,vE⟩,⟨"trail_down",top 17,["level","came_from","onward","told"],Co,W5⟩,⟨"is_below",top 18,["target","level","told"],cM,cQ⟩,⟨"way_to",top 19,["name","came_from"],Cp,nG⟩,⟨"run",top 21,["program","store","most"],Ck,F9⟩,⟨"number_of",top 22,["term","standing"],B9,K3⟩,⟨"do_deeds",top 23,["program","standing","shown","most"],B2,ou⟩,⟨"page_of",top 24,["shown","level"],fO,XF⟩,⟨"store_of",top 25,["standing"],cJ,UL⟩,⟨"_law_cell",top 27,pj,tY,TF⟩,⟨"_law_mix",top 28,["_law_cell_here","_law_prime","_law_many"],Fs,KR⟩,⟨"_law_name",top 29,pj,Ce,zt⟩,⟨"_law_names",top 30,["_law_script"],nF,cO⟩,⟨"_law_levels",top 31,["_law_script"],fM,XD⟩,⟨"_law_term",top 33,["_law_names_here","_law_seed","_law_left"],Cj,W6⟩,⟨"_law_names_in",top 34,["_law_term_here"],YD,M6⟩,⟨"_law_deed",top 35,["_law_plan","_law_cell_here","_law_deep","_law_need"],Cd,zu⟩,⟨"_law_block",top 36,["_law_plan","_law_cell_here","_law_deep","_law_need"],Cc,W7⟩,⟨"_law_program",top 37,pj,Cg,cN⟩,⟨"_law_store",top 38,pj,Ci,nH⟩,⟨"_law_other_store",top 39,["_law_store_here","_law_house_here","_law_level","_law_cell_here"],Cf,KC⟩,⟨"_law_alike",top 40,["_law_one","_law_other","_law_house_here","_law_level"],Cb,W8⟩,⟨"law",top 41,["_law_script"],B5,Br⟩]
noncomputable def Γ:String→Option Fn:=fun f=>List.lookup f (qz.map fun e=>(e.f,e.F))
structure Tp(K:p4)(mg:Str→Option Value):Prop where
 Va:mg "all" = none
 tP:mg "dict" = none
 Jj:mg "enumerate" = none
 Vb:mg "int" = none
 Ep:mg "len" = none
 vk:mg "list" = none
 Er:mg "max" = none
 ye:mg "range" = none
 AL:mg "reversed" = none
 Vc:mg "set" = none
 vm:mg "sorted" = none
 mN:mg "tuple" = none
 uk:oz K mg "NUMBERS" uk
 xa:oz K mg "LEVELS" xa
 xb:oz K mg "PAIRING" xb
def Ds(P:Program)(w:World)(K:p4)(mg:Str→Option Value)(base:Heap)(W n:Nat):Prop:=∀f∈qz.map (·.f),Def P w K mg base n (BW W Γ n) f
section
variable{P:Program}{w:World}{K:p4}{mg:Str→Option Value}{base:Heap}{W n:Nat}(T:Tp K mg)(D:Ds P w K mg base W n)
include T D
theorem lC:dA P w K mg base W n Γ "names_of" (top 4) B7 U9:=fun hr=>by
 have nd:B7.Nodup:=by decide +kernel
 have hu:=PB hr;exact(BL (GK 1 nd (LO (mu:=true))) (BL (GK 2 nd (gH (mu:=true) rfl T.vk (BJ 0))) (BL (V4 jf (Q5 (BJ 2)) (BL (GK 3 nd (yM (BJ 2))) (BL (GF (DP sU (CZ (BJ 3) BP) (DX (BK DR (BK DR BR)))) (BL (gA hu (BJ 1) (CZ (BJ 3) BP) se) BX) BX) (BL (J2 (oM (BJ 2) (kc "parts_of" D hr (BK (BJ 3) BR)))) BX)))) (BL (CV (JW rfl T.mN (G1 (mu:=false) rfl rfl T.vm (BJ 1)))) BX))))
theorem WY:dA P w K mg base W n Γ "names_in_term" (top 5) R5 R4:=fun hr=>by
 exact(BL (CV (kc "names_of" D hr (BK (DX (BK (BJ 0) BR)) BR))) BX)
theorem lA:dA P w K mg base W n Γ "parts_of" (top 6) Ca c7:=fun hr=>by
 have nd:Ca.Nodup:=by decide +kernel
 have bw:=hr.units;exact(BL (GK 1 nd (CZ (BJ 0) BP)) (BL (GF (DP sU (BJ 1) (DX (BK DR (BK DR BR)))) (BL (CV (DX BR)) BX) BX) (BL (GF (DP sU (BJ 1) (gK T.xb rfl)) (BL (CV (XS (BJ 0) (TV BP) dJ)) BX) BX) (BL (GF (DP sU (BJ 1) (DX (BK DR (BK DR BR)))) (BL (CV (XS (BJ 0) (TV BP) dJ)) BX) BX) (BL (GF (DP (JK bw) (BJ 1) DR) (BL (CV (G8 (G8 (DX (BK (CZ (BJ 0) BP) BR)) (CZ (BJ 0) BP)) (CZ (BJ 0) BP))) BX) BX) (BL (CV (G8 (DX (BK (CZ (BJ 0) BP) BR)) (CZ (BJ 0) BP))) BX))))))
theorem Ks:dA P w K mg base W n Γ "flows" (top 8) B3 tU:=fun hr=>by
 have nd:B3.Nodup:=by decide +kernel
 have UC:=MM hr;exact(BL (GK 1 nd LN) (BL (J2 (kc "gather_flows" D hr (BK (BJ 0) (BK (DX BR) (BK (BJ 1) BR))))) (BL (CV (JW rfl T.mN (oJ (mu:=false) UC rfl rfl T.vm (BJ 1)))) BX)))
theorem Mt:dA P w K mg base W n Γ "lets" (top 9) B6 Fq:=fun hr=>by
 have nd:B6.Nodup:=by decide +kernel
 have hu:=PB hr;exact(BL (RN 2 nd rfl (Or.inr rfl) (V7 (mu:=false) rfl rfl T.tP (BJ 1))) (BL (CV (Oj rfl rfl T.Va (JH (mu:=false) (own:=["name","target"]) ⟨rfl,by rfl,by rfl,by rfl,by rfl,rfl,Or.inl rfl⟩ rfl (JD (kc "flows" D hr (BK (BJ 0) BR))) (fun _ _ _ _=>(V6 rfl (G9 (J9 3 (show (["program","house","levels","name","target"]:List Str).Nodup from by decide +kernel) rfl (Or.inl rfl)) (G9 (J9 4 (show (["program","house","levels","name","target"]:List Str).Nodup from by decide +kernel) rfl (Or.inl rfl)) MK)))) (fun _ _ _ _=>K5) (fun _ _ _ _=>(wo F5 (RQ hu (BJ 2) (BJ 3) BP) (kc "level_of" D hr (BK (BJ 4) (BK (BJ 2) BR)))))))) BX))
theorem YK:dA P w K mg base W n Γ "gather_flows" (top 10) B4 O9:=fun hr=>by
 have nd:B4.Nodup:=by decide +kernel
 have bw:=hr.units;exact(BL (Q6 jf rfl (JD (BJ 0)) (kL 3 nd) (BL (GK 4 nd (CZ (BJ 3) BP)) (BL (GF (DP (JK bw) (BJ 4) DR) (BL (GK 5 nd (G8 (BJ 1) (kc "names_in_term" D hr (BK (CZ (BJ 3) BP) BR)))) (BL (J2 (kc "gather_flows" D hr (BK (CZ (BJ 3) BP) (BK (BJ 5) (BK (BJ 2) BR))))) (BL (J2 (kc "gather_flows" D hr (BK (CZ (BJ 3) BP) (BK (BJ 5) (BK (BJ 2) BR))))) BX))) (BL (GF (DP (JK bw) (BJ 4) DR) (BL (J2 (kc "add_flows" D hr (BK (G8 (BJ 1) (kc "names_in_term" D hr (BK (CZ (BJ 3) BP) BR))) (BK (DX (BK DR (BK BP BR))) (BK (BJ 2) BR))))) (BL (J2 (kc "gather_flows" D hr (BK (CZ (BJ 3) BP) (BK (BJ 1) (BK (BJ 2) BR))))) BX)) (BL (GF (DP (JK bw) (BJ 4) DR) (BL (J2 (kc "add_flows" D hr (BK (G8 (BJ 1) (kc "names_in_term" D hr (BK (CZ (BJ 3) BP) BR))) (BK (DX (BK DR (BK (CZ (BJ 3) BP) BR))) (BK (BJ 2) BR))))) BX) (BL (J2 (kc "add_flows" D hr (BK (G8 (BJ 1) (kc "names_in_term" D hr (BK (CZ (BJ 3) BP) BR))) (BK (DX (BK DR (BK (CZ (BJ 3) BP) BR))) (BK (BJ 2) BR))))) BX)) BX)) BX)) BX))) BX)
theorem iJ:dA P w K mg base W n Γ "add_flows" (top 11) BY LR:=fun hr=>by
 have nd:BY.Nodup:=by decide +kernel
 have UB:=MQ hr;exact(BL (Q6 jf rfl (JD (BJ 0)) (kL 3 nd) (BL (Lq UB (BJ 2) (DX (BK (BJ 3) (BK (BJ 1) BR)))) BX)) BX)
theorem lD:dA P w K mg base W n Γ "level_of" (top 12) cL cA:=fun hr=>by
 have hu:=PB hr;have bw:=hr.units;exact(BL (GF (DP (JK bw) (CZ (BJ 0) BP) DR) (BL (CV (CZ (BJ 0) BP)) BX) BX) (BL (CV (RQ hu (BJ 1) (CZ (BJ 0) BP) BP)) BX))
theorem oX:dA P w K mg base W n Γ "settled" (top 14) Cm NQ:=fun hr=>by
 have nd:Cm.Nodup:=by decide +kernel
 have hu:=PB hr;have bw:=hr.units;exact(BL (GK 2 nd (V7 (mu:=false) rfl rfl T.tP (BJ 1))) (BL (GK 3 nd (kc "targets_by_name" D hr (BK (kc "flows" D hr (BK (BJ 0) BR)) BR))) (BL (GK 4 nd (jV (mu:=true) rfl rfl T.tP (JH (mu:=false) (own:=["name"]) (M:=p9) ⟨rfl,by rfl,by rfl,by rfl,by rfl,rfl,Or.inr ⟨rfl,by show (List.all (List.zip p9 p6) fun p=>decide (p.1=p.2)||List.all (_:List (Str×NameKind)) fun y=>decide (y.1≠p.1))=true;decide +kernel⟩⟩ rfl (JD (kc "names_of" D hr (BK (BJ 0) BR))) (fun _ _ _ _=>(J9 10 (show (["program","house","told","onward","levels","level","starts","came_from","trail","9","name"]:List Str).Nodup from by decide +kernel) rfl (Or.inl rfl))) (fun _ _ _ _=>K5) (fun _ _ _ _=>(DX (BK (BJ 10) (BK BP BR))))))) (BL (J2 (Oh (BJ 4) (BJ 2))) (BL (Q6 jf rfl (JD (jU (mu:=false) rfl rfl T.vm rfl T.Vc (JH (mu:=false) (own:=["name","own"]) (M:=p9) ⟨rfl,by rfl,by rfl,by rfl,by rfl,rfl,Or.inr ⟨rfl,by show (List.all (List.zip p9 p6) fun p=>decide (p.1=p.2)||List.all (_:List (Str×NameKind)) fun y=>decide (y.1≠p.1))=true;decide +kernel⟩⟩ rfl (JD (BJ 1)) (fun _ _ _ _=>(V6 rfl (G9 (J9 10 (show p5.Nodup from by decide +kernel) rfl (Or.inl rfl)) (G9 (J9 11 (show p5.Nodup from by decide +kernel) rfl (Or.inl rfl)) MK)))) (fun _ _ _ _=>K5) (fun _ _ _ _=>(BJ 11))))) (J9 5 nd rfl (Or.inr rfl)) (BL (g8 6 (own:=["name","own"]) (M:=p9) nd rfl rfl ⟨rfl,by rfl,by rfl,by rfl,by rfl,rfl,Or.inr ⟨rfl,by show (List.all (List.zip p9 p6) fun p=>decide (p.1=p.2)||List.all (_:List (Str×NameKind)) fun y=>decide (y.1≠p.1))=true;decide +kernel⟩⟩ rfl (JD (BJ 1)) (fun _ _ _ _=>(V6 rfl (G9 (J9 10 (show p5.Nodup from by decide +kernel) rfl (Or.inl rfl)) (G9 (J9 11 (show p5.Nodup from by decide +kernel) rfl (Or.inl rfl)) MK)))) (fun _ _ _ _=>(SN (DP (JK bw) (BJ 11) (BJ 5)))) (fun _ _ _ _=>(BJ 10))) (BL (GK 7 nd (kc "names_reached" D hr (BK (BJ 6) (BK (BJ 3) (BK (BJ 2) BR))))) (BL (GK 8 nd (kc "trail_down" D hr (BK (BJ 5) (BK (BJ 7) (BK (BJ 3) (BK (BJ 2) BR)))))) (BL (GF (DP bJ (BJ 8) wj) (BL (CV (BJ 8)) BX) BX) (BL (Q6 jf rfl (qL (BJ 7)) (kL 9 nd) (BL (gA hu (BJ 4) (BJ 9) (qM rfl rfl T.Er (BJ 5) (gJ hu (BJ 4) (BJ 9)))) BX)) BX)))))) (BL (CV (DX (BK DR (BK (JW rfl T.mN (oH (mu:=false) rfl rfl T.vm (BJ 4))) BR)))) BX))))))
theorem U3:dA P w K mg base W n Γ "targets_by_name" (top 15) Cn PL:=fun hr=>by
 have nd:Cn.Nodup:=by decide +kernel
 have hu:=PB hr;exact(xX (VD (zG nd rfl (Or.inl rfl) kJ) (VD (zJ jf rfl (OF (O2 rfl (Or.inl rfl))) (zN rfl (aG (iG nd rfl (Or.inl rfl)) (aG (iG nd rfl (Or.inl rfl)) qY))) (VD (FG (zE (dU hu (O2 rfl (Or.inl rfl)) (O2 rfl (Or.inl rfl)))) (iD (qW hu (O2 rfl (Or.inl rfl)) (O2 rfl (Or.inl rfl)) (zP JM) rfl)) qT) (iD (qU (dR PySem.F.plainAttrs_list PySem.F.slot_list_append PySem.F.type_list_append X3 (qZ hu (O2 rfl (Or.inl rfl)) (O2 rfl (Or.inl rfl)) (fun _ _=>rfl)) (J5 (O2 rfl (Or.inl rfl)) JM rfl)))))) (iD (zH (OK (O2 rfl (Or.inl rfl))))))) rfl)
theorem WX:dA P w K mg base W n Γ "names_reached" (top 16) B8 MJ:=fun hr=>by
 have nd:B8.Nodup:=by decide +kernel
 have hu:=PB hr;have bw:=hr.units;exact(BL (GK 3 nd (jV (mu:=true) rfl rfl T.tP (JH (mu:=false) (own:=["name"]) (M:=ph) ⟨rfl,by rfl,by rfl,by rfl,by rfl,rfl,Or.inr ⟨rfl,by show (List.all (List.zip ph pf) fun p=>decide (p.1=p.2)||List.all (_:List (Str×NameKind)) fun y=>decide (y.1≠p.1))=true;decide +kernel⟩⟩ rfl (JD (BJ 0)) (fun _ _ _ _=>(J9 8 (show (["starts","onward","told","came_from","waiting","5","kind","other","name"]:List Str).Nodup from by decide +kernel) rfl (Or.inl rfl))) (fun _ _ _ _=>K5) (fun _ _ _ _=>(DX (BK (BJ 8) (BK wj BR))))))) (BL (GK 4 nd (gH (mu:=true) rfl T.vk (BJ 0))) (BL (V4 jf (Q5 (BJ 4)) (BL (GK 5 nd (LJ (BJ 4))) (BL (Q6 jf rfl (JD (RQ hu (BJ 1) (BJ 5) (KN (mu:=false) BR))) (V6 rfl (G9 (kL 6 nd) (G9 (kL 7 nd) MK))) (BL (GF (L2.PW.pt (WK (DP (JK bw) (BJ 6) DR) (WK (qH hu (BJ 7) (BJ 2)) (YT (qH hu (BJ 7) (BJ 3)))))) (BL (gA hu (BJ 3) (BJ 7) (BJ 5)) (BL (J2 (WQ (BJ 4) (BJ 7))) BX)) BX) BX)) BX))) (BL (CV (BJ 3)) BX))))
theorem cX:dA P w K mg base W n Γ "trail_down" (top 17) Co QW:=fun hr=>by
 have nd:Co.Nodup:=by decide +kernel
 have hu:=PB hr;exact(BL (Q6 jf rfl (qL (BJ 1)) (kL 4 nd) (BL (Q6 jf rfl (JD (RQ hu (BJ 2) (BJ 4) (KN (mu:=false) BR))) (kL 5 nd) (BL (GF (Q5 (kc "is_below" D hr (BK (BJ 5) (BK (BJ 0) (BK (BJ 3) BR))))) (BL (CV (DX (BK DR (BK (kc "way_to" D hr (BK (BJ 4) (BK (BJ 1) BR))) (BK (BJ 5) BR))))) BX) BX) BX)) BX)) (BL (CV wj) BX))
theorem lE:dA P w K mg base W n Γ "is_below" (top 18) cM cB:=fun hr=>by
 have hu:=PB hr;have bw:=hr.units;exact(BL (GF (DP (JK bw) (CZ (BJ 0) BP) DR) (BL (CV (wo qm (CZ (BJ 0) BP) (BJ 1))) BX) BX) (BL (CV (wo qm (RQ hu (BJ 2) (CZ (BJ 0) BP) (BJ 1)) (BJ 1))) BX))
theorem uW:dA P w K mg base W n Γ "way_to" (top 19) Cp bV:=fun hr=>by
 have nd:Cp.Nodup:=by decide +kernel
 have hu:=PB hr;exact(BL (GK 2 nd (KN (mu:=true) BR)) (BL (GK 3 nd (BJ 0)) (BL (V4 jf (DP bJ (BJ 3) wj) (BL (J2 (WQ (BJ 2) (BJ 3))) (BL (GK 3 nd (gJ hu (BJ 1) (BJ 3))) BX))) (BL (CV (uL rfl rfl T.mN rfl T.AL (BJ 2))) BX))))
theorem OQ:dA P w K mg base W n Γ "run" (top 21) Ck F7:=fun hr=>by
 have nd:Ck.Nodup:=by decide +kernel
 exact(BL (GK 3 nd (V7 (mu:=true) rfl rfl T.tP (BJ 1))) (BL (RN 4 nd rfl (Or.inr rfl) (KN (mu:=true) BR)) (BL (GK 5 nd (kc "do_deeds" D hr (BK (BJ 0) (BK (BJ 3) (BK (BJ 4) (BK (BJ 2) BR)))))) (BL (GK 6 nd (JW rfl T.mN (JH (mu:=false) (own:=["level"]) ⟨rfl,by rfl,by rfl,by rfl,by rfl,rfl,Or.inl rfl⟩ rfl (wb rfl T.ye (gK T.xa rfl)) (fun _ _ _ _=>(J9 7 (show (["program","store","most","standing","shown","turns","pages","level"]:List Str).Nodup from by decide +kernel) rfl (Or.inl rfl))) (fun _ _ _ _=>K5) (fun _ _ _ _=>(kc "page_of" D hr (BK (BJ 4) (BK (BJ 7) BR))))))) (BL (CV (DX (BK (BJ 5) (BK (kc "store_of" D hr (BK (BJ 3) BR)) (BK (BJ 6) BR))))) BX)))))
theorem iI:dA P w K mg base W n Γ "number_of" (top 22) B9 YC:=fun hr=>by
 have nd:B9.Nodup:=by decide +kernel
 have hu:=PB hr;have bw:=hr.units;exact(BL (GK 2 nd (CZ (BJ 0) BP)) (BL (GF (DP (JK bw) (BJ 2) DR) (BL (CV (CZ (BJ 0) BP)) BX) BX) (BL (GF (DP (JK bw) (BJ 2) DR) (BL (CV (RQ hu (BJ 1) (CZ (BJ 0) BP) BP)) BX) BX) (BL (GK 3 nd (kc "number_of" D hr (BK (CZ (BJ 0) BP) (BK (BJ 1) BR)))) (BL (GK 4 nd (kc "number_of" D hr (BK (CZ (BJ 0) BP) (BK (BJ 1) BR)))) (BL (GF (DP (JK bw) (BJ 2) DR) (BL (CV (NZ (G8 (BJ 3) (BJ 4)) (gK T.uk rfl))) BX) BX) (BL (GF (DP (JK bw) (BJ 2) DR) (BL (CV (NZ (K6 (BJ 3) (BJ 4)) (gK T.uk rfl))) BX) BX) (BL (CV (yO (DP qm (BJ 3) (BJ 4)) BP BP)) BX))))))))
theorem lF:dA P w K mg base W n Γ "do_deeds" (top 23) B2 UG:=fun hr=>by
 have nd:B2.Nodup:=by decide +kernel
 have hu:=PB hr;have bw:=hr.units;exact(BL (GK 4 nd BP) (BL (GK 5 nd (gG (mu:=true) rfl rfl T.vk rfl T.AL (BJ 0))) (BL (V4 jf (Q5 (BJ 5)) (BL (GK 6 nd (yM (BJ 5))) (BL (GK 7 nd (CZ (BJ 6) BP)) (BL (GF (DP (JK bw) (BJ 7) DR) (BL (gA hu (BJ 1) (CZ (BJ 6) BP) (kc "number_of" D hr (BK (CZ (BJ 6) BP) (BK (BJ 1) BR)))) BX) (BL (GF (DP (JK bw) (BJ 7) DR) (BL (J2 (WQ (BJ 2) (DX (BK (CZ (BJ 6) BP) (BK (kc "number_of" D hr (BK (CZ (BJ 6) BP) (BK (BJ 1) BR))) BR))))) BX) (BL (GF (DP (JK bw) (BJ 7) DR) (BL (GK 8 nd (yO (DP (bI bw) (kc "number_of" D hr (BK (CZ (BJ 6) BP) (BK (BJ 1) BR))) BP) (CZ (BJ 6) BP) (CZ (BJ 6) BP))) (BL (J2 (oM (BJ 5) (gG (mu:=false) rfl rfl T.vk rfl T.AL (BJ 8)))) BX)) (BL (GF (DP (bI bw) (kc "number_of" D hr (BK (CZ (BJ 6) BP) (BK (BJ 1) BR))) BP) (BL (GF (DP F6 (BJ 4) (BJ 3)) (BL (CV wj) BX) BX) (BL (GK 4 nd (G8 (BJ 4) BP)) (BL (J2 (WQ (BJ 5) (BJ 6))) (BL (J2 (oM (BJ 5) (gG (mu:=false) rfl rfl T.vk rfl T.AL (CZ (BJ 6) BP)))) BX)))) BX) BX)) BX)) BX)) BX)))) (BL (CV (BJ 4)) BX))))
theorem oZ:dA P w K mg base W n Γ "page_of" (top 24) fO fL:=fun hr=>by
 have bw:=hr.units;exact(BL (CV (JW rfl T.mN (JH (mu:=false) (own:=["page","number"]) ⟨rfl,by rfl,by rfl,by rfl,by rfl,rfl,Or.inl rfl⟩ rfl (JD (BJ 0)) (fun _ _ _ _=>(V6 rfl (G9 (J9 2 (show (["shown","level","page","number"]:List Str).Nodup from by decide +kernel) rfl (Or.inl rfl)) (G9 (J9 3 (show (["shown","level","page","number"]:List Str).Nodup from by decide +kernel) rfl (Or.inl rfl)) MK)))) (fun _ _ _ _=>(SN (DP (JK bw) (BJ 2) (BJ 1)))) (fun _ _ _ _=>(BJ 3))))) BX)
theorem kY:dA P w K mg base W n Γ "store_of" (top 25) cJ bW:=fun hr=>by
 have hu:=PB hr;have bw:=hr.units;exact(BL (CV (JW rfl T.mN (JH (mu:=false) (own:=["name"]) ⟨rfl,by rfl,by rfl,by rfl,by rfl,rfl,Or.inl rfl⟩ rfl (JD (G1 (mu:=false) rfl rfl T.vm (BJ 0))) (fun _ _ _ _=>(J9 1 (show (["standing","name"]:List Str).Nodup from by decide +kernel) rfl (Or.inl rfl))) (fun _ _ _ _=>(SN (DP (bI bw) (gJ hu (BJ 0) (BJ 1)) BP))) (fun _ _ _ _=>(DX (BK (BJ 1) (BK (gJ hu (BJ 0) (BJ 1)) BR))))))) BX)
theorem zZ:dA P w K mg base W n Γ "_law_cell" (top 27) tY tR:=fun hr=>by
 exact(BL (GF (DP qm (BJ 1) (oK rfl T.Ep (BJ 0))) (BL (CV (CZ (BJ 0) (BJ 1))) BX) BX) (BL (CV BP) BX))
theorem Ms:dA P w K mg base W n Γ "_law_mix" (top 28) Fs Fp:=fun hr=>by
 exact(BL (CV (NZ (NZ (K6 (BJ 0) BP) (BJ 1)) (BJ 2))) BX)
theorem zX:dA P w K mg base W n Γ "_law_name" (top 29) Ce tQ:=fun hr=>by
 have nd:Ce.Nodup:=by decide +kernel
 exact(BL (RN 2 nd rfl (Or.inr rfl) DR) (BL (RN 3 nd rfl (Or.inr rfl) (kc "_law_cell" D hr (BK (BJ 0) (BK BP BR)))) (BL (GK 4 nd (CZ (BJ 2) (NZ (G8 (kc "_law_mix" D hr (BK (BJ 3) (BK BP (BK BP BR)))) (K6 BP (BJ 1))) BP))) (BL (GK 5 nd (LL DR (JH (mu:=false) (own:=["_law_j"]) ⟨rfl,by rfl,by rfl,by rfl,by rfl,rfl,Or.inl rfl⟩ rfl (wb rfl T.ye (kc "_law_mix" D hr (BK (BJ 3) (BK BP (BK BP BR))))) (fun _ _ _ _=>(J9 7 (show (["_law_script","_law_k","_law_letters","_law_seed","_law_sign","_law_tail","_law_at","_law_j"]:List Str).Nodup from by decide +kernel) rfl (Or.inl rfl))) (fun _ _ _ _=>K5) (fun _ _ _ _=>(CZ (BJ 2) (kc "_law_mix" D hr (BK (G8 (BJ 3) (K6 BP (BJ 7))) (BK BP (BK BP BR))))))))) (BL (GK 6 nd (kc "_law_mix" D hr (BK (BJ 3) (BK BP (BK (G8 (oK rfl T.Ep (BJ 5)) BP) BR))))) (BL (CV (G8 (G8 (XS (BJ 5) dJ (TV (BJ 6))) (BJ 4)) (XS (BJ 5) (TV (BJ 6)) dJ))) BX))))))
theorem uY:dA P w K mg base W n Γ "_law_names" (top 30) nF mW:=fun hr=>by
 exact(BL (CV (JH (mu:=false) (own:=["_law_k"]) ⟨rfl,by rfl,by rfl,by rfl,by rfl,rfl,Or.inl rfl⟩ rfl (wb rfl T.ye BP) (fun _ _ _ _=>(J9 1 (show pj.Nodup from by decide +kernel) rfl (Or.inl rfl))) (fun _ _ _ _=>K5) (fun _ _ _ _=>(kc "_law_name" D hr (BK (BJ 0) (BK (BJ 1) BR)))))) BX)
theorem oY:dA P w K mg base W n Γ "_law_levels" (top 31) fM fK:=fun hr=>by
 exact(BL (CV (KN (mu:=false) (BK BP (BK BP (BK (kc "_law_mix" D hr (BK (kc "_law_cell" D hr (BK (BJ 0) (BK BP BR))) (BK BP (BK BP BR)))) (BK (kc "_law_mix" D hr (BK (kc "_law_cell" D hr (BK (BJ 0) (BK BP BR))) (BK BP (BK BP BR)))) BR)))))) BX)
theorem zW:dA P w K mg base W n Γ "_law_term" (top 33) Cj tO:=fun hr=>by
 have nd:Cj.Nodup:=by decide +kernel
 have bw:=hr.units;exact(BL (GK 3 nd (kc "_law_mix" D hr (BK (BJ 1) (BK BP (BK BP BR))))) (BL (GF (L2.PW.pt (jN (DP (JK bw) (BJ 2) BP) (wa (DP qm (BJ 3) BP)))) (BL (GF (DP (JK bw) (NZ (BJ 3) BP) BP) (BL (CV (DX (BK DR (BK (kc "_law_mix" D hr (BK (BJ 1) (BK BP (BK BP BR)))) BR)))) BX) BX) (BL (CV (DX (BK DR (BK (CZ (BJ 0) (kc "_law_mix" D hr (BK (BJ 1) (BK BP (BK BP BR))))) BR)))) BX)) BX) (BL (GK 4 nd (kc "_law_term" D hr (BK (BJ 0) (BK (G8 (K6 (BJ 1) BP) BP) (BK (we (BJ 2) BP) BR))))) (BL (CV (DX (BK (CZ (KN (mu:=false) (BK DR (BK DR (BK DR BR)))) (NZ (BJ 3) BP)) (BK (BJ 4) (BK (kc "_law_term" D hr (BK (BJ 0) (BK (G8 (K6 (BJ 1) BP) BP) (BK (we (BJ 2) BP) BR)))) BR))))) BX))))
theorem iH:dA P w K mg base W n Γ "_law_names_in" (top 34) YD YB:=fun hr=>by
 have bw:=hr.units;exact(BL (GF (DP (JK bw) (CZ (BJ 0) BP) DR) (BL (CV (KN (mu:=false) (BK (CZ (BJ 0) BP) BR))) BX) BX) (BL (GF (DP (JK bw) (CZ (BJ 0) BP) DR) (BL (CV (KN (mu:=false) BR)) BX) BX) (BL (CV (oN (mu:=false) (kc "_law_names_in" D hr (BK (CZ (BJ 0) BP) BR)) (kc "_law_names_in" D hr (BK (CZ (BJ 0) BP) BR)))) BX)))
theorem zY:dA P w K mg base W n Γ "_law_deed" (top 35) Cd QX:=fun hr=>by
 have nd:Cd.Nodup:=by decide +kernel
 have bw:=hr.units;exact(BL (NX (BJ 0) (V6 rfl (G9 (J9 4 nd rfl (Or.inr rfl)) (G9 (J9 5 nd rfl (Or.inr rfl)) (G9 (J9 6 nd rfl (Or.inr rfl)) MK))))) (BL (GK 7 nd (kc "_law_term" D hr (BK (BJ 4) (BK (BJ 1) (BK (G8 BP (NZ (BJ 1) BP)) BR))))) (BL (RN 8 nd rfl (Or.inr rfl) (Oi rfl rfl T.Er (oN (mu:=false) (JH (mu:=false) (own:=["_law_name_here"]) ⟨rfl,by rfl,by rfl,by rfl,by rfl,rfl,Or.inl rfl⟩ rfl (JD (kc "_law_names_in" D hr (BK (BJ 7) BR))) (fun _ _ _ _=>(J9 14 (show (["_law_plan","_law_cell_here","_law_deep","_law_need","_law_names_here","_law_levels_here","_law_honest","_law_term_here","_law_high","_law_turn","_law_one","_law_more","_law_block_here","_law_some","_law_name_here"]:List Str).Nodup from by decide +kernel) rfl (Or.inl rfl))) (fun _ _ _ _=>K5) (fun _ _ _ _=>(CZ (BJ 5) (yN (BJ 4) (BJ 14))))) (KN (mu:=false) (BK (BJ 3) BR))))) (BL (GK 9 nd (kc "_law_mix" D hr (BK (BJ 1) (BK BP (BK BP BR))))) (BL (GF (L2.PW.pt (WK (DP sV (BJ 2) BP) (YT (DP qm (BJ 9) BP)))) (BL (GK 10 nd (kc "_law_block" D hr (BK (BJ 0) (BK (G8 (K6 (BJ 1) BP) BP) (BK (we (BJ 2) BP) (BK (BJ 8) BR)))))) (BL (CV (DX (BK DR (BK (BJ 7) (BK (BJ 10) (BK (kc "_law_block" D hr (BK (BJ 0) (BK (G8 (K6 (BJ 1) BP) BP) (BK (we (BJ 2) BP) (BK (BJ 8) BR))))) BR)))))) BX)) BX) (BL (GF (L2.PW.pt (WK (DP sV (BJ 2) BP) (WK (DP qm (BJ 9) BP) (YT (L2.PW.pt (jN (DP (JK bw) (BJ 3) BP) (wa (o7 (Q5 (BJ 6)))))))))) (BL (GK 11 nd (DX (BK DR (BK (CZ (BJ 4) BP) (BK (DX (BK DR (BK (DX (BK DR (BK (CZ (BJ 4) BP) BR))) (BK (DX (BK DR (BK BP BR))) BR)))) BR))))) (BL (GK 12 nd (kc "_law_block" D hr (BK (BJ 0) (BK (G8 (K6 (BJ 1) BP) BP) (BK (we (BJ 2) BP) (BK (BJ 3) BR)))))) (BL (GF (Q5 (BJ 6)) (BL (GK 7 nd (DX (BK DR (BK (DX (BK DR (BK (CZ (BJ 4) BP) BR))) (BK (DX (BK DR (BK (kc "_law_mix" D hr (BK (BJ 1) (BK BP (BK BP BR)))) BR))) BR))))) BX) BX) (BL (CV (DX (BK DR (BK (BJ 7) (BK (G8 (BJ 12) (DX (BK (BJ 11) BR))) BR))))) BX)))) BX) (BL (g8 13 (own:=["_law_k"]) nd rfl rfl ⟨rfl,by rfl,by rfl,by rfl,by rfl,rfl,Or.inl rfl⟩ rfl (wb rfl T.ye BP) (fun _ _ _ _=>(J9 14 (show (["_law_plan","_law_cell_here","_law_deep","_law_need","_law_names_here","_law_levels_here","_law_honest","_law_term_here","_law_high","_law_turn","_law_one","_law_more","_law_block_here","_law_some","_law_k"]:List Str).Nodup from by decide +kernel) rfl (Or.inl rfl))) (fun _ _ _ _=>(SN (L2.PW.pt (jN (DP F6 (CZ (BJ 5) (BJ 14)) (BJ 8)) (wa (o7 (Q5 (BJ 6)))))))) (fun _ _ _ _=>(BJ 14))) (BL (GF (L2.PW.pt (WK (DP qm (BJ 9) BP) (YT (Q5 (BJ 13))))) (BL (CV (DX (BK DR (BK (CZ (BJ 4) (CZ (BJ 13) (kc "_law_mix" D hr (BK (BJ 1) (BK BP (BK (oK rfl T.Ep (BJ 13)) BR)))))) (BK (BJ 7) BR))))) BX) BX) (BL (CV (DX (BK DR (BK (qM rfl rfl T.Er (kc "_law_mix" D hr (BK (BJ 1) (BK BP (BK BP BR)))) (K6 (BJ 8) (LM rfl T.Vb (BJ 6)))) (BK (BJ 7) BR))))) BX)))))))))
theorem uZ:dA P w K mg base W n Γ "_law_block" (top 36) Cc mX:=fun hr=>by
 have nd:Cc.Nodup:=by decide +kernel
 exact(BL (GK 4 nd (G8 BP (kc "_law_mix" D hr (BK (BJ 1) (BK BP (BK BP BR)))))) (BL (CV (JW rfl T.mN (JH (mu:=false) (own:=["_law_k"]) ⟨rfl,by rfl,by rfl,by rfl,by rfl,rfl,Or.inl rfl⟩ rfl (wb rfl T.ye (BJ 4)) (fun _ _ _ _=>(J9 5 (show (["_law_plan","_law_cell_here","_law_deep","_law_need","_law_many","_law_k"]:List Str).Nodup from by decide +kernel) rfl (Or.inl rfl))) (fun _ _ _ _=>K5) (fun _ _ _ _=>(kc "_law_deed" D hr (BK (BJ 0) (BK (G8 (K6 (BJ 1) BP) (K6 BP (BJ 5))) (BK (BJ 2) (BK (BJ 3) BR))))))))) BX))
theorem kZ:dA P w K mg base W n Γ "_law_program" (top 37) Cg bZ:=fun hr=>by
 have nd:Cg.Nodup:=by decide +kernel
 exact(BL (GK 2 nd (wo sV (kc "_law_mix" D hr (BK (kc "_law_cell" D hr (BK (BJ 0) (BK BP BR))) (BK BP (BK BP BR)))) BP)) (BL (RN 3 nd rfl (Or.inr rfl) (DX (BK (kc "_law_names" D hr (BK (BJ 0) BR)) (BK (kc "_law_levels" D hr (BK (BJ 0) BR)) (BK (BJ 2) BR))))) (BL (GK 4 nd (XS (BJ 0) (TV (BJ 1)) (TV (G8 (G8 (BJ 1) BP) (NZ (kc "_law_cell" D hr (BK (BJ 0) (BK BP BR))) BP))))) (BL (CV (JW rfl T.mN (JH (mu:=false) (own:=["_law_cell_here"]) ⟨rfl,by rfl,by rfl,by rfl,by rfl,rfl,Or.inl rfl⟩ rfl (JD (BJ 4)) (fun _ _ _ _=>(J9 5 (show (["_law_script","_law_k","_law_honest","_law_plan","_law_cells","_law_cell_here"]:List Str).Nodup from by decide +kernel) rfl (Or.inl rfl))) (fun _ _ _ _=>K5) (fun _ _ _ _=>(kc "_law_deed" D hr (BK (BJ 3) (BK (BJ 5) (BK BP (BK BP BR))))))))) BX))))
theorem uX:dA P w K mg base W n Γ "_law_store" (top 38) Ci bY:=fun hr=>by
 have nd:Ci.Nodup:=by decide +kernel
 have bw:=hr.units;exact(BL (GK 2 nd (KN (mu:=true) BR)) (BL (Q6 jf rfl (LI rfl T.Jj (kc "_law_names" D hr (BK (BJ 0) BR))) (V6 rfl (G9 (kL 3 nd) (G9 (kL 4 nd) MK))) (BL (GK 5 nd (kc "_law_mix" D hr (BK (G8 (kc "_law_cell" D hr (BK (BJ 0) (BK (BJ 1) BR))) (K6 BP (BJ 3))) (BK BP (BK BP BR))))) (BL (GF (DP (JK bw) (NZ (kc "_law_cell" D hr (BK (BJ 0) (BK (BJ 1) BR))) BP) BP) (BL (GK 5 nd (NZ (BJ 5) BP)) BX) BX) (BL (J2 (WQ (BJ 2) (DX (BK (BJ 4) (BK (BJ 5) BR))))) BX)))) (BL (CV (JW rfl T.mN (uM (mu:=false) rfl T.vm (BJ 2)))) BX)))
theorem YJ:dA P w K mg base W n Γ "_law_other_store" (top 39) Cf O8:=fun hr=>by
 have nd:Cf.Nodup:=by decide +kernel
 have hu:=PB hr;exact(BL (GK 4 nd (KN (mu:=true) BR)) (BL (Q6 jf rfl (yG rfl T.Jj (BJ 0)) (V6 rfl (G9 (kL 5 nd) (G9 (V6 rfl (G9 (kL 6 nd) (G9 (kL 7 nd) MK))) MK))) (BL (GF (DP sV (RQ hu (V7 (mu:=false) rfl rfl T.tP (BJ 1)) (BJ 6) BP) (BJ 2)) (BL (GK 7 nd (kc "_law_mix" D hr (BK (G8 (BJ 3) (K6 BP (BJ 5))) (BK BP (BK BP BR))))) BX) BX) (BL (J2 (WQ (BJ 4) (DX (BK (BJ 6) (BK (BJ 7) BR))))) BX))) (BL (CV (JW rfl T.mN (BJ 4))) BX)))
theorem v7:dA P w K mg base W n Γ "_law_alike" (top 40) Cb mZ:=fun hr=>by
 have nd:Cb.Nodup:=by decide +kernel
 have hu:=PB hr;have bw:=hr.units;exact(BL (GF (L2.PW.pt (jN (DP (bI bw) (CZ (BJ 0) BP) (CZ (BJ 1) BP)) (wa (DP (bI bw) (XS (CZ (BJ 0) BP) dJ (TV (G8 (BJ 3) BP))) (XS (CZ (BJ 1) BP) dJ (TV (G8 (BJ 3) BP))))))) (BL (CV se) BX) BX) (BL (RN 4 nd rfl (Or.inr rfl) (V7 (mu:=false) rfl rfl T.tP (BJ 2))) (BL (g8 5 (own:=["_law_found"]) nd rfl rfl ⟨rfl,by rfl,by rfl,by rfl,by rfl,rfl,Or.inl rfl⟩ rfl (JD (KN (mu:=false) (BK (BJ 0) (BK (BJ 1) BR)))) (fun _ _ _ _=>(J9 6 (show (["_law_one","_law_other","_law_house_here","_law_level","_law_levels_here","_law_left","_law_found"]:List Str).Nodup from by decide +kernel) rfl (Or.inl rfl))) (fun _ _ _ _=>K5) (fun _ _ _ _=>(JH (mu:=false) (own:=["_law_pair"]) ⟨rfl,by rfl,by rfl,by rfl,by rfl,rfl,Or.inl rfl⟩ rfl (JD (CZ (BJ 6) BP)) (fun _ _ _ _=>(J9 7 (show (["_law_one","_law_other","_law_house_here","_law_level","_law_levels_here","_law_left","_law_found","_law_pair"]:List Str).Nodup from by decide +kernel) rfl (Or.inl rfl))) (fun _ _ _ _=>(SN (DP F5 (RQ hu (BJ 4) (CZ (BJ 7) BP) BP) (BJ 3)))) (fun _ _ _ _=>(BJ 7))))) (BL (CV (wo (JK bw) (CZ (BJ 5) BP) (CZ (BJ 5) BP))) BX))))
theorem ER:dA P w K mg base W n Γ "law" (top 41) B5 Bq:=fun hr=>by
 have nd:B5.Nodup:=by decide +kernel
 have bw:=hr.units;exact(BL (GK 1 nd (kc "_law_program" D hr (BK (BJ 0) (BK BP BR)))) (BL (GK 2 nd (kc "_law_names" D hr (BK (BJ 0) BR))) (BL (GK 3 nd (kc "settled" D hr (BK (BJ 1) (BK (DX BR) BR)))) (BL (GF (L2.PW.pt (jN (DP (bI bw) (CZ (BJ 3) BP) DR) (wa (Q5 (JH (mu:=false) (own:=["_law_pair"]) ⟨rfl,by rfl,by rfl,by rfl,by rfl,rfl,Or.inl rfl⟩ rfl (JD (CZ (BJ 3) BP)) (fun _ _ _ _=>(J9 9 (show (["_law_script","_law_program_here","_law_names_here","_law_free","_law_cell_here","_law_found","_law_store_here","_law_level","_law_other","_law_pair"]:List Str).Nodup from by decide +kernel) rfl (Or.inl rfl))) (fun _ _ _ _=>(SN (DP (bI bw) (CZ (BJ 9) BP) BP))) (fun _ _ _ _=>(BJ 9))))))) (BL (CV se) BX) BX) (BL (Q6 jf rfl (JD (oN (mu:=false) (KN (mu:=false) (BK (kc "_law_cell" D hr (BK (BJ 0) (BK BP BR))) BR)) (gH (mu:=false) rfl T.vk (XS (BJ 0) (TV BP) (TV BP))))) (kL 4 nd) (BL (GK 5 nd (kc "settled" D hr (BK (BJ 1) (BK (DX (BK (DX (BK (CZ (BJ 2) (kc "_law_mix" D hr (BK (BJ 4) (BK BP (BK BP BR))))) (BK (G8 BP (kc "_law_mix" D hr (BK (BJ 4) (BK BP (BK BP BR))))) BR))) BR)) BR)))) (BL (GF (DP (JK bw) (CZ (BJ 5) BP) DR) (BL (GF (DP bJ (kc "lets" D hr (BK (BJ 1) (BK (CZ (BJ 5) BP) BR))) se) (BL (CV se) BX) BX) (BL (GK 6 nd (kc "_law_store" D hr (BK (BJ 0) (BK BP BR)))) (BL (GK 7 nd (kc "_law_mix" D hr (BK (BJ 4) (BK BP (BK BP BR))))) (BL (GK 8 nd (kc "_law_other_store" D hr (BK (BJ 6) (BK (CZ (BJ 5) BP) (BK (BJ 7) (BK (BJ 4) BR)))))) (BL (GF (o7 (Q5 (kc "_law_alike" D hr (BK (kc "run" D hr (BK (BJ 1) (BK (BJ 6) (BK BP BR)))) (BK (kc "run" D hr (BK (BJ 1) (BK (BJ 8) (BK BP BR)))) (BK (CZ (BJ 5) BP) (BK (BJ 7) BR))))))) (BL (CV se) BX) BX) BX))))) BX) BX))) (BL (CV se) BX))))))
theorem Vy:W9 (fun e=>dA P w K mg base W n Γ e.f e.st e.N e.F.body) qz:=⟨lC T D,WY T D,lA T D,Ks T D,Mt T D,YK T D,iJ T D,lD T D,oX T D,U3 T D,WX T D,cX T D,lE T D,uW T D,OQ T D,iI T D,lF T D,oZ T D,kY T D,zZ T D,Ms T D,zX T D,uY T D,oY T D,zW T D,iH T D,zY T D,uZ T D,kZ T D,uX T D,YJ T D,v7 T D,ER T D,trivial⟩
end
end T
end
section
variable{C:String→List WL.D→WL.Mem→Option (WL.D×WL.Mem)}{W:Nat}{X:Option (WL.Out×WL.Mem)}{c:Bool}{e2:WL.Ex}{g:WL.Tg}{xs:List WL.D}{Γ:String→Option WL.Fn}
section
set_option genInjectivity false
namespace WW
inductive Op where
 | sum | times | less
 deriving DecidableEq
noncomputable def Op.ap:Op→Int→Int→Int
 | .sum,a,b=>(a+b) % 997
 | .times,a,b=>(a*b) % 997
 | .less,a,b=>if a<b then 1 else 0
section
variable{N:Type}
inductive Tm (N:Type) where
 | num (n:Int)
 | fi (x:N)
 | bin (o:Op) (a b:Tm N)
noncomputable def Tm.val(f:N→Int):Tm N→Int
 | .num n=>n
 | .fi x=>f x
 | .bin o a b=>o.ap (a.val f) (b.val f)
noncomputable def Tm.dep:Tm N→Nat
 | .num _=>0
 | .fi _=>0
 | .bin _ a b=>max a.dep b.dep+1
noncomputable def Tm.names:Tm N→List N
 | .num _=>[]
 | .fi x=>[x]
 | .bin _ a b=>a.names++b.names
def Tm.Ok(P:N→Prop):Tm N→Prop
 | .num n=>0≤n∧n<997
 | .fi x=>P x
 | .bin _ a b=>a.Ok P∧b.Ok P
theorem Op.Rj(o:Op)(a b:Int):0≤o.ap a b∧o.ap a b<997:=by
 cases o with
 | sum=>simp only[Op.ap];lia
 | times=>
  simp only[Op.ap];exact⟨Int.emod_nonneg _ (by decide),Int.emod_lt_of_pos _ (by decide)⟩
 | less=>simp only[Op.ap];split<;>lia
theorem Tm.EL{f:N→Int}{P:N→Prop}(hf:∀x,0≤f x∧f x<997):∀{t:Tm N},t.Ok P→0≤t.val f∧t.val f<997
 | .num _,h=>h
 | .fi x,_=>hf x
 | .bin o _ _,_=>o.Rj _ _
theorem Tm.Ok.names{P:N→Prop}:∀{t:Tm N},t.Ok P→∀x∈t.names,P x
 | .num _,_,x,hx=>by simp[Tm.names]at hx
 | .fi y,h,x,hx=>by
  have:x=y:=by simpa[Tm.names] using hx
  rw[this];exact h
 | .bin _ a b,h,x,hx=>by
  rcases de hx with hx | hx
  ·exact h.1.names x hx
  ·exact h.2.names x hx
mutual
inductive Dd (N:Type) where
 | put (x:N) (t:Tm N)
 | cK (l:Int) (t:Tm N)
 | ite (t:Tm N) (b c:Bl N)
 | bh (t:Tm N) (b:Bl N)
inductive Bl (N:Type) where
 | nil
 | cons (d:Dd N) (b:Bl N)
end
noncomputable def Bl.list:Bl N→List (Dd N)
 | .nil=>[]
 | .cons d b=>d::b.list
noncomputable def Bl.of:List (Dd N)→Bl N
 | []=>.nil
 | d::r=>.cons d (Bl.of r)
theorem Bl.El:∀l:List (Dd N),(Bl.of l).list=l
 | []=>rfl
 | d::r=>by show d::(Bl.of r).list=_;rw[Bl.El r]
noncomputable def Bl.app:Bl N→Bl N→Bl N
 | .nil,c=>c
 | .cons d b,c=>.cons d (b.app c)
theorem Bl.Jd:∀b c:Bl N,(b.app c).list=b.list++c.list
 | .nil,_=>rfl
 | .cons d b,c=>by show d::(b.app c).list=_;rw[Bl.Jd b c];rfl
mutual
noncomputable def Dd.size:Dd N→Nat
 | .put _ _=>1
 | .cK _ _=>1
 | .ite _ b c=>b.size+c.size+1
 | .bh _ b=>b.size+1
noncomputable def Bl.size:Bl N→Nat
 | .nil=>0
 | .cons d b=>d.size+b.size
end
mutual
noncomputable def Dd.dep:Dd N→Nat
 | .put _ t=>t.dep
 | .cK _ t=>t.dep
 | .ite t b c=>max t.dep (max b.dep c.dep)+1
 | .bh t b=>max t.dep b.dep+1
noncomputable def Bl.dep:Bl N→Nat
 | .nil=>0
 | .cons d b=>max d.dep b.dep
end
mutual
def Dd.Ok(P:N→Prop):Dd N→Prop
 | .put x t=>P x∧t.Ok P
 | .cK l t=>(0≤l∧l<3)∧t.Ok P
 | .ite t b c=>t.Ok P∧b.Ok P∧c.Ok P
 | .bh t b=>t.Ok P∧b.Ok P
def Bl.Ok(P:N→Prop):Bl N→Prop
 | .nil=>True
 | .cons d b=>d.Ok P∧b.Ok P
end
theorem Dd.size_pos:∀d:Dd N,0<d.size
 | .put _ _=>Nat.one_pos
 | .cK _ _=>Nat.one_pos
 | .ite _ _ _=>Nat.succ_pos _
 | .bh _ _=>Nat.succ_pos _
noncomputable def gx:List (Dd N)→Nat
 | []=>0
 | d::r=>d.size+gx r
theorem HY:∀b:Bl N,gx b.list=b.size
 | .nil=>rfl
 | .cons d b=>by show d.size+gx b.list=d.size+b.size;rw[HY b]
theorem WM:∀a b:List (Dd N),gx (a++b)=gx a+gx b
 | [],b=>by simp[gx]
 | d::a,b=>by show d.size+gx (a++b)=d.size+gx a+gx b;rw[WM a b];lia
theorem jQ:∀{l:List (Dd N)} {d:Dd N},d∈l→d.size≤gx l
 | [],_,h=>nomatch h
 | e::r,d,h=>by
  rcases cg h with h | h
  ·subst h;exact Nat.le_add_right _ _
  ·exact eR (jQ h) (Nat.le_add_left _ _)
theorem Bl.Ok.mem{P:N→Prop}:∀{b:Bl N},b.Ok P→∀d∈b.list,d.Ok P
 | .nil,_,d,h=>nomatch h
 | .cons e b,h,d,hd=>by
  rcases cg hd with hd | hd
  ·subst hd;exact h.1
  ·exact Bl.Ok.mem h.2 d hd
theorem Bl.CA:∀{b:Bl N} {d:Dd N},d∈b.list→d.dep≤b.dep
 | .nil,_,h=>nomatch h
 | .cons e b,d,h=>by
  rcases cg h with h | h
  ·subst h;exact Nat.le_max_left _ _
  ·exact eR (Bl.CA h) (Nat.le_max_right _ _)
variable[DecidableEq N]
noncomputable def JV(f:N→Int)(x:N)(v:Int):N→Int:=fun y=>if y=x then v else f y
structure S(N:Type) where
 st:List (Dd N)
 f:N→Int
 sh:List (Int×Int)
 t:Int
structure R(N:Type) where
 t:Option Int
 f:N→Int
 sh:List (Int×Int)
noncomputable def step(most:Int)(s:S N):S N ⊕ R N:=match s.st with
 | []=>.inr ⟨some s.t,s.f,s.sh⟩
 | .put x e::r=>.inl ⟨r,JV s.f x (e.val s.f),s.sh,s.t⟩
 | .cK l e::r=>.inl ⟨r,s.f,s.sh++[(l,e.val s.f)],s.t⟩
 | .ite e b c::r=>.inl ⟨(if e.val s.f≠0 then b.list else c.list)++r,s.f,s.sh,s.t⟩
 | .bh e b::r=>if e.val s.f≠0 then (if s.t≥most then .inr ⟨none,s.f,s.sh⟩ else .inl ⟨b.list++.bh e b::r,s.f,s.sh,s.t+1⟩) else .inl ⟨r,s.f,s.sh,s.t⟩
inductive Runs (most:Int):S N→R N→Prop where
 | done {s:S N} {r:R N}:step most s=.inr r→Runs most s r
 | next {s s':S N} {r:R N}:step most s=.inl s'→Runs most s' r→Runs most s r
noncomputable def gT(sh:List (Int×Int))(l:Int):List Int:=(sh.filter fun p=>p.1=l).map (·.2)
end
end WW
end
namespace WL
open PySem L2
@[simp] theorem ofString_eq{a b:String}:(Str.ofString a=Str.ofString b)=(a=b):=by
 apply propext;refine⟨fun h=>?_,fun h=>by rw[h]⟩;rw[Str.ofString_eq_toList,Str.ofString_eq_toList]at h;have h1:a.toList.map Char.toNat=b.toList.map Char.toNat:=by simpa using congrArg (fun s:Str=>s.cps.toList) h
 have h2:a.toList=b.toList:=List.map_inj_right (fun x y h=>Char.toNat_inj.mp h) |>.mp h1;exact String.toList_inj.mp h2
section
variable{m:Mem}
@[simp] theorem Xp(a b:Str):jh (.str a) (.str b)=some (decide (a=b)):=rfl
@[simp] theorem rP(a b:Int):jh (.int a) (.int b)=some (decide (a=b)):=rfl
@[simp] theorem XA(a b:D):LQ .eq a b=jh a b:=rfl
@[simp] theorem Fi(a b:D):LQ .ne a b=(jh a b).map (!·):=rfl
@[simp] theorem Xw(a b:Int):LQ .lt (.int a) (.int b)=some (decide (a<b)):=rfl
@[simp] theorem Xx(a b:Int):LQ .le (.int a) (.int b)=some (decide (a≤b)):=rfl
@[simp] theorem cmp_gt(a b:Int):LQ .gt (.int a) (.int b)=some (decide (b<a)):=rfl
@[simp] theorem Xz(a b:Int):LQ .ge (.int a) (.int b)=some (decide (b≤a)):=rfl
@[simp] theorem Xy(a:D):LQ .is a .ao=some a.rn:=rfl
@[simp] theorem Xq(a:D)(b:Bool):LQ .is a (.bl b)=some (a.tI b):=rfl
@[simp] theorem Xb(a:D)(b:Bool):LQ .mI a (.bl b)=some (!a.tI b):=rfl
@[simp] theorem Xo(b c:Bool):D.tI b (.bl c)=(c==b):=rfl
@[simp] theorem Xf(a:D):LQ .mI a .ao=some (!a.rn):=rfl
@[simp] theorem Xd:D.rn .ao=true:=rfl
@[simp] theorem Xe(i:Int):D.rn (.int i)=false:=rfl
@[simp] theorem wU(b:Bool):fY (.bl b) m=some b:=rfl
@[simp] theorem Xm(xs:List D):fY (.lst xs) m=some (!xs.isEmpty):=rfl
@[simp] theorem Xs(a b:Int):XC .add (.int a) (.int b) m=some (.int (a+b),m):=rfl
@[simp] theorem Xr(a b:Int):XC .sub (.int a) (.int b) m=some (.int (a-b),m):=rfl
theorem W0{a b:Int}(h:-(2 ^ 64)<b∧b<2 ^ 64):XC .mul (.int a) (.int b) m=some (.int (a*b),m):=ag (.inr h)
theorem QG{a b:Int}(h:-(2 ^ 64)<a∧a<2 ^ 64):XC .mul (.int a) (.int b) m=some (.int (a*b),m):=ag (.inl h)
theorem PK{a b:Int}(h:0<b):XC .mod (.int a) (.int b) m=some (.int (a % b),m):=ag h
theorem tM{a b:Str}(h:a.length+b.length≤1000):XC .add (.str a) (.str b) m=some (.str (a++b),m):=ag h
theorem NK{a b:List D}(h:a.length+b.length≤10000):XC .add (.tup a) (.tup b) m=some (.tup (a++b),m):=ag h
@[simp] theorem IZ(xs:List D)(i:Int):j1 (.tup xs) (.int i) m=cv xs i:=rfl
@[simp] theorem Xv(xs:List D)(i:Int):j1 (.lst xs) (.int i) m=cv xs i:=rfl
@[simp] theorem Xu(xs:List Int)(i:Int):j1 (.b6 xs) (.int i) m=(cv xs i).map .int:=rfl
theorem S9{α:Type}{xs:List α}{i:Nat}:cv xs (i:Int)=xs[i]?:=by
 unfold cv vf
 by_cases h:i<xs.length
 ·rw[ag (Int.natCast_nonneg i),ag (by lia)]
  simp
 ·rw[ag (Int.natCast_nonneg i),ai (by lia)]
  simp[List.getElem?_eq_none (by lia:xs.length≤i)]
@[simp] theorem XI{α:Type}{a:α}{r:List α}:cv (a::r) 0=some a:=S9 (i:=0)
@[simp] theorem XG{α:Type}{a b:α}{r:List α}:cv (a::b::r) 1=some b:=S9 (i:=1)
@[simp] theorem XE{α:Type}{a b c:α}{r:List α}:cv (a::b::c::r) 2=some c:=S9 (i:=2)
@[simp] theorem XB{α:Type}{a b c d:α}{r:List α}:cv (a::b::c::d::r) 3=some d:=S9 (i:=3)
@[simp] theorem Xk(i:Int):D.clean (.int i)=true:=rfl
@[simp] theorem Xh(i:Str):D.clean (.str i)=true:=rfl
@[simp] theorem Xl(i:Bool):D.clean (.bl i)=true:=rfl
@[simp] theorem Xi:D.clean .ao=true:=rfl
@[simp] theorem Xg(xs:List D):D.clean (.tup xs)=D.clean.cj xs:=rfl
@[simp] theorem Xj(xs:List D):D.clean (.lst xs)=D.clean.cj xs:=rfl
@[simp] theorem Xc:D.clean.cj []=true:=rfl
@[simp] theorem Xa(a:D)(r:List D):D.clean.cj (a::r)=(a.clean&&D.clean.cj r):=rfl
theorem dY{n:Nat}{d:D}(h:d.clean=true):outD n m d=some d:=by
 cases d with
 | ak i=>cases h
 | _=>simp only[outD,h,if_true]
theorem NP{f:String}{F:Fn}{n:Nat}(h:Γ f=some F)(hl:xs.length=F.ps):BW W Γ (n+1) f xs m=(aE (BW W Γ n) W F.body (xs.map some++List.replicate (F.ns-F.ps) none) m).bind fun z=>match z.1 with
    | .rt d=>(outD m.length z.2 d).map fun d=>(d,z.2.take m.length)
    | .nx _=>some (.ao,z.2.take m.length):=by
 show (Γ f).bind _=_;rw[h,bq,ag hl]<;>
 rfl
theorem DN{f:String}{F:Fn}{n:Nat}{d:D}(h:Γ f=some F)(hl:xs.length=F.ps)(hc:d.clean=true)(e:aE (BW W Γ n) W F.body (xs.map some++List.replicate (F.ns-F.ps) none) m=some (.rt d,m)):BW W Γ (n+1) f xs m=some (d,m):=by
 rw[NP h hl,e];simp only[bq,dY hc,i8,List.take_length]
@[simp] theorem Xn:Walk.ok ⟨xs,none⟩ m=true:=rfl
end
end WL
namespace WL
open PySem L2
section
variable{m:Mem}
theorem mG{w:Walk}{f:D→Mem→Option (Option D×Mem)}{g:D→Option D}(e:w.ok m=true):∀{xs:List D},(∀d∈xs,f d m=some (g d,m))→S8 w f xs m=some (xs.filterMap g,m)
 | [],_=>by simp[S8,e]
 | d::r,h=>by
  simp only[S8,e,if_true,h d bX,bq];rw[mG e fun x hx=>h x (b8 _ hx)];cases hp:g d<;>simp[List.filterMap_cons,hp]
theorem lW{k:Nat}{i:Ie}{t:Te}{e:Ex}{σ:DS}{q:Option Nat}{h:D→Option D}(hw:Walk.ok ⟨xs,q⟩ m=true)(ho:k9 σ.length g=true)(hi:ei C i σ m=some (⟨xs,q⟩,m))(hl:xs.length≤1000)(hf:∀d∈xs,∃σ1 c,JL g d (σ++List.replicate k none)=some σ1∧et C t σ1 m=some (c,m)∧(if c=true then (h d).isSome=true∧ev C e σ1 m=some ((h d).getD .ao,m) else h d=none)):ev C (.comp false k g i t e) σ m=some (.lst (xs.filterMap h),m):=by
 have key:=mG (w:=⟨xs,q⟩) (m:=m) (g:=h) hw (xs:=xs) (f:=fun d m=>(JL g d (σ++List.replicate k none)).bind fun σ1=>(et C t σ1 m).bind fun(c,m2)=>if c then (ev C e σ1 m2).map fun(y,m3)=>(some y,m3) else some (none,m2)) (fun d hd=>by
  obtain⟨σ1,c,e1,e2,e3⟩:=hf d hd;cases c with
  | true=>
   rw[ag rfl]at e3;obtain⟨e3,e4⟩:=e3;simp only[e1,e2,bq,if_true,e4,i8];cases hh:h d with
   | none=>rw[hh]at e3;cases e3
   | some y=>rfl
  | false=>
   rw[ai (by decide)]at e3;simp only[e1,e2,bq,e3];rfl)
 show (if k9 σ.length g=true then (ei C i σ m).bind _ else none)=_;rw[ag ho,hi];simp only[bq];rw[key];simp only[bq,bE];have:=List.length_filterMap_le h xs;rw[ag (by lia)];rfl
theorem iW{k:Nat}{i:Ie}{t:Te}{e:Ex}{σ:DS}{h:D→Option D}(ho:k9 σ.length g=true)(hi:ei C i σ m=some (⟨xs,none⟩,m))(hl:xs.length≤1000)(hf:∀d∈xs,∃σ1 c,JL g d (σ++List.replicate k none)=some σ1∧et C t σ1 m=some (c,m)∧(if c=true then (h d).isSome=true∧ev C e σ1 m=some ((h d).getD .ao,m) else h d=none)):ev C (.comp false k g i t e) σ m=some (.lst (xs.filterMap h),m):=lW rfl ho hi hl hf
theorem K1{k:Nat}{i:Ie}{t:Te}{e:Ex}{σ:DS}(h:D→D)(ho:k9 σ.length g=true)(hi:ei C i σ m=some (⟨xs,none⟩,m))(hl:xs.length≤1000)(hf:∀d∈xs,∃σ1,JL g d (σ++List.replicate k none)=some σ1∧et C t σ1 m=some (true,m)∧ev C e σ1 m=some (h d,m)):ev C (.comp false k g i t e) σ m=some (.lst (xs.map h),m):=by
 have:=iW (C:=C) (k:=k) (g:=g) (i:=i) (t:=t) (e:=e) (h:=fun d=>some (h d)) ho hi hl (fun d hd=>by
  obtain⟨σ1,e1,e2,e3⟩:=hf d hd;exact⟨σ1,true,e1,e2,by rw[ag rfl];exact⟨rfl,e3⟩⟩)
 rw[this,qB]
end
theorem sd:ev C (.var i) σ m=match σ[i]? with | some (some d)=>some (d,m) | _=>none:=rfl
theorem Fx:ev C (.con d) q0 m=some (d,m):=rfl
theorem P4:ev C (.cmp o a b) σ m=(ev C a σ m).bind fun(x,m1)=>(ev C b σ m1).bind fun(y,m2)=>(LQ o x y).map fun c=>(.bl c,m2):=rfl
theorem Of:ev C (.tup as) σ m=(gf C as σ m).bind fun(xs,m1)=>if xs.length≤1000 then some (.tup xs,m1) else none:=rfl
theorem Od:ev C (.ix a b) σ m=(ev C a σ m).bind fun(x,m1)=>(ev C b σ m1).bind fun(y,m2)=>(j1 x y m2).map fun d=>(d,m2):=rfl
theorem yJ:ev C (.mM a b) σ m=(ev C a σ m).bind fun(x,m1)=>(ev C b σ m1).bind fun(y,m2)=>(GX x m2).bind fun(ks,vs)=>(MF y).bind fun k=>(GC ks vs k).map fun d=>(d,m2):=rfl
theorem Oc:ev C (.get d k z) σ m=(ev C d σ m).bind fun(x,m1)=>(GX x m1).bind fun _=>(ev C k σ m1).bind fun(y,m2)=>(ev C z σ m2).bind fun(u,m3)=>(GX x m3).bind fun(ks,vs)=>(MF y).map fun k=>((GC ks vs k).getD u,m3):=rfl
theorem Ob:ev C (.pop a) σ m=(ev C a σ m).bind fun(x,m1)=>match x with
  | .ak i=>match m1[i]? with
   | some (.lst xs)=>(xs[xs.length-1]?).map fun d=>(d,m1.set i (.lst xs.dropLast))
   | _=>none
  | _=>none:=rfl
theorem Oa:gf C .nil q0 m=some ([],m):=rfl
theorem N9:gf C (.cons a r) σ m=(ev C a σ m).bind fun(x,m1)=>(gf C r σ m1).map fun(xs,m2)=>(x::xs,m2):=rfl
theorem Wr:et C (.val a) σ m=(ev C a σ m).bind fun(x,m1)=>(fY x m1).map fun c=>(c,m1):=rfl
theorem Fw:ex C W (.set i a) σ m=(ev C a σ m).map fun(x,m1)=>(.nx (σ.set i (some x)),m1):=rfl
theorem yH:aE C W (.cons s r) σ m=(ex C W s σ m).bind fun(o,m1)=>match o with
  | .nx σ'=>aE C W r σ' m1
  | .rt d=>some (.rt d,m1):=rfl
end WL
namespace WL
open PySem L2
section
variable{m m1 m2:Mem}{σ σ':DS}{r a b:bp}{e:Ex}{t:Te}{d:D}{i:Nat}
theorem CJ(h:ev C e σ m=some (d,m1))(k:aE C W r (σ.set i (some d)) m1=X):aE C W (.cons (.set i e) r) σ m=X:=by
 show ((ev C e σ m).map _).bind _=_;rw[h];exact k
theorem NL(h:ev C e σ m=some (d,m1))(hb:JL g d σ=some σ')(k:aE C W r σ' m1=X):aE C W (.cons (.asg g e) r) σ m=X:=by
 show ((ev C e σ m).bind _).bind _=_;rw[h];show ((JL g d σ).map _).bind _=X;rw[hb];exact k
theorem IW(h:ev C e σ m=some (d,m1))(k:aE C W r σ m1=X):aE C W (.cons (.drop e) r) σ m=X:=by
 show ((ev C e σ m).map _).bind _=_;rw[h];exact k
theorem CP(h:ev C e σ m=some (d,m1)):aE C W (.cons (.ret e) r) σ m=some (.rt d,m1):=by
 show ((ev C e σ m).map _).bind _=_;rw[h];rfl
theorem FQ(h:et C t σ m=some (false,m1))(k:aE C W r σ m1=X):aE C W (.cons (.ite t a .nil) r) σ m=X:=by
 show ((et C t σ m).bind _).bind _=_;rw[h];show (aE C W .nil σ m1).bind _=X;exact k
theorem GJ(h:et C t σ m=some (true,m1))(k:aE C W a σ m1=some (.rt d,m2)):aE C W (.cons (.ite t a b) r) σ m=some (.rt d,m2):=by
 show ((et C t σ m).bind _).bind _=_;rw[h];show (aE C W a σ m1).bind _=_;rw[k];rfl
theorem nO(h:et C t σ m=some (false,m1))(k:aE C W b σ m1=some (.rt d,m2)):aE C W (.cons (.ite t a b) r) σ m=some (.rt d,m2):=by
 show ((et C t σ m).bind _).bind _=_;rw[h];show (aE C W b σ m1).bind _=_;rw[k];rfl
theorem JQ(h:et C t σ m=some (true,m1))(k:aE C W a σ m1=some (.nx σ',m2))(q:aE C W r σ' m2=X):aE C W (.cons (.ite t a b) r) σ m=X:=by
 show ((et C t σ m).bind _).bind _=_;rw[h];show (aE C W a σ m1).bind _=_;rw[k];exact q
theorem NT{i:Ie}{w:Walk}(h:ei C i σ m=some (w,m1))(k:forL w g (fun σ m=>aE C W b σ m) w.xs σ m1=some (.nx σ',m2))(q:aE C W r σ' m2=X):aE C W (.cons (.fr g i b) r) σ m=X:=by
 show ((ei C i σ m).bind _).bind _=_;rw[h];show (forL w g (fun σ m=>aE C W b σ m) w.xs σ m1).bind _=_;rw[k];exact q
theorem yI{i:Ie}:ex C W (.fr g i b) σ m=(ei C i σ m).bind fun(w,m1)=>forL w g (fun σ m=>aE C W b σ m) w.xs σ m1:=rfl
theorem JC{p:Prop}[Decidable p](h:et C t σ m=some (decide p,m1))(hp:p):et C t σ m=some (true,m1):=by
 rw[h,dk hp]
theorem HS{p:Prop}[Decidable p](h:et C t σ m=some (decide p,m1))(hp:¬p):et C t σ m=some (false,m1):=by
 rw[h,dm hp]
theorem FR{p:Prop}[Decidable p](h:et C t σ m=some (!decide p,m1))(hp:p):et C t σ m=some (false,m1):=by
 rw[h,dk hp];rfl
theorem FU{p:Prop}[Decidable p](h:et C t σ m=some (!decide p,m1))(hp:¬p):et C t σ m=some (true,m1):=by
 rw[h,dm hp];rfl
theorem Gu{cw:Bool}(h:et C t σ m=some (c,m1))(hc:c=cw):et C t σ m=some (cw,m1):=hc▸h
theorem O5{s:Te}(h:et C t σ m=some (true,m1))(k:et C s σ m1=some (c,m2)):et C (.and t s) σ m=some (c,m2):=by
 show (et C t σ m).bind _=_;rw[h];exact k
theorem T7{s:Te}(h:et C t σ m=some (false,m1)):et C (.and t s) σ m=some (false,m1):=by
 show (et C t σ m).bind _=_;rw[h];rfl
theorem lX{s:Te}(h:et C t σ m=some (false,m1))(k:et C s σ m1=some (c,m2)):et C (.or t s) σ m=some (c,m2):=by
 show (et C t σ m).bind _=_;rw[h];exact k
theorem Fb{s:Te}(h:et C t σ m=some (true,m1)):et C (.or t s) σ m=some (true,m1):=by
 show (et C t σ m).bind _=_;rw[h];rfl
theorem G3(h:ev C e σ m=some (d,m1))(k:fY d m1=some c):et C (.val e) σ m=some (c,m1):=by
 show (ev C e σ m).bind _=_;rw[h];show (fY d m1).map _=_;rw[k];rfl
theorem CG{f:String}{as:iz}{z:D×Mem}(k:C f xs m1=some z)(h:gf C as σ m=some (xs,m1)):ev C (.call f as) σ m=some z:=by
 show (gf C as σ m).bind _=_;rw[h];exact k
theorem BZ{as:iz}(h:ev C e σ m=some (d,m1))(k:gf C as σ m1=some (xs,m2)):gf C (.cons e as) σ m=some (d::xs,m2):=by
 show (ev C e σ m).bind _=_;rw[h];show (gf C as σ m1).map _=_;rw[k];rfl
theorem EY{o:BH}{d2:D}{z:D×Mem}(h:ev C e σ m=some (d,m1))(k:ev C e2 σ m1=some (d2,m2))(q:XC o d d2 m2=some z):ev C (.bin o e e2) σ m=some z:=by
 show (ev C e σ m).bind _=_;rw[h];show (ev C e2 σ m1).bind _=_;rw[k];exact q
theorem HD{o:qi}{d2:D}(h:ev C e σ m=some (d,m1))(k:ev C e2 σ m1=some (d2,m2))(q:LQ o d d2=some c):ev C (.cmp o e e2) σ m=some (.bl c,m2):=by
 show (ev C e σ m).bind _=_;rw[h];show (ev C e2 σ m1).bind _=_;rw[k];show (LQ o d d2).map _=_;rw[q];rfl
theorem pH{ys:List D}(h:ev C e σ m=some (.lst xs,m1))(k:ev C e2 σ m1=some (.lst ys,m2))(hl:xs.length+ys.length≤10000):ev C (.cat false e e2) σ m=some (.lst (xs++ys),m2):=by
 show (ev C e σ m).bind _=_;rw[h];show (ev C e2 σ m1).bind _=_;rw[k];show (if xs.length+ys.length≤10000 then some (bE false (xs++ys) m2) else none)=_;rw[ag hl];rfl
theorem LK{d2 d3:D}(h:ev C e σ m=some (d,m1))(k:ev C e2 σ m1=some (d2,m2))(q:j1 d d2 m2=some d3):ev C (.ix e e2) σ m=some (d3,m2):=by
 show (ev C e σ m).bind _=_;rw[h];show (ev C e2 σ m1).bind _=_;rw[k];show (j1 d d2 m2).map _=_;rw[q];rfl
theorem HB{as:iz}(h:gf C as σ m=some (xs,m1))(hl:xs.length≤1000):ev C (.tup as) σ m=some (.tup xs,m1):=by
 show (gf C as σ m).bind _=_;rw[h];show (if xs.length≤1000 then some (D.tup xs,m1) else none)=_;rw[ag hl]
theorem rO{i j:Int}(h:ev C e σ m=some (.int i,m1))(k:ev C e2 σ m1=some (.int j,m2)):ev C (.max2 e e2) σ m=some (.int (if j > i then j else i),m2):=by
 show (ev C e σ m).bind _=_;rw[h];show (ev C e2 σ m1).bind _=_;rw[k];rfl
theorem pI{s:Te}{c2:Bool}(h:et C t σ m=some (c,m1))(k:et C s σ m1=some (c2,m1)):et C (.or t s) σ m=some (c||c2,m1):=by
 show (et C t σ m).bind _=_;rw[h];cases c
 ·exact k
 ·rfl
theorem NR(h:xs≠[]):fY (.lst xs) m=some true:=by
 cases xs with
 | nil=>exact absurd rfl h
 | cons a r=>rfl
theorem GD{o:B1}{z:D×Mem}(h:ev C e σ m=some (d,m1))(q:cy o d m1=some z):ev C (.b1 o e) σ m=some z:=by
 show (ev C e σ m).bind _=_;rw[h];exact q
theorem E8{z:D×Mem}(h:et C t σ m=some (c,m1))(q:(if c then ev C e σ m1 else ev C e2 σ m1)=some z):ev C (.rk t e e2) σ m=some z:=by
 show (et C t σ m).bind _=_;rw[h];exact q
theorem JB(h:et C t σ m=some (false,m1))(k:aE C W b σ m1=some (.nx σ',m2))(q:aE C W r σ' m2=X):aE C W (.cons (.ite t a b) r) σ m=X:=by
 show ((et C t σ m).bind _).bind _=_;rw[h];show (aE C W b σ m1).bind _=_;rw[k];exact q
theorem fV{dd k v:Ex}{z y:D}{m3:Mem}{i:Nat}{kk:Key}{ks:List Key}{vs:List D}(hv:ev C v σ m=some (z,m1))(hd:ev C dd σ m1=some (.ak i,m2))(hk:ev C k σ m2=some (y,m3))(hm:m3[i]?=some (.aq ks vs))(hy:MF y=some kk)(hc:z.clean=true)(hl:ks.length<10000)(q:aE C W r σ (m3.set i (.aq (putD ks vs kk z).1 (putD ks vs kk z).2))=X):aE C W (.cons (.put dd k v) r) σ m=X:=by
 show ((ev C v σ m).bind _).bind _=_;rw[hv];show ((ev C dd σ m1).bind _).bind _=_;rw[hd];show ((ev C k σ m2).bind _).bind _=_;rw[hk];simp only[bq,hm,hy,hc,hl,decide_true,Bool.and_self,if_true];exact q
theorem U6{i:Nat}(h:ev C e σ m=some (.ak i,m))(k:ev C e2 σ m=some (d,m))(hm:m[i]?=some (.lst xs))(hc:d.clean=true)(hl:xs.length<100000):ev C (.app e e2) σ m=some (.ao,m.set i (.lst (xs++[d]))):=by
 show (ev C e σ m).bind _=_;rw[h];show (FJ (.ak i) m).bind _=_;rw[show FJ (.ak i) m=some xs by simp only[FJ,hm]];show (ev C e2 σ m).bind _=_;rw[k];simp only[bq,hm,hc,hl,decide_true,Bool.and_self,if_true]
theorem E9{i:Nat}{ys:List D}(h:ev C e σ m=some (.ak i,m))(k:ev C e2 σ m=some (.lst ys,m))(hm:m[i]?=some (.lst xs))(hc:D.clean.cj ys=true)(hl:xs.length+ys.length≤100000):ev C (.ext e e2) σ m=some (.ao,m.set i (.lst (xs++ys))):=by
 show (ev C e σ m).bind _=_;rw[h];show (FJ (.ak i) m).bind _=_;rw[show FJ (.ak i) m=some xs by simp only[FJ,hm]];show (ev C e2 σ m).bind _=_;rw[k];simp only[bq,hm,hc,hl,decide_true,Bool.and_self,if_true]
theorem Pk{i:Nat}(h:ev C e σ m=some (.ak i,m))(hm:m[i]?=some (.lst xs))(hx:xs[xs.length-1]?=some d):ev C (.pop e) σ m=some (d,m.set i (.lst xs.dropLast)):=by
 show (ev C e σ m).bind _=_;rw[h];simp only[bq,hm,hx,i8]
theorem Nb{i:Nat}{ys:List D}(h:ev C e σ m=some (.ak i,m))(k:ev C e2 σ m=some (.tup ys,m))(hm:m[i]?=some (.lst xs))(hc:D.clean.cj ys=true)(hl:xs.length+ys.length≤100000):ev C (.ext e e2) σ m=some (.ao,m.set i (.lst (xs++ys))):=by
 show (ev C e σ m).bind _=_;rw[h];show (FJ (.ak i) m).bind _=_;rw[show FJ (.ak i) m=some xs by simp only[FJ,hm]];show (ev C e2 σ m).bind _=_;rw[k];simp only[bq,hm,hc,hl,decide_true,Bool.and_self,if_true]
theorem Cu{i:Nat}(h:m[i]?=some (.lst xs)):fY (.ak i) m=some (!xs.isEmpty):=by
 show (match m[i]? with | some (.lst xs)=>some (!xs.isEmpty) | some (.aq ks _)=>some (!ks.isEmpty) | _=>none)=_;rw[h]
theorem Na{sep:Str}{ys:List Str}(h:ev C e σ m=some (.str sep,m1))(k:ev C e2 σ m1=some (.lst xs,m2))(hs:strsOf xs=some ys)(hl:(ys.map (·.length)).sum+ys.length*sep.length≤100000):ev C (.join e e2) σ m=some (.str (Txt.join sep ys),m2):=by
 show (ev C e σ m).bind _=_;rw[h];show (ev C e2 σ m1).bind _=_;rw[k];show (strsOf xs).bind _=_;rw[hs];exact ag hl
theorem KP{x y:D}{k:Nat}(h:ev C e σ m=some (x,m))(hx:FJ x m=some xs)(h2:ev C e2 σ m=some (y,m))(hf:(y.flat&&xs.all D.flat&&decide (xs.length<1000))=true)(hd:findD y xs 0=some k):ev C (.index e e2) σ m=some (.int k,m):=by
 show (ev C e σ m).bind _=_;rw[h];show (FJ x m).bind _=_;rw[hx];show (ev C e2 σ m).bind _=_;rw[h2];show (FJ x m).bind _=_;rw[hx];show (if _=true then (findD y xs 0).map _ else none)=_;rw[ag hf,hd];rfl
theorem Lj{dd k:Ex}{y:D}{i:Nat}{ks:List FK}{kk:FK}(hd:ev C dd σ m=some (.ak i,m))(hk:ev C k σ m=some (y,m))(hm:m[i]?=some (.fd ks))(hy:nN y=some kk)(hl:ks.length<10000)(q:aE C W r σ (m.set i (.fd (W3 ks kk)))=X):aE C W (.cons (.zC dd k) r) σ m=X:=by
 show ((ev C dd σ m).bind _).bind _=_;rw[hd];show ((ev C k σ m).bind _).bind _=_;rw[hk];simp only[bq,hm,hy,hl,if_true];exact q
theorem Fd{j:Int}(h:ev C e σ m=some (.int j,m1))(hj:-(2 ^ 62)≤j∧j<2 ^ 62):ei C (.iw e) σ m=some (⟨(List.range j.toNat).map fun(i:Nat)=>.int i,none⟩,m1):=by
 show (ev C e σ m).bind _=_;rw[h];exact ag hj
theorem Nf{i:Nat}(h:ev C e σ m=some (.ak i,m1))(hs:m1[i]?=some (.lst xs)):ei C (.seq e) σ m=some (⟨xs,some i⟩,m1):=by
 show (ev C e σ m).bind _=_;rw[h];show (TX (.ak i) m1).map _=_;rw[show TX (.ak i) m1=some xs by simp only[TX,hs]];rfl
theorem eW{a b:String}(h:a≠b):¬Str.ofString a=Str.ofString b:=fun q=>h (ofString_eq.mp q)
theorem RD{ae:Mem}(h:m=ae):aE C W .nil σ m=some (.nx σ,ae):=by rw[h];rfl
theorem zp{dd k z:Ex}{x y u:D}{kk:Key}{ks:List Key}{vs:List D}(h1:ev C dd σ m=some (x,m))(h2:ev C k σ m=some (y,m))(h3:ev C z σ m=some (u,m))(hd:GX x m=some (ks,vs))(hk:MF y=some kk):ev C (.get dd k z) σ m=some ((GC ks vs kk).getD u,m):=by
 show (ev C dd σ m).bind _=_;rw[h1];show (GX x m).bind _=_;rw[hd];show (ev C k σ m).bind _=_;rw[h2];show (ev C z σ m).bind _=_;rw[h3];show (GX x m).bind _=_;rw[hd];show (MF y).map _=_;rw[hk];rfl
theorem vw{e1:Ex}{r:iz}{a k j:Int}{ds:List D}(hk:-(2 ^ 64)<k∧k<2 ^ 64)(h1:ev C e1 σ m=some (d,m))(h2:ev C e2 σ m=some (.int a,m))(h3:gf C r σ m=some (ds,m)):gf C (.cons e1 (.cons (.bin .add (.bin .mul e2 (.con (.int k))) (.con (.int j))) r)) σ m=some (d::.int (a*k+j)::ds,m):=
 BZ h1 (BZ (EY (EY h2 rfl (W0 hk)) rfl rfl) h3)
theorem E6{as:iz}(h:gf C as σ m=some (xs,m1))(hl:xs.length≤1000):ev C (.lst false as) σ m=some (.lst xs,m1):=by
 show (gf C as σ m).bind _=_;rw[h];show (if xs.length≤1000 then some (bE false xs m1) else none)=_;rw[ag hl];rfl
theorem HN{σ1:DS}{w:Walk}{b:DS→Mem→Option (Out×Mem)}{r:List D}(hw:w.ok m=true)(hb:JL g d σ=some σ1)(h:b σ1 m=some (.nx σ',m1))(k:forL w g b r σ' m1=X):forL w g b (d::r) σ m=X:=by
 rw[forL,ag hw,hb];show (b σ1 m).bind _=_;rw[h];exact k
theorem K7{w:Walk}{b:DS→Mem→Option (Out×Mem)}(hw:w.ok m=true):forL w g b [] σ m=some (.nx σ,m):=by
 rw[forL,ag hw]
theorem JR{f:String}{F:Fn}{n:Nat}{q:Mem}(h:Γ f=some F)(hl:xs.length=F.ps)(hc:d.clean=true)(e:aE (BW W Γ n) W F.body (xs.map some++List.replicate (F.ns-F.ps) none) m=some (.rt d,m++q)):BW W Γ (n+1) f xs m=some (d,m):=by
 rw[NP h hl,e];show (outD m.length (m++q) d).map _=_;rw[dY hc];show some (d,(m++q).take m.length)=_;rw[List.take_left]
theorem Ng(h:ev C e σ m=some (.lst xs,m1)):ei C (.enum e) σ m=some (⟨O6 xs 0,none⟩,m1):=by
 show (ev C e σ m).bind _=_;rw[h];rfl
theorem rQ(h:ev C e σ m=some (.tup xs,m1)):ei C (.seq e) σ m=some (⟨xs,none⟩,m1):=by
 show (ev C e σ m).bind _=_;rw[h];rfl
theorem N6(h:ev C e σ m=some (.lst xs,m1)):ei C (.seq e) σ m=some (⟨xs,none⟩,m1):=by
 show (ev C e σ m).bind _=_;rw[h];rfl
theorem fU(h:M7 (et C t) (fun σ m=>aE C W b σ m) W σ m=some (.nx σ',m1))(q:aE C W r σ' m1=X):aE C W (.cons (.bh t b) r) σ m=X:=by
 show (M7 (et C t) (fun σ m=>aE C W b σ m) W σ m).bind _=_;rw[h];exact q
theorem Li(h:M7 (et C t) (fun σ m=>aE C W b σ m) W σ m=some (.rt d,m1)):aE C W (.cons (.bh t b) r) σ m=some (.rt d,m1):=by
 show (M7 (et C t) (fun σ m=>aE C W b σ m) W σ m).bind _=_;rw[h];rfl
theorem Bk{i:Int}(h:ev C e σ m=some (.int i,m1)):eo C (.pt e) σ m=some (some i,m1):=by
 show (ev C e σ m).bind _=_;rw[h];rfl
theorem rM{lo hi:Oe}{l h:Option Int}{x:D}(ha:ev C e σ m=some (x,m))(hl:eo C lo σ m=some (l,m))(hh:eo C hi σ m=some (h,m))(q:qf x l h=some d):ev C (.sl e lo hi) σ m=some (d,m):=by
 show (ev C e σ m).bind _=_;rw[ha];show (eo C lo σ m).bind _=_;rw[hl];show (eo C hi σ m).bind _=_;rw[hh];show (qf x l h).map _=_;rw[q];rfl
end
noncomputable def RU:bp→bp
 | .cons (.fr _ _ b) _=>b
 | _=>.nil
end WL
end
section
variable{C:String→List WL.D→WL.Mem→Option (WL.D×WL.Mem)}{W i n:Nat}{a x:PySem.Str}{f g:PySem.Str→Int}{hk ks nm s0 sn wq:List PySem.Str}{l most v:Int}{lv ns:List Int}{m m0:WL.Mem}{sh:List (Int×Int)}{vs:List WL.D}{Γ:String→Option WL.Fn}{σ:WL.DS}
namespace T
open PySem L2 WL WW
noncomputable def G5(c p k:Int):Int:=c*48271 % p % k
theorem IV(c p:Int){k:Int}(h:0<k):0≤G5 c p k∧G5 c p k<k:=⟨Int.emod_nonneg _ (by lia),Int.emod_lt_of_pos _ h⟩
noncomputable def DY(ns:List Int)(k:Nat):Int:=ns.getD k 0
theorem K9(H:Γ "_law_mix" = some KR){c p k:Int}(hp:0<p)(hk:0<k):BW W Γ (n+1) "_law_mix" [.int c,.int p,.int k] m=some (.int (G5 c p k),m):=by
 refine DN H rfl rfl ?_;exact CP (EY (EY (EY rfl rfl (W0 (by decide))) rfl (PK hp)) rfl (PK hk))
theorem bM(H:Γ "_law_cell" = some TF){k:Nat}:BW W Γ (n+1) "_law_cell" [.b6 ns,.int k] m=some (.int (DY ns k),m):=by
 refine DN H rfl rfl ?_;have e:cy .len (.b6 ns) m=some (.int ns.length,m):=by
  show some (D.int ((ns.map D.int).length:Nat),m)=_;rw[a9]
 by_cases h:k<ns.length
 ·have h1:j1 (.b6 ns) (.int k) m=some (.int (DY ns k)):=by
   show (cv ns (k:Int)).map D.int=_;rw[S9,DY,List.getD_eq_getElem?_getD,fo h];rfl
  exact GJ (JC (p:=(k:Int)<(ns.length:Int)) (G3 (HD rfl (GD rfl e) rfl) rfl) (by lia)) (CP (LK rfl rfl h1))
 ·rw[show DY ns k=0 by rw[DY,List.getD_eq_getElem?_getD,List.getElem?_eq_none (by lia)];rfl]
  exact FQ (HS (p:=(k:Int)<(ns.length:Int)) (G3 (HD rfl (GD rfl e) rfl) rfl) (by lia)) (CP rfl)
theorem UY:(Str.ofString "abcdefghijklmnopqrstuvwxyz").cps.toList=(List.range 26).map (97+·):=by decide +kernel
theorem lO:(Str.ofString "abcdefghijklmnopqrstuvwxyz").length=26:=by decide +kernel
theorem eE{i:Int}(h0:0≤i)(h1:i<26):j1 (.str "abcdefghijklmnopqrstuvwxyz") (.int i) m=some (.str ⟨#[97+i.toNat]⟩):=by
 show (if (Str.ofString "abcdefghijklmnopqrstuvwxyz").length≤1000 then (cv (Str.ofString "abcdefghijklmnopqrstuvwxyz").cps.toList i).map (fun c=>D.str ⟨#[c]⟩) else none)=_;rw[ag (by rw[lO];lia),UY];obtain⟨k,rfl⟩:=w4 h0;rw[S9];have:k<26:=by lia
 simp[this]
theorem Qo{l:List Nat}(h:l.length≤2):Txt.join (Str.ofString "") (l.map fun c=>⟨#[c]⟩)=⟨l.toArray⟩:=by
 match l,h with
 | [],_=>decide
 | [a],_=>rfl
 | [a,b],_=>rfl
theorem YW(l:List Str):strsOf (l.map .str)=some l:=by
 induction l with
 | nil=>rfl
 | cons a r ih=>simp[strsOf,ih]
theorem xR(l:List Nat):strsOf (l.map fun q=>.str ⟨#[q]⟩)=some (l.map fun q=>⟨#[q]⟩):=by
 have:=YW (l.map fun q=>⟨#[q]⟩);rw[df]at this;exact this
theorem len_str{z:Str}(h:z.length≤1000):cy .len (.str z) m=some (.int z.length,m):=ag h
theorem PZ{z:Str}{j:Int}(h:z.length≤1000)(h0:0≤j)(h1:j≤z.cps.toList.length):qf (.str z) none (some j)=some (.str ⟨(z.cps.toList.take j.toNat).toArray⟩):=by
 show (if z.length≤1000 then some (D.str (StrLaws.sliceText z none (some j))) else none)=_;rw[ag h,StrLaws.sliceText_to ⟨h0,h1⟩,List.drop_zero,Int.sub_zero]
theorem LG{z:Str}{j:Int}(h:z.length≤1000)(h0:0≤j)(h1:j≤z.cps.toList.length):qf (.str z) (some j) none=some (.str ⟨(z.cps.toList.drop j.toNat).toArray⟩):=by
 show (if z.length≤1000 then some (D.str (StrLaws.sliceText z (some j) none)) else none)=_;rw[ag h,StrLaws.sliceText_from ⟨h0,h1⟩,sr (by simp only[List.length_drop];omega)]
noncomputable def GZ(c:Int):List Nat:=(List.range (G5 c 9931 3).toNat).map fun(j:Nat)=>97+(G5 (c+3*j) 9941 26).toNat
noncomputable def fF(c:Int):Int:=G5 c 9929 ((GZ c).length+1)
noncomputable def XR(c:Int)(k:Nat):Nat:=97+((G5 c 9949 26+5*k) % 26).toNat
noncomputable def DW(c:Int)(k:Nat):Str:=⟨((GZ c).take (fF c).toNat++[XR c k]++(GZ c).drop (fF c).toNat).toArray⟩
theorem wX(c:Int):(GZ c).length≤2:=by
 have:=IV c 9931 (k:=3) (by lia);simp only[GZ,a9,List.length_range];lia
theorem F8(c:Int):0≤fF c∧fF c≤(GZ c).length:=by
 have:=IV c 9929 (k:=(GZ c).length+1) (by lia);unfold fF;lia
theorem Pq(Hm:Γ "_law_mix" = some KR)(Hc:Γ "_law_cell" = some TF)(H:Γ "_law_name" = some zt){k:Nat}:BW W Γ (n+2) "_law_name" [.b6 ns,.int k] m=some (.str (DW (DY ns 0) k),m):=by
 refine DN H rfl rfl ?_;have hc:=bM (W:=W) (n:=n) (m:=m) Hc (ns:=ns) (k:=0);rw[Int.natCast_zero]at hc;generalize DY ns 0=c at hc ⊢;have r1:=IV c 9931 (k:=3) (by lia);have r2:=wX c;have r3:=F8 c;have comp:∀x y z,ev (BW W Γ (n+1)) (.comp false 1 (.nm 7) (.iw (.call "_law_mix" (.cons (.var 3) (.cons (.con (.int 9931)) (.cons (.con (.int 3)) .nil))))) .tt (.ix (.var 2) (.call "_law_mix" (.cons (.bin .add (.var 3) (.bin .mul (.con (.int 3)) (.var 7))) (.cons (.con (.int 9941)) (.cons (.con (.int 26)) .nil)))))) [some (.b6 ns),some (.int k),some (.str "abcdefghijklmnopqrstuvwxyz"),some (.int c),x,y,z] m=some (.lst ((GZ c).map fun q=>.str ⟨#[q]⟩),m):=by
  intro x y z;rw[K1 (xs:=(List.range (G5 c 9931 3).toNat).map fun(i:Nat)=>.int i) (fun d=>match d with | .int j=>.str ⟨#[97+(G5 (c+3*j) 9941 26).toNat]⟩ | _=>.ao) rfl (Fd (CG (K9 Hm (by decide) (by decide)) rfl) (by lia)) (by rw[a9,List.length_range];lia)]
  ·simp[GZ,Function.comp_def]
  ·intro d hd
   obtain⟨j,hj,rfl⟩:=dg hd;have r4:=IV (c+3*j) 9941 (k:=26) (by lia);refine⟨[some (.b6 ns),some (.int k),some (.str "abcdefghijklmnopqrstuvwxyz"),some (.int c),x,y,z,some (.int j)],rfl,rfl,LK rfl (CG (K9 Hm (by decide) (by decide)) (BZ (EY rfl (EY rfl rfl (QG (by decide))) rfl) rfl)) (eE r4.1 r4.2)⟩
 have r5:0≤(G5 c 9949 26+5*k) % 26∧(G5 c 9949 26+5*k) % 26<26:=by lia
 have join:=Qo r2;have hs:(((GZ c).map fun q=>(⟨#[q]⟩:Str)).map (·.length)).sum+((GZ c).map fun q=>(⟨#[q]⟩:Str)).length*(Str.ofString "").length≤100000:=by
  have:(Str.ofString "").length=0:=by decide
  rw[this]
  match GZ c,r2 with
  | [],_=>simp
  | [a],_=>simp[Str.length]
  | [a,b],_=>simp[Str.length]
 have l0:(⟨(GZ c).toArray⟩:Str).length≤1000:=by
  show (GZ c).toArray.size≤1000;simp;lia
 have l1:(⟨(GZ c).toArray⟩:Str).length=(GZ c).length:=by show (GZ c).toArray.size=_;simp
 have e1:G5 c 9929 ((GZ c).length+1)=fF c:=rfl;have s1:=PZ l0 r3.1 (by simpa using r3.2);have s2:=LG l0 r3.1 (by simpa using r3.2);simp only[]at s1 s2;have a1:(⟨((GZ c).take (fF c).toNat).toArray⟩:Str).length≤2:=by show ((GZ c).take (fF c).toNat).toArray.size≤2;simp;lia
 have a2:(⟨((GZ c).drop (fF c).toNat).toArray⟩:Str).length≤2:=by show ((GZ c).drop (fF c).toNat).toArray.size≤2;simp;lia
 have mx:BW W Γ (n+1) "_law_mix" [.int c,.int 9929,.int ((⟨(GZ c).toArray⟩:Str).length+1)] m=some (.int (fF c),m):=by
  rw[K9 Hm (by lia) (by lia),l1];rfl
 have p1:∀(a b:List Nat),(⟨a.toArray⟩:Str)++(⟨b.toArray⟩:Str)=⟨(a++b).toArray⟩:=fun a b=>by
  show (⟨a.toArray++b.toArray⟩:Str)=_;simp
 have b1:(⟨#[97+((G5 c 9949 26+5*k) % 26).toNat]⟩:Str).length=1:=rfl;have p2:=p1 ((GZ c).take (fF c).toNat) [97+((G5 c 9949 26+5*k) % 26).toNat];have b2:((⟨((GZ c).take (fF c).toNat).toArray⟩:Str)++(⟨#[97+((G5 c 9949 26+5*k) % 26).toNat]⟩:Str)).length≤3:=by
  rw[show (#[97+((G5 c 9949 26+5*k) % 26).toNat]:Array Nat)=[97+((G5 c 9949 26+5*k) % 26).toNat].toArray from rfl,p2];show ((GZ c).take (fF c).toNat++[97+((G5 c 9949 26+5*k) % 26).toNat]).toArray.size≤3;simp;lia
 have fin:(⟨((GZ c).take (fF c).toNat).toArray⟩:Str)++(⟨#[97+((G5 c 9949 26+5*k) % 26).toNat]⟩:Str)++(⟨((GZ c).drop (fF c).toNat).toArray⟩:Str)=DW c k:=by
  rw[show (#[97+((G5 c 9949 26+5*k) % 26).toNat]:Array Nat)=[97+((G5 c 9949 26+5*k) % 26).toNat].toArray from rfl,p2,p1];rfl
 rw[←fin];exact CJ rfl (CJ (d:=.int c) (CG hc rfl) (CJ (LK rfl (EY (EY (CG (K9 Hm (by decide) (by decide)) rfl) (EY rfl rfl (QG (by decide))) rfl) rfl (PK (by decide))) (eE r5.1 r5.2)) (CJ (d:=.str ⟨(GZ c).toArray⟩) (by rw[←join];exact Na rfl (comp _ _ _) (xR _) hs) (CJ (CG mx (BZ rfl (BZ rfl (BZ (EY (GD rfl (len_str l0)) rfl rfl) rfl)))) (CP (EY (EY (rM rfl rfl (Bk rfl) s1) rfl (tM (by rw[b1];lia))) (rM rfl (Bk rfl) rfl s2) (tM (by lia))))))))
theorem rC(c:Int)(k:Nat):(DW c k).cps.toList[(fF c).toNat]?=some (XR c k):=by
 have r:=F8 c;have:((GZ c).take (fF c).toNat).length=(fF c).toNat:=by simp;lia
 show ((GZ c).take (fF c).toNat++[XR c k]++(GZ c).drop (fF c).toNat)[(fF c).toNat]?=_;rw[C2,so (by lia),this,Nat.sub_self];rfl
theorem lH{c:Int}{j:Nat}(hi:i<4)(hj:j<4)(h:DW c i=DW c j):i=j:=by
 have h1:=rC c i;rw[h,rC c j]at h1;have h2:XR c j=XR c i:=cE h1;unfold XR at h2;have:=IV c 9949 (k:=26) (by lia);lia
noncomputable def JT(c:Int):List Str:=[DW c 0,DW c 1,DW c 2,DW c 3]
theorem names_nodup(c:Int):(JT c).Nodup:=by
 have h:∀{i j:Nat},i<4→j<4→i≠j→DW c i≠DW c j:=fun hi hj hn e=>hn (lH hi hj e)
 simp only[JT,List.nodup_cons,List.mem_cons,List.not_mem_nil,or_false,not_or,not_false_eq_true,nB,and_true];exact⟨⟨h (by decide) (by decide) (by decide),h (by decide) (by decide) (by decide),h (by decide) (by decide) (by decide)⟩,⟨h (by decide) (by decide) (by decide),h (by decide) (by decide) (by decide)⟩,h (by decide) (by decide) (by decide)⟩
theorem Mx(c:Int)(k:Nat):∀q∈(DW c k).cps.toList,97≤q∧q<123:=by
 intro q hq;have hq:q∈(GZ c).take (fF c).toNat++[XR c k]++(GZ c).drop (fF c).toNat:=hq;have ht:∀q∈GZ c,97≤q∧q<123:=fun q hq=>by
  obtain⟨j,_,rfl⟩:=dg hq;have:=IV (c+3*j) 9941 (k:=26) (by lia);lia
 simp only[List.mem_append,List.mem_singleton]at hq;rcases hq with (hq | hq) | hq
 ·exact ht q (List.mem_of_mem_take hq)
 ·subst hq
  unfold XR;lia
 ·exact ht q (List.mem_of_mem_drop hq)
theorem jC(Hm:Γ "_law_mix" = some KR)(Hc:Γ "_law_cell" = some TF)(Hn:Γ "_law_name" = some zt)(H:Γ "_law_names" = some cO):BW W Γ (n+3) "_law_names" [.b6 ns] m=some (.lst ((JT (DY ns 0)).map .str),m):=by
 refine DN H rfl rfl ?_;have comp:ev (BW W Γ (n+2)) (.comp false 1 (.nm 1) (.iw (.con (.int 4))) .tt (.call "_law_name" (.cons (.var 0) (.cons (.var 1) .nil)))) [some (.b6 ns)] m=some (.lst ((JT (DY ns 0)).map .str),m):=by
  rw[K1 (xs:=(List.range 4).map fun(i:Nat)=>.int i) (fun d=>match d with | .int j=>.str (DW (DY ns 0) j.toNat) | _=>.ao) rfl rfl (d6 rfl)]
  ·simp[JT,List.range,List.range.loop]
  ·intro d hd
   obtain⟨j,hj,rfl⟩:=dg hd;exact⟨[some (.b6 ns),some (.int j)],rfl,rfl,CG (Pq Hm Hc Hn) rfl⟩
 exact CP comp
noncomputable def T4(c:Int):List Int:=[0,2,G5 c 9923 3,G5 c 9907 3]
theorem Kx(c:Int):∀x∈T4 c,0≤x∧x<3:=by
 have:=IV c 9923 (k:=3) (by omega);have:=IV c 9907 (k:=3) (by omega);intro x hx;simp only[T4,List.mem_cons,List.not_mem_nil,or_false]at hx;rcases hx with rfl | rfl | rfl | rfl<;>omega
theorem Lc(Hm:Γ "_law_mix" = some KR)(Hc:Γ "_law_cell" = some TF)(H:Γ "_law_levels" = some XD):BW W Γ (n+2) "_law_levels" [.b6 ns] m=some (.lst ((T4 (DY ns 1)).map .int),m):=by
 refine DN H rfl rfl ?_;have hc:=bM (W:=W) (n:=n) (m:=m) Hc (ns:=ns) (k:=1);rw[Int.natCast_one]at hc;exact CP (E6 (BZ rfl (BZ rfl (BZ (CG (K9 Hm (by decide) (by decide)) (BZ (CG hc rfl) rfl)) (BZ (CG (K9 Hm (by decide) (by decide)) (BZ (CG hc rfl) rfl)) rfl)))) (d6 rfl))
noncomputable def rq:Op→String
 | .sum=>"sum"
 | .times=>"times"
 | .less=>"less"
noncomputable def dT:Tm Str→D
 | .num n=>.tup [.str "number",.int n]
 | .fi x=>.tup [.str "name",.str x]
 | .bin o a b=>.tup [.str (Str.ofString (rq o)),dT a,dT b]
theorem N8:∀t:Tm Str,(dT t).clean=true
 | .num n=>rfl
 | .fi x=>rfl
 | .bin o a b=>by simp[dT,N8 a,N8 b]
theorem Px{α β:Type}(f:α→β)(l:List α)(i:Int):cv (l.map f) i=(cv l i).map f:=by
 unfold cv;rw[a9];cases vf l.length i with
 | none=>rfl
 | some j=>simp
theorem PN{α β:Type}{f:α→β}{l:List α}{i:Int}{x:α}(h:cv l i=some x):cv (l.map f) i=some (f x):=by rw[Px,h];rfl
theorem UJ{α:Type}{l:List α}{i:Int}(h0:0≤i)(h1:i<l.length):∃x∈l,cv l i=some x:=by
 obtain⟨k,rfl⟩:=w4 h0;have hk:k<l.length:=by lia
 exact⟨l[k],List.getElem_mem hk,by rw[S9];exact fo hk⟩
theorem Pp(Hm:Γ "_law_mix" = some KR)(H:Γ "_law_term" = some W6)(hl:nm.length=4):∀(left:Nat) (ic:Int),∃t:Tm Str,t.Ok (·∈nm)∧t.dep≤left∧∀n m,BW W Γ (n+(left+2)) "_law_term" [.lst (nm.map .str),.int ic,.int left] m=some (dT t,m):=by
 intro left
 induction left with
 | zero=>
  intro ic;have r1:=IV ic 9887 (k:=997) (by lia);have r2:=IV ic 9883 (k:=4) (by lia);obtain⟨x,hx,ex⟩:=UJ (l:=nm) r2.1 (by lia)
  by_cases h:G5 ic 9901 9 % 3=0
  ·exact⟨.num (G5 ic 9887 997),r1,aT _,fun n m=>DN H rfl rfl (CJ (CG (K9 Hm (by decide) (by decide)) rfl) (GJ (Fb (JC (p:=((0:Nat):Int)=0) rfl rfl)) (GJ (JC rfl h) (CP (HB (BZ rfl (BZ (CG (K9 Hm (by decide) (by decide)) rfl) rfl)) (d6 rfl))))))⟩
  ·exact⟨.fi x,hx,aT _,fun n m=>DN H rfl rfl (CJ (CG (K9 Hm (by decide) (by decide)) rfl) (GJ (Fb (JC (p:=((0:Nat):Int)=0) rfl rfl)) (FQ (HS rfl h) (CP (HB (BZ rfl (BZ (LK rfl (CG (K9 Hm (by decide) (by decide)) rfl) (PN ex)) rfl)) (d6 rfl))))))⟩
 | succ left ih=>
  intro ic;have r1:=IV ic 9887 (k:=997) (by lia);have r2:=IV ic 9883 (k:=4) (by lia);have r3:=IV ic 9901 (k:=9) (by lia);obtain⟨x,hx,ex⟩:=UJ (l:=nm) r2.1 (by lia);obtain⟨a,ha,da,ea⟩:=ih (ic*3+1);obtain⟨b,hb,db,eb⟩:=ih (ic*5+2);have hz:¬(((left+1:Nat):Int)=0):=by lia
  have e0:∀(n:Nat) (m:Mem) {c p k:Int},0<p→0<k→BW W Γ (n+(left+2)) "_law_mix" [.int c,.int p,.int k] m=some (.int (G5 c p k),m):=fun n m _ _ _ hp hk=>K9 (n:=n+(left+1)) Hm hp hk
  have hs:((left+1:Nat):Int)-1=left:=by lia
  rw[←hs]at ea eb
  by_cases h3:G5 ic 9901 9<3
  ·by_cases h:G5 ic 9901 9 % 3=0
   ·exact⟨.num (G5 ic 9887 997),r1,eM _,fun n m=>DN (n:=n+(left+2)) H rfl rfl (CJ (CG (e0 n m (by decide) (by decide)) rfl) (GJ (lX (HS rfl hz) (JC rfl h3)) (GJ (JC rfl h) (CP (HB (BZ rfl (BZ (CG (e0 n m (by decide) (by decide)) rfl) rfl)) (d6 rfl))))))⟩
   ·exact⟨.fi x,hx,eM _,fun n m=>DN (n:=n+(left+2)) H rfl rfl (CJ (CG (e0 n m (by decide) (by decide)) rfl) (GJ (lX (HS rfl hz) (JC rfl h3)) (FQ (HS rfl h) (CP (HB (BZ rfl (BZ (LK rfl (CG (e0 n m (by decide) (by decide)) rfl) (PN ex)) rfl)) (d6 rfl))))))⟩
  ·have hq:∃o:Op,cv [D.str "sum",.str "times",.str "less"] (G5 ic 9901 9 % 3)=some (.str (Str.ofString (rq o))):=by
    have:G5 ic 9901 9 % 3=0∨G5 ic 9901 9 % 3=1∨G5 ic 9901 9 % 3=2:=by lia
    rcases this with e | e | e
    ·exact⟨.sum,by rw[e];rfl⟩
    ·exact⟨.times,by rw[e];rfl⟩
    ·exact⟨.less,by rw[e];rfl⟩
   obtain⟨o,eo⟩:=hq;refine⟨.bin o a b,⟨ha,hb⟩,?_,fun n m=>DN (n:=n+(left+2)) H rfl (N8 (.bin o a b)) (CJ (CG (e0 n m (by decide) (by decide)) rfl) (FQ (lX (HS rfl hz) (HS rfl h3)) (CJ (CG (ea n m) (vw (by decide) rfl rfl rfl)) (CP (HB (BZ (LK rfl rfl eo) (BZ rfl (BZ (CG (eb n m) (vw (by decide) rfl rfl rfl)) rfl))) (d6 rfl))))))⟩;simp only[Tm.dep];omega
theorem QV(H:Γ "_law_names_in" = some M6):∀{t:Tm Str} {n:Nat} {m:Mem},t.dep<n→t.dep≤8→t.names.length≤2 ^ t.dep∧BW W Γ n "_law_names_in" [dT t] m=some (.lst (t.names.map .str),m)
 | .num k,n+1,m,h,_=>⟨eM _,DN H rfl rfl (FQ (HS (p:=Str.ofString "number" = Str.ofString "name") rfl (eW (by decide))) (GJ (JC (p:=Str.ofString "number" = Str.ofString "number") rfl rfl) (CP rfl)))⟩
 | .fi x,n+1,m,h,_=>⟨aT _,DN H rfl rfl (GJ (JC (p:=Str.ofString "name" = Str.ofString "name") rfl rfl) (CP rfl))⟩
 | .bin o a b,n+1,m,h,h8=>by
  simp only[Tm.dep]at h h8;obtain⟨la,ea⟩:=QV H (t:=a) (n:=n) (m:=m) (by lia) (by lia);obtain⟨lb,eb⟩:=QV H (t:=b) (n:=n) (m:=m) (by lia) (by lia);have p1:2 ^ a.dep≤2 ^ (max a.dep b.dep):=Nat.pow_le_pow_right (by lia) (by lia);have p2:2 ^ b.dep≤2 ^ (max a.dep b.dep):=Nat.pow_le_pow_right (by lia) (by lia);have p3:2 ^ (max a.dep b.dep)≤2 ^ 7:=Nat.pow_le_pow_right (by lia) (by lia);have hl:(Tm.bin o a b).names.length≤2 ^ (max a.dep b.dep+1):=by
   simp only[Tm.names,fN,Nat.pow_succ];lia
  have cl:∀l:List Str,D.clean.cj (l.map .str)=true:=fun l=>by
   induction l with
   | nil=>rfl
   | cons a r ih=>exact ih
  have o1:rq o≠"name":=by cases o<;>decide
  have o2:rq o≠"number":=by cases o<;>decide
  refine⟨hl,DN H rfl (cl _) (FQ (HS rfl (eW o1)) (FQ (HS rfl (eW o2)) (CP ?_)))⟩;rw[show (Tm.bin o a b).names=a.names++b.names from rfl,ft];exact pH (CG ea rfl) (CG eb rfl) (by rw[a9,a9];lia)
noncomputable def DG(sn:List Str):List Key:=sn.map .inr
noncomputable def G7(sn:List Str)(f:Str→Int):List D:=sn.map fun x=>.int (f x)
theorem T3{f:Str→Int}{x:Str}:∀{sn:List Str},x∈sn→GC (DG sn) (G7 sn f) (.inr x)=some (.int (f x))
 | y::r,h=>by
  show (if (Sum.inr y:Key)=.inr x then some (D.int (f y)) else GC (DG r) (G7 r f) (.inr x))=_
  by_cases e:y=x
  ·subst e;rw[ag rfl]
  ·rw[ai (fun q=>e (iF q))]
   exact T3 ((cg h).resolve_left (fun q=>e q.symm))
mutual
noncomputable def dD:Dd Str→D
 | .put x t=>.tup [.str "put",.str x,dT t]
 | .cK l t=>.tup [.str "show",.int l,dT t]
 | .ite t b c=>.tup [.str "if",dT t,.tup (dB b),.tup (dB c)]
 | .bh t b=>.tup [.str "while",dT t,.tup (dB b)]
noncomputable def dB:Bl Str→List D
 | .nil=>[]
 | .cons d b=>dD d::dB b
end
theorem JF:∀b:Bl Str,dB b=b.list.map dD
 | .nil=>rfl
 | .cons d b=>by simp[dB,Bl.list,JF b]
theorem F4(l:List (Dd Str)):dB (Bl.of l)=l.map dD:=by rw[JF,Bl.El]
theorem Pn(a b:Bl Str):dB (a.app b)=dB a++dB b:=by rw[JF,JF,JF,Bl.Jd,ft]
mutual
theorem T8:∀d:Dd Str,(dD d).clean=true
 | .put x t=>by simp[dD,N8]
 | .cK l t=>by simp[dD,N8]
 | .ite t b c=>by simp[dD,N8,T9 b,T9 c]
 | .bh t b=>by simp[dD,N8,T9 b]
theorem T9:∀b:Bl Str,D.clean.cj (dB b)=true
 | .nil=>rfl
 | .cons d b=>by simp[dB,T8 d,T9 b]
end
theorem cR{P:Str→Prop}:∀{l:List (Dd Str)},(∀d∈l,d.Ok P)→(Bl.of l).Ok P
 | [],_=>trivial
 | d::r,h=>⟨h d bX,cR fun x hx=>h x (b8 _ hx)⟩
theorem XH{k:Nat}:∀{l:List (Dd Str)},(∀d∈l,d.dep≤k)→(Bl.of l).dep≤k
 | [],_=>eM _
 | d::r,h=>by
  have h1:=h d bX;have h2:=XH (k:=k) (l:=r) fun x hx=>h x (b8 _ hx)
  simp only[Bl.of,Bl.dep];omega
theorem V0{k:Nat}:∀{l:List (Dd Str)},(∀d∈l,d.size≤k)→(Bl.of l).size≤l.length*k
 | [],_=>eM _
 | d::r,h=>by
  have h1:=h d bX;have h2:=V0 (k:=k) (l:=r) fun x hx=>h x (b8 _ hx)
  simp only[Bl.of,Bl.size,kn,Nat.add_mul];lia
theorem fQ{P:Str→Prop}:∀{a b:Bl Str},a.Ok P→b.Ok P→(a.app b).Ok P
 | .nil,_,_,h=>h
 | .cons d a,b,h,g=>⟨h.1,fQ h.2 g⟩
theorem cU:∀{a b:Bl Str},(a.app b).dep=max a.dep b.dep
 | .nil,b=>by simp[Bl.app,Bl.dep]
 | .cons d a,b=>by simp only[Bl.app,Bl.dep,cU (a:=a)];exact(Nat.max_assoc _ _ _).symm
theorem YG:∀{a b:Bl Str},(a.app b).size=a.size+b.size
 | .nil,b=>by simp[Bl.app,Bl.size]
 | .cons d a,b=>by simp only[Bl.app,Bl.size,YG (a:=a)];lia
noncomputable def sz:Nat→Nat
 | 0=>1
 | d+1=>4*sz d+1
theorem xQ(d:Nat):1≤sz d:=by cases d<;>simp[sz]
theorem VL{x:Str}:∀{nm:List Str} {j:Nat},x∈nm→∃k,j≤k∧k<j+nm.length∧findD (.str x) (nm.map .str) j=some k
 | y::r,j,h=>by
  by_cases e:x=y
  ·exact⟨j,aT _,by simp,by simp[findD,inD,e]⟩
  ·obtain⟨k,h1,h2,h3⟩:=VL (nm:=r) (j:=j+1) ((cg h).resolve_left e)
   exact⟨k,by lia,by simp only[kn];lia,by simp[findD,inD,e,h3]⟩
theorem ET:∀{l:List Int} {a:Int},∃h,lM (a::l)=some h∧h∈a::l
 | [],a=>⟨a,rfl,bX⟩
 | b::r,a=>by
  obtain⟨h,e,hm⟩:=ET (l:=r) (a:=if b > a then b else a);refine⟨h,e,?_⟩;rcases cg hm with q | q
  ·rw[q]
   split<;>simp
  ·simp[q]
theorem Qh{l:List Int}(hl:l≠[])(h:∀x∈l,0≤x∧x<3):∃q,lM l=some q∧0≤q∧q<3:=by
 cases l with
 | nil=>exact absurd rfl hl
 | cons a r=>
  obtain⟨q,e,hm⟩:=ET (l:=r) (a:=a);exact⟨q,e,h q hm⟩
theorem ints_of(l:List Int):intsOf (l.map .int)=some l:=by
 induction l with
 | nil=>rfl
 | cons a r ih=>simp[intsOf,ih]
noncomputable def RX(nm:List Str)(lv:List Int)(x:Str):Int:=(cv lv ((findD (.str x) (nm.map .str) 0).getD 0:Nat)).getD 0
noncomputable def OD(nm:List Str)(lv:List Int)(bz:Bool):D:=.tup [.lst (nm.map .str),.lst (lv.map .int),.bl bz]
theorem eG(nm:List Str):(nm.map D.str).all D.flat=true:=by
 induction nm with
 | nil=>rfl
 | cons a r ih=>simp[D.flat]
noncomputable def KD:Nat→bp→bp
 | 0,s=>s
 | _+1,.nil=>.nil
 | n+1,.cons _ r=>KD n r
structure Plan(nm:List Str)(lv:List Int):Prop where
 n4:nm.length=4
 l4:lv.length=4
 lr:∀x∈lv,0≤x∧x<3
theorem EU(hp:Plan nm lv)(hx:x∈nm):∃k:Nat,findD (.str x) (nm.map .str) 0=some k∧cv lv k=some (RX nm lv x)∧0≤RX nm lv x∧RX nm lv x<3:=by
 obtain⟨k,_,h2,h3⟩:=VL (x:=x) (j:=0) hx;have h4:=hp.n4;have h5:=hp.l4;obtain⟨l,hl,el⟩:=UJ (l:=lv) (i:=k) (by lia) (by lia);have:RX nm lv x=l:=by simp only[RX,h3,Option.getD_some,el]
 exact⟨k,h3,by rw[el,this],by rw[this];exact hp.lr l hl⟩
theorem vK{C:String→List D→Mem→Option (D×Mem)}{m:Mem}{nm:List Str}{lv:List Int}(hp:Plan nm lv){t:Tm Str}(ht:t.Ok (·∈nm))(hl:t.names.length≤1000)(hn:C "_law_names_in" [dT t] m=some (.lst (t.names.map .str),m)){x0 x1 x2 x3 x6 x8 x9 yx yy yz yA:Option D}:
  ev C (.comp false 1 (.nm 14) (.seq (.call "_law_names_in" (.cons (.var 7) .nil))) .tt (.ix (.var 5) (.index (.var 4) (.var 14)))) [x0,x1,x2,x3,some (.lst (nm.map .str)),some (.lst (lv.map .int)),x6,some (dT t),x8,x9,yx,yy,yz,yA] m=some (.lst ((t.names.map (RX nm lv)).map .int),m):=by
 rw[K1 (xs:=t.names.map .str) (fun d=>match d with | .str x=>.int (RX nm lv x) | _=>.ao) rfl (N6 (CG hn rfl)) (by rw[a9];exact hl)]
 ·rw[df,df];rfl
 ·intro d hd
  obtain⟨x,hx,rfl⟩:=dg hd;obtain⟨k,e1,e2,_⟩:=EU hp (ht.names x hx);refine⟨[x0,x1,x2,x3,some (.lst (nm.map .str)),some (.lst (lv.map .int)),x6,some (dT t),x8,x9,yx,yy,yz,yA,some (.str x)],rfl,rfl,LK rfl (KP rfl rfl rfl ?_ e1) (PN e2)⟩;rw[eG,a9,hp.n4];rfl
noncomputable def XQ(lv:List Int)(high:Int)(bz:Bool):List Nat:=(List.range 4).filter fun j=>decide (high≤lv.getD j 0)||!bz
theorem MX{C:String→List D→Mem→Option (D×Mem)}{m:Mem}{lv:List Int}(hl:lv.length=4){high:Int}{bz:Bool}{x0 x1 x2 x3 x4 x7 x9 yx yy yz yA:Option D}:
  ev C (.comp false 1 (.nm 14) (.iw (.con (.int 4))) (.or (.val (.cmp .ge (.ix (.var 5) (.var 14)) (.var 8))) (.not (.val (.var 6)))) (.var 14)) [x0,x1,x2,x3,x4,some (.lst (lv.map .int)),some (.bl bz),x7,some (.int high),x9,yx,yy,yz,yA] m=some (.lst ((XQ lv high bz).map fun(j:Nat)=>.int j),m):=by
 rw[iW (xs:=(List.range 4).map fun(i:Nat)=>.int i) (h:=fun d=>match d with | .int j=>if decide (high≤lv.getD j.toNat 0)||!bz then some (.int j) else none | _=>none) rfl rfl (d6 rfl)]
 ·simp only[XQ,List.filterMap_map,Function.comp_def,Int.toNat_natCast]
  rw[←qB,List.filterMap_filter]
 ·intro d hd
  obtain⟨j,hj,rfl⟩:=dg hd;have hj:j<lv.length:=by have:=List.mem_range.mp hj;lia
  have ha:cv lv (j:Int)=some (lv.getD j 0):=by rw[S9,List.getD_eq_getElem?_getD,fo hj];rfl
  refine⟨[x0,x1,x2,x3,x4,some (.lst (lv.map .int)),some (.bl bz),x7,some (.int high),x9,yx,yy,yz,yA,some (.int j)],decide (high≤lv.getD j 0)||!bz,rfl,pI (G3 (HD (LK rfl rfl (PN ha)) rfl rfl) rfl) rfl,?_⟩;show if (decide (high≤lv.getD j 0)||!bz)=true then ((if (decide (high≤lv.getD j 0)||!bz)=true then some (D.int j) else none).isSome=true∧_=some ((if (decide (high≤lv.getD j 0)||!bz)=true then some (D.int j) else none).getD .ao,m)) else (if (decide (high≤lv.getD j 0)||!bz)=true then some (D.int j) else none)=none
  cases (decide (high≤lv.getD j 0)||!bz)
  ·exact rfl
  ·exact⟨rfl,rfl⟩
def pW(Γ:String→Option Fn)(W:Nat)(nm:List Str)(lv:List Int)(bz:Bool)(deep:Nat):Prop:=∀(cell need:Int),0≤need→need<3→∃d:Dd Str,d.Ok (·∈nm)∧d.dep≤deep+2∧d.size≤sz deep∧∀n m,BW W Γ (n+(2*deep+5)) "_law_deed" [OD nm lv bz,.int cell,.int deep,.int need] m=some (dD d,m)
def u0(Γ:String→Option Fn)(W:Nat)(nm:List Str)(lv:List Int)(bz:Bool)(deep:Nat):Prop:=∀(cell need:Int),0≤need→need<3→∃b:Bl Str,b.Ok (·∈nm)∧b.dep≤deep+2∧b.size≤2*sz deep∧b.list.length≤2∧∀n m,BW W Γ (n+(2*deep+6)) "_law_block" [OD nm lv bz,.int cell,.int deep,.int need] m=some (.tup (dB b),m)
theorem Nx(Hm:Γ "_law_mix" = some KR)(H:Γ "_law_block" = some W7){bz:Bool}{deep:Nat}(hd:pW Γ W nm lv bz deep):u0 Γ W nm lv bz deep:=by
 intro cell need n0 n3;have fS:=fun c=>hd c need n0 n3
 let g:Int→Dd Str:=fun c=>Classical.choose (fS c)
 have hg:∀c,(g c).Ok (·∈nm)∧(g c).dep≤deep+2∧(g c).size≤sz deep∧∀n m,BW W Γ (n+(2*deep+5)) "_law_deed" [OD nm lv bz,.int c,.int deep,.int need] m=some (dD (g c),m):=fun c=>Classical.choose_spec (fS c)
 have r1:=IV cell 9839 (k:=2) (by omega);have r2:0<1+G5 cell 9839 2∧1+G5 cell 9839 2<3:=by omega
 refine⟨Bl.of ((List.range (1+G5 cell 9839 2).toNat).map fun(j:Nat)=>g (cell*7+11*j)),?_,?_,?_,by rw[Bl.El];simp;omega,fun n m=>?_⟩
 ·refine cR fun d h=>?_
  obtain⟨j,_,rfl⟩:=dg h;exact(hg _).1
 ·refine XH fun d h=>?_
  obtain⟨j,_,rfl⟩:=dg h;exact(hg _).2.1
 ·refine eR (V0 (k:=sz deep) fun d h=>?_) (Nat.mul_le_mul_right _ (by simp;omega))
  obtain⟨j,_,rfl⟩:=dg h;exact(hg _).2.2.1
 ·refine DN (n:=n+(2*deep+5)) H rfl (T9 _) ?_
  have e0:∀{c p k:Int},0<p→0<k→BW W Γ (n+(2*deep+5)) "_law_mix" [.int c,.int p,.int k] m=some (.int (G5 c p k),m):=fun hp hk=>K9 (n:=n+(2*deep+4)) Hm hp hk
  have comp:ev (BW W Γ (n+(2*deep+5))) (.comp false 1 (.nm 5) (.iw (.var 4)) .tt (.call "_law_deed" (.cons (.var 0) (.cons (.bin .add (.bin .mul (.var 1) (.con (.int 7))) (.bin .mul (.con (.int 11)) (.var 5))) (.cons (.var 2) (.cons (.var 3) .nil)))))) [some (OD nm lv bz),some (.int cell),some (.int deep),some (.int need),some (.int (1+G5 cell 9839 2))] m=some (.lst (dB (Bl.of ((List.range (1+G5 cell 9839 2).toNat).map fun(j:Nat)=>g (cell*7+11*j)))),m):=by
   rw[K1 (xs:=(List.range (1+G5 cell 9839 2).toNat).map fun(i:Nat)=>.int i) (fun d=>match d with | .int j=>dD (g (cell*7+11*j)) | _=>.ao) rfl (Fd rfl (by omega)) (by rw[a9,List.length_range];omega)]
   ·simp[F4,Function.comp_def]
   ·intro d hd
    obtain⟨j,hj,rfl⟩:=dg hd;exact⟨[some (OD nm lv bz),some (.int cell),some (.int deep),some (.int need),some (.int (1+G5 cell 9839 2)),some (.int j)],rfl,rfl,CG ((hg _).2.2.2 n m) (BZ rfl (BZ (EY (EY rfl rfl (W0 (by decide))) (EY rfl rfl (QG (by decide))) rfl) rfl))⟩
  exact CJ (EY rfl (CG (e0 (by decide) (by decide)) rfl) rfl) (CP (GD comp rfl))
theorem MA{l:List Int}{q:Int}(h:lM l=some q):cy .max (.lst (l.map .int)) m=some (.int q,m):=by
 show ((intsOf (l.map D.int)).bind fun ns=>(lM ns).map fun x=>(D.int x,m))=_;rw[ints_of,bq,h];rfl
noncomputable def EG(nm:List Str)(lv:List Int)(bz:Bool)(cell:Int)(deep:Nat)(need:Int)(t:Tm Str)(high:Int):DS:=[some (OD nm lv bz),some (.int cell),some (.int deep),some (.int need),some (.lst (nm.map .str)),some (.lst (lv.map .int)),some (.bl bz),some (dT t),some (.int high),some (.int (G5 cell 9871 9)),none,none,none,none]
theorem sX(Hm:Γ "_law_mix" = some KR)(Ht:Γ "_law_term" = some W6)(Hi:Γ "_law_names_in" = some M6)(H:Γ "_law_deed" = some zu)(hp:Plan nm lv){bz:Bool}{deep:Nat}(SK:∀d,deep=d+1→u0 Γ W nm lv bz d):pW Γ W nm lv bz deep:=by
 intro cell need n0 n3;have TH:1+cell % 2=((1+(cell % 2).toNat:Nat):Int):=by lia
 obtain⟨t,ht,dt,et⟩:=Pp (W:=W) Hm Ht (nm:=nm) hp.n4 (1+(cell % 2).toNat) cell;rw[←TH]at et;have CC:t.dep≤2:=by lia
 obtain⟨high,eh,h0,h3⟩:=Qh (l:=t.names.map (RX nm lv)++[need]) (by simp) (fun x hx=>by
  rcases de hx with hx | hx
  ·obtain⟨y,hy,rfl⟩:=dg hx
   obtain⟨_,_,_,q⟩:=EU hp (ht.names y hy);exact q
  ·rw[fg hx];exact⟨n0,n3⟩)
 have e0:∀(n:Nat) (m:Mem) {c p k:Int},0<p→0<k→BW W Γ (n+(2*deep+4)) "_law_mix" [.int c,.int p,.int k] m=some (.int (G5 c p k),m):=fun n m _ _ _ hp hk=>K9 (n:=n+(2*deep+3)) Hm hp hk
 have e1:∀(n:Nat) (m:Mem),BW W Γ (n+(2*deep+4)) "_law_term" [.lst (nm.map .str),.int cell,.int (1+cell % 2)] m=some (dT t,m):=fun n m=>by
  have:=et (n+(2*deep+4)-(1+(cell % 2).toNat+2)) m;rw[show n+(2*deep+4)-(1+(cell % 2).toNat+2)+(1+(cell % 2).toNat+2)=n+(2*deep+4) from by lia]at this;exact this
 have e2:∀(n:Nat) (m:Mem),BW W Γ (n+(2*deep+4)) "_law_names_in" [dT t] m=some (.lst (t.names.map .str),m):=fun n m=>(QV Hi (by lia) (by lia)).2
 have l0:t.names.length≤9:=by
  have:=(QV (W:=W) (n:=20) (m:=[]) Hi (t:=t) (by lia) (by lia)).1;have:2 ^ t.dep≤2 ^ 2:=Nat.pow_le_pow_right (by lia) CC;lia
 have e3:=fun n m=>@vK (BW W Γ (n+(2*deep+4))) m nm lv hp t ht (by lia) (e2 n m)
 have e4:∀m,cy .max (.lst ((t.names.map (RX nm lv)).map .int++[.int need])) m=some (.int high,m):=fun m=>by
  have:=MA (m:=m) eh;rw[ft]at this;exact this
 have l1:((t.names.map (RX nm lv)).map D.int).length≤9:=by simpa using l0
 generalize (t.names.map (RX nm lv)).map D.int=L at e3 e4 l1;have l2:L.length≤9999:=by lia
 have e5:=fun n m=>@MX (BW W Γ (n+(2*deep+4))) m lv hp.l4 high bz
 have r0:=IV cell 9871 (k:=9) (by lia);have r1:=IV cell 9851 (k:=3) (by lia);have cD:∀(n:Nat) (m:Mem) (d:Dd Str),aE (BW W Γ (n+(2*deep+4))) W QX [some (OD nm lv bz),some (.int cell),some (.int deep),some (.int need),none,none,none,none,none,none,none,none,none,none] m=some (.rt (dD d),m)→BW W Γ (n+(2*deep+5)) "_law_deed" [OD nm lv bz,.int cell,.int deep,.int need] m=some (dD d,m):=fun n m d h=>DN (n:=n+(2*deep+4)) H rfl (T8 d) h
 have pre:∀(n:Nat) (m:Mem) {X},aE (BW W Γ (n+(2*deep+4))) W (KD 4 QX) (EG nm lv bz cell deep need t high) m=X→aE (BW W Γ (n+(2*deep+4))) W QX [some (OD nm lv bz),some (.int cell),some (.int deep),some (.int need),none,none,none,none,none,none,none,none,none,none] m=X:=fun n m _ k=>
  NL (d:=OD nm lv bz) (σ':=[some (OD nm lv bz),some (.int cell),some (.int deep),some (.int need),some (.lst (nm.map .str)),some (.lst (lv.map .int)),some (.bl bz),none,none,none,none,none,none,none]) rfl rfl (CJ (CG (e1 n m) rfl) (CJ (GD (pH (e3 n m) rfl (Nat.succ_le_succ l2)) (e4 m)) (CJ (CG (e0 n m (by decide) (by decide)) rfl) k)))
 have cd:(∀(n:Nat) (m:Mem) {X},aE (BW W Γ (n+(2*deep+4))) W (KD 6 QX) (EG nm lv bz cell deep need t high) m=X→aE (BW W Γ (n+(2*deep+4))) W (KD 4 QX) (EG nm lv bz cell deep need t high) m=X)→∃d:Dd Str,d.Ok (·∈nm)∧d.dep≤deep+2∧d.size≤sz deep∧∀n m,BW W Γ (n+(2*deep+5)) "_law_deed" [OD nm lv bz,.int cell,.int deep,.int need] m=some (dD d,m):=by
  intro IM;have IJ:=xQ deep
  by_cases hc:G5 cell 9871 9<7∧XQ lv high bz≠[]
  ·obtain⟨h7,c9⟩:=hc
   have Iv:=List.length_pos_iff.mpr c9;have hlen:0<((XQ lv high bz).length:Int):=by lia
   have r2:=IV cell 9857 hlen;obtain⟨j,hj,ej⟩:=UJ (l:=XQ lv high bz) r2.1 r2.2;have Yi:j<4:=List.mem_range.mp (oS hj).1;have Ar:=hp.n4;obtain⟨x,hx,ex⟩:=UJ (l:=nm) (i:=j) (by lia) (by lia);refine⟨.put x t,⟨hx,ht⟩,Nat.le_add_left_of_le CC,IJ,fun n m=>cD n m _ (pre n m (IM n m (CJ (e5 n m) (GJ (O5 (JC (p:=G5 cell 9871 9<7) rfl h7) (G3 (d:=.lst ((XQ lv high bz).map fun(j:Nat)=>.int j)) rfl (NR fun h=>c9 (List.map_eq_nil_iff.mp h)))) (CP (HB (xs:=[.str "put",.str x,dT t]) (BZ rfl (BZ (LK rfl (LK rfl (CG (e0 n m (c:=cell) (p:=9857) (by decide) hlen) (by rw[←a9 (f:=fun(j:Nat)=>D.int j)];rfl)) (PN ej)) (PN ex)) rfl)) (d6 rfl)))))))⟩
  ·refine⟨.cK (if high*(if bz then 1 else 0) > G5 cell 9851 3 then high*(if bz then 1 else 0) else G5 cell 9851 3) t,⟨?_,ht⟩,Nat.le_add_left_of_le CC,IJ,fun n m=>cD n m _ (pre n m (IM n m (CJ (e5 n m) (FQ ?_ (CP (HB (BZ rfl (BZ (rO (CG (e0 n m (by decide) (by decide)) rfl) (EY rfl rfl (QG (by lia)))) rfl)) (d6 rfl)))))))⟩
   ·cases bz<;>simp<;>split<;>lia
   ·by_cases h7:G5 cell 9871 9<7
    ·have he:XQ lv high bz=[]:=Classical.byContradiction fun q=>hc ⟨h7,q⟩
     exact O5 (JC (p:=G5 cell 9871 9<7) rfl h7) (G3 (d:=.lst ((XQ lv high bz).map fun(j:Nat)=>.int j)) rfl (by rw[he];rfl))
    ·exact T7 (HS (p:=G5 cell 9871 9<7) rfl h7)
 cases deep with
 | zero=>exact cd fun n m _ k=>FQ (T7 (HS (p:=(0:Int)<0) rfl (by decide))) (FQ (T7 (HS (p:=(0:Int)<0) rfl (by decide))) k)
 | succ d=>
  have hb:=SK d rfl;have hs:((d+1:Nat):Int)-1=d:=by lia
  have hz:(0:Int)<((d+1:Nat):Int):=by lia
  have Yw:=xQ d
  by_cases h2:G5 cell 9871 9<2
  ·obtain⟨b,ob,db,sb,lb,eb⟩:=hb (cell*3+1) high h0 h3
   obtain⟨c,oc,dc,sc,lc,ec⟩:=hb (cell*5+2) high h0 h3;rw[←hs]at eb ec;refine⟨.ite t b c,⟨ht,ob,oc⟩,by simp only[Dd.dep];omega,by simp only[Dd.size,sz];omega,fun n m=>cD n m _ (pre n m (GJ (O5 (JC rfl hz) (JC rfl h2)) (CJ (CG (eb n m) (vw (by decide) rfl rfl rfl)) (CP (HB (BZ rfl (BZ rfl (BZ rfl (BZ (CG (ec n m) (vw (by decide) rfl rfl rfl)) rfl)))) (d6 rfl))))))⟩
  ·by_cases h4:G5 cell 9871 9<4∧(need=0∨bz=false)
   ·obtain⟨h4,xy⟩:=h4
    obtain⟨b,ob,db,sb,lb,eb⟩:=hb (cell*3+1) need n0 n3;rw[←hs]at eb;have Ar:=hp.n4;obtain⟨x,hx,ex⟩:=UJ (l:=nm) (i:=0) (by lia) (by lia);have r2:=IV cell 9859 (k:=6) (by lia);have CM:cv (nm.map D.str) 0=some (.str x):=PN ex;have hD:∀u:Tm Str,dD (.bh u (b.app (.cons (.put x (.bin .sum (.fi x) (.num 1))) .nil)))=.tup [.str "while",dT u,.tup (dB b++[dD (.put x (.bin .sum (.fi x) (.num 1)))])]:=fun u=>by
     show D.tup [_,_,.tup (dB _)]=_;rw[Pn];rfl
    have hl:(dB b).length+1≤10000:=by rw[JF,a9];lia
    have Ue:(decide (need=0)||!bz)=true:=by rcases xy with h | h<;>simp[h]
    refine⟨.bh (if bz then .bin .less (.fi x) (.num (G5 cell 9859 6)) else t) (b.app (.cons (.put x (.bin .sum (.fi x) (.num 1))) .nil)),⟨?_,?_⟩,?_,?_,fun n m=>cD n m _ (pre n m (FQ (O5 (JC rfl hz) (HS rfl h2)) (GJ (O5 (JC rfl hz) (O5 (JC rfl h4) (Gu (pI rfl rfl) Ue))) (CJ (d:=dD (.put x (.bin .sum (.fi x) (.num 1)))) (HB (BZ rfl (BZ (LK rfl rfl CM) (BZ (HB (BZ rfl (BZ (HB (BZ rfl (BZ (LK rfl rfl CM) rfl)) (d6 rfl)) rfl)) (d6 rfl)) rfl))) (d6 rfl)) (CJ (CG (eb n m) (vw (by decide) rfl rfl rfl)) ?_)))))⟩
    ·cases bz
     ·exact ht
     ·exact⟨hx,by constructor<;>lia⟩
    ·exact fQ ob ⟨⟨hx,hx,by constructor<;>lia⟩,trivial⟩
    ·simp only[Dd.dep,cU,Bl.dep,Tm.dep]
     cases bz<;>simp[Tm.dep]<;>omega
    ·simp only[Dd.size,YG,Bl.size,sz]
     lia
    ·rw[hD]
     cases bz
     ·exact FQ rfl (CP (HB (BZ rfl (BZ rfl (BZ (EY (d2:=.tup [dD (.put x (.bin .sum (.fi x) (.num 1)))]) rfl rfl (NK hl)) rfl))) (d6 rfl)))
     ·exact JQ rfl (CJ (HB (BZ rfl (BZ (HB (BZ rfl (BZ (LK rfl rfl CM) rfl)) (d6 rfl)) (BZ (HB (BZ rfl (BZ (CG (e0 n m (by decide) (by decide)) rfl) rfl)) (d6 rfl)) rfl))) (d6 rfl)) rfl) (CP (HB (BZ rfl (BZ rfl (BZ (EY (d2:=.tup [dD (.put x (.bin .sum (.fi x) (.num 1)))]) rfl rfl (NK hl)) rfl))) (d6 rfl)))
   ·refine cd fun n m _ k=>FQ (O5 (JC rfl hz) (HS rfl h2)) (FQ (O5 (JC rfl hz) ?_) k)
    by_cases Aa:G5 cell 9871 9<4
    ·have hn:¬need=0:=fun q=>h4 ⟨Aa,Or.inl q⟩
     have hh:bz=true:=by
      cases bz with
      | true=>rfl
      | false=>exact absurd ⟨Aa,Or.inr rfl⟩ h4
     exact O5 (JC rfl Aa) (Gu (pI rfl rfl) (by rw[hh,dm hn];rfl))
    ·exact T7 (HS rfl Aa)
theorem Pu(Hm:Γ "_law_mix" = some KR)(Ht:Γ "_law_term" = some W6)(Hi:Γ "_law_names_in" = some M6)(Hb:Γ "_law_block" = some W7)(H:Γ "_law_deed" = some zu)(hp:Plan nm lv){bz:Bool}:∀deep:Nat,pW Γ W nm lv bz deep:=by
 intro deep
 induction deep with
 | zero=>exact sX Hm Ht Hi H hp fun d h=>by cases h
 | succ d ih=>exact sX Hm Ht Hi H hp fun e h=>by cases h;exact Nx Hm Hb ih
noncomputable def oi(p:Int×Int):D:=.tup [.int p.1,.int p.2]
noncomputable def Ga:bp→bp
 | .cons (.bh _ b) _=>b
 | s=>s
noncomputable def bN:bp:=Ga (KD 2 UG)
noncomputable def mm(sn:List Str)(s:S Str):Mem:=[.aq (DG sn) (G7 sn s.f),.lst (s.sh.map oi),.lst ((s.st.map dD).reverse)]
theorem jF{x:Str}:∀{sn:List Str},x∈sn→((DG sn).any fun k=>decide (k=.inr x))=true
 | y::r,h=>by
  show (decide ((Sum.inr y:Key)=.inr x)||(DG r).any fun k=>decide (k=.inr x))=true;rcases cg h with e | e
  ·subst e;simp
  ·rw[jF e];simp
theorem yQ{x:Str}{f:Str→Int}{v:Int}:∀{sn:List Str},gQ (DG sn) (G7 sn f) (.inr x) (.int v)=G7 sn (JV f x v)
 | []=>rfl
 | y::r=>by
  show (if (Sum.inr y:Key)=.inr x then D.int v else .int (f y))::gQ (DG r) (G7 r f) (.inr x) (.int v)=.int (if y=x then v else f y)::G7 r (JV f x v);rw[yQ]
  by_cases e:y=x
  ·subst e;simp
  ·rw[ai (fun q=>e (iF q)),ai e]
theorem zA(h:x∈sn):putD (DG sn) (G7 sn f) (.inr x) (.int v)=(DG sn,G7 sn (JV f x v)):=by
 rw[putD,ag (jF h),yQ]
theorem Og(hf:∀x,0≤f x∧f x<997)(hv:0≤v∧v<997):∀y,0≤JV f x v y∧JV f x v y<997:=fun y=>by
 unfold JV;split
 ·exact hv
 ·exact hf y
noncomputable def f7(M:Nat)(most:Int)(s:S Str):Nat:=gx s.st+(most-s.t).toNat*M
theorem X5:∀l:List (Dd Str),l.length≤gx l
 | []=>aT _
 | d::r=>by
  have:=X5 r;have:=d.size_pos;simp only[kn,gx];lia
structure zf(sn:List Str)(K M:Nat)(s:S Str):Prop where
 ok:∀d∈s.st,d.Ok (·∈sn)∧d.dep≤K∧d.size≤M
 fr:∀x,0≤s.f x∧s.f x<997
theorem bT{K M:Nat}{b:Bl Str}(ho:b.Ok (·∈sn))(hd:b.dep≤K)(hs:b.size≤M):∀d∈b.list,d.Ok (·∈sn)∧d.dep≤K∧d.size≤M:=fun d h=>
 ⟨ho.mem d h,eR (Bl.CA h) hd,eR (jQ h) (by rw[HY];exact hs)⟩
theorem eV(l:List (Dd Str)):D.clean.cj ((l.map dD).reverse)=true:=by
 have:∀l:List D,(∀d∈l,d.clean=true)→D.clean.cj l=true:=fun l=>by
  induction l with
  | nil=>exact fun _=>rfl
  | cons a r ih=>exact fun h=>by simp[h a bX,ih fun d hd=>h d (b8 _ hd)]
 refine this _ fun d hd=>?_
 obtain⟨e,_,rfl⟩:=dg (List.mem_reverse.mp hd);exact T8 e
noncomputable def sa:Option Int→D
 | some T=>.int T
 | none=>.ao
noncomputable def RL(sn:List Str)(f:Str→Int):List D:=((DQ sn).filter fun x=>f x≠0).map fun x=>.tup [.str x,.int (f x)]
theorem gZ:∀{r:List Key} {q:List D} {ks:List Key} {vs:List D},r.length=q.length→r.Nodup→(∀k∈r,k∉ks)→FP ks vs r q=(ks++r,vs++q)
 | [],[],ks,vs,_,_,_=>by simp[FP]
 | k::r,v::q,ks,vs,hl,hn,hd=>by
  have hk:(ks.any fun x=>decide (x=k))=false:=by
   rw[List.any_eq_false];intro x hx e;exact hd k bX (by simpa using (gq e)▸hx)
  have e:putD ks vs k v=(ks++[k],vs++[v]):=by rw[putD,hk];rfl
  rw[FP,e];rw[gZ (by simpa using hl) (nu hn).2 (fun x hx q=>by
   rcases de q with q | q
   ·exact hd x (b8 _ hx) q
   ·rw[fg q]at hx
    exact(nu hn).1 hx)]
  simp
noncomputable def CN(sn:List Str)(f:Str→Int):List D:=sn.map fun x=>.tup [.str x,.int (f x)]
theorem QF{f:Str→Int}:∀sn:List Str,pairsOf (CN sn f)=some (DG sn,G7 sn f)
 | []=>rfl
 | x::r=>by
  have ih:=QF (f:=f) r;simp only[CN,ck]at ih ⊢;simp only[pairsOf,MF,ih];rfl
noncomputable def WR(sn:List Str)(r:R Str):D:=.tup [sa r.t,.tup (RL sn r.f),.tup [.tup ((gT r.sh 0).map .int),.tup ((gT r.sh 1).map .int),.tup ((gT r.sh 2).map .int)]]
theorem GU(l:List Int):D.clean.cj (l.map .int)=true:=by
 induction l with
 | nil=>rfl
 | cons a r ih=>simp[ih]
theorem K8(l:List Str)(f:Str→Int):D.clean.cj (l.map fun x=>.tup [.str x,.int (f x)])=true:=by
 induction l with
 | nil=>rfl
 | cons a r ih=>simp[ih]
theorem vV(sn:List Str)(r:R Str):(WR sn r).clean=true:=by
 have:=K8 ((DQ sn).filter fun x=>r.f x≠0) r.f;cases h:r.t<;>simp[WR,sa,h,GU,RL,this]<;>exact(by simpa using this)
structure BE(Γ:String→Option Fn):Prop where
 Vw:Γ "number_of" = some K3
 Ry:Γ "do_deeds" = some ou
 VQ:Γ "page_of" = some XF
 WE:Γ "store_of" = some UL
 run:Γ "run" = some F9
structure HasP(Γ:String→Option Fn):Prop where
 cell:Γ "_law_cell" = some TF
 mix:Γ "_law_mix" = some KR
 name:Γ "_law_name" = some zt
 names:Γ "_law_names" = some cO
 levels:Γ "_law_levels" = some XD
 term:Γ "_law_term" = some W6
 Vm:Γ "_law_names_in" = some M6
 Rw:Γ "_law_deed" = some zu
 block:Γ "_law_block" = some W7
 program:Γ "_law_program" = some cN
structure BF(Γ:String→Option Fn):Prop extends HasP Γ where
 store:Γ "_law_store" = some nH
noncomputable def S7(ns:List Int)(lo hi:Option Int):List Int:=(ns.drop (HT.bj ns.length 0 lo)).take (HT.bj ns.length ns.length hi-HT.bj ns.length 0 lo)
theorem sH(ns:List Int)(lo hi:Option Int):cutD (ns.map .int) lo hi=(S7 ns lo hi).map .int:=by
 simp only[WL.cutD,S7,a9,List.map_take,List.map_drop]
theorem sI(ns:List Int){a b:Int}(ha:0≤a)(hb:a≤b):(S7 ns (some a) (some b)).length≤(b-a).toNat:=by
 obtain⟨i,rfl⟩:=w4 ha;obtain⟨j,rfl⟩:=w4 (show 0≤b by omega);simp only[S7,HT.Wm,List.length_take,List.length_drop];omega
theorem OE(c d:Int):Plan (JT c) (T4 d):=⟨rfl,rfl,Kx d⟩
theorem wC(H:HasP Γ){k:Nat}:∃pg:Bl Str,pg.Ok (·∈JT (DY ns 0))∧pg.dep≤4∧pg.size≤63∧∀n m,BW W Γ (n+10) "_law_program" [.b6 ns,.int k] m=some (.tup (dB pg),m):=by
 have xn:=Pu (W:=W) H.mix H.term H.Vm H.block H.Rw (OE (DY ns 0) (DY ns 1)) (bz:=decide (0<G5 (DY ns 0) 9833 4)) 2;have fS:=fun c=>xn c 0 (by lia) (by lia)
 let g:Int→Dd Str:=fun c=>Classical.choose (fS c)
 have hg:=fun c=>Classical.choose_spec (fS c)
 have cm:=sI ns (a:=k) (b:=k+1+DY ns 0 % 3) (by lia) (by lia);have X9:(S7 ns (some k) (some (k+1+DY ns 0 % 3))).length≤3:=by lia
 refine⟨Bl.of ((S7 ns (some k) (some (k+1+DY ns 0 % 3))).map g),?_,?_,?_,fun n m=>?_⟩
 ·refine cR fun d h=>?_
  obtain⟨j,_,rfl⟩:=dg h;exact(hg j).1
 ·refine XH fun d h=>?_
  obtain⟨j,_,rfl⟩:=dg h;exact(hg j).2.1
 ·refine eR (V0 (k:=21) fun d h=>?_) ?_
  ·obtain⟨j,_,rfl⟩:=dg h
   exact(hg j).2.2.1
  ·rw[a9];lia
 ·refine DN (n:=n+9) H.program rfl (T9 _) ?_
  have hc:=bM (W:=W) (n:=n+8) (m:=m) H.cell (ns:=ns) (k:=0);rw[Int.natCast_zero]at hc;have hm:∀{c p k:Int},0<p→0<k→BW W Γ (n+9) "_law_mix" [.int c,.int p,.int k] m=some (.int (G5 c p k),m):=fun hp hk=>K9 (n:=n+8) H.mix hp hk
  have hn:=jC (W:=W) (n:=n+6) (m:=m) H.mix H.cell H.name H.names (ns:=ns);have hl:=Lc (W:=W) (n:=n+7) (m:=m) H.mix H.cell H.levels (ns:=ns);have xE:qf (.b6 ns) (some k) (some (k+1+DY ns 0 % 3))=some (.lst ((S7 ns (some k) (some (k+1+DY ns 0 % 3))).map .int)):=by
   show some (D.lst (cutD (ns.map .int) _ _))=_;rw[sH]
  have comp:∀x,ev (BW W Γ (n+9)) (.comp false 1 (.nm 5) (.seq (.var 4)) .tt (.call "_law_deed" (.cons (.var 3) (.cons (.var 5) (.cons (.con (.int 2)) (.cons (.con (.int 0)) .nil)))))) [some (.b6 ns),some (.int k),x,some (OD (JT (DY ns 0)) (T4 (DY ns 1)) (decide (0<G5 (DY ns 0) 9833 4))),some (.lst ((S7 ns (some k) (some (k+1+DY ns 0 % 3))).map .int))] m=some (.lst (dB (Bl.of ((S7 ns (some k) (some (k+1+DY ns 0 % 3))).map g))),m):=by
   intro x;rw[K1 (xs:=(S7 ns (some k) (some (k+1+DY ns 0 % 3))).map .int) (fun d=>match d with | .int j=>dD (g j) | _=>.ao) rfl rfl (by rw[a9];lia)]
   ·rw[F4,df,df];rfl
   ·intro d hd
    obtain⟨j,hj,rfl⟩:=dg hd;refine⟨[some (.b6 ns),some (.int k),x,some (OD (JT (DY ns 0)) (T4 (DY ns 1)) (decide (0<G5 (DY ns 0) 9833 4))),some (.lst ((S7 ns (some k) (some (k+1+DY ns 0 % 3))).map .int)),some (.int j)],rfl,rfl,CG ((hg j).2.2.2 n m) rfl⟩
  exact CJ (HD (CG (hm (by decide) (by decide)) (BZ (CG hc rfl) rfl)) rfl rfl) (CJ (HB (BZ (CG hn rfl) (BZ (CG hl rfl) rfl)) (d6 rfl)) (CJ (rM rfl rfl (Bk (EY rfl (EY (CG hc rfl) rfl (PK (by decide))) rfl)) xE) (CP (GD (comp _) rfl))))
noncomputable def IK(c:Int)(j:Nat):Int:=if c % 4=0 then G5 (c+13*j) 9829 997 % 3 else G5 (c+13*j) 9829 997
theorem Qf(c:Int)(j:Nat):0≤IK c j∧IK c j<997:=by
 have:=IV (c+13*j) 9829 (k:=997) (by lia);unfold IK;split<;>lia
noncomputable def gL(q c:Int)(x:Str):Int:=if x=DW q 0 then IK c 0 else if x=DW q 1 then IK c 1 else if x=DW q 2 then IK c 2 else IK c 3
theorem QY(q c:Int)(x:Str):0≤gL q c x∧gL q c x<997:=by
 unfold gL
 repeat' split
 all_goals exact Qf _ _
noncomputable def lh(q c:Int):List Str:=(J0 [(DW q 0,IK c 0),(DW q 1,IK c 1),(DW q 2,IK c 2),(DW q 3,IK c 3)]).map (·.1)
theorem LB(q c:Int):(lh q c).Perm (JT q):=List.Perm.map (fun p:Str×Int=>p.1) (ir [(DW q 0,IK c 0),(DW q 1,IK c 1),(DW q 2,IK c 2),(DW q 3,IK c 3)] fun p q=>FT p.1 q.1)
theorem yF(q c:Int):(J0 [(DW q 0,IK c 0),(DW q 1,IK c 1),(DW q 2,IK c 2),(DW q 3,IK c 3)]).map QC=CN (lh q c) (gL q c):=by
 unfold CN lh;rw[df];refine jv fun p hp=>?_
 have hp:p∈[(DW q 0,IK c 0),(DW q 1,IK c 1),(DW q 2,IK c 2),(DW q 3,IK c 3)]:=(ir _ _).mem_iff.mp hp;have ne:∀{i j:Nat},i<4→j<4→i≠j→¬DW q i=DW q j:=fun hi hj hn e=>hn (lH hi hj e)
 have Vg:=ne (i:=1) (j:=0) (by decide) (by decide) (by decide);have Vh:=ne (i:=2) (j:=0) (by decide) (by decide) (by decide);have Vi:=ne (i:=2) (j:=1) (by decide) (by decide) (by decide);have Vj:=ne (i:=3) (j:=0) (by decide) (by decide) (by decide);have Vk:=ne (i:=3) (j:=1) (by decide) (by decide) (by decide);have Vl:=ne (i:=3) (j:=2) (by decide) (by decide) (by decide);simp only[List.mem_cons,List.not_mem_nil,or_false]at hp;rcases hp with rfl | rfl | rfl | rfl<;>simp[QC,gL,Vg,Vh,Vi,Vj,Vk,Vl]
theorem Nt(H:BF Γ){k:Nat}:BW W Γ (n+10) "_law_store" [.b6 ns,.int k] []=some (.tup (CN (lh (DY ns 0) (DY ns k)) (gL (DY ns 0) (DY ns k))),[]):=by
 have hc:∀m,BW W Γ (n+9) "_law_cell" [.b6 ns,.int k] m=some (.int (DY ns k),m):=fun m=>bM (W:=W) (n:=n+8) (m:=m) H.cell (ns:=ns) (k:=k)
 have hm:∀m {c p k:Int},0<p→0<k→BW W Γ (n+9) "_law_mix" [.int c,.int p,.int k] m=some (.int (G5 c p k),m):=fun m _ _ _ hp hk=>K9 (n:=n+8) H.mix hp hk
 have hn:∀m,BW W Γ (n+9) "_law_names" [.b6 ns] m=_:=fun m=>jC (W:=W) (n:=n+6) (m:=m) H.mix H.cell H.name H.names (ns:=ns)
 generalize DY ns k=c at hc ⊢;generalize DY ns 0=q at hn ⊢;have hs:∀m,m[0]?=some (.lst [.tup [.str (DW q 0),.int (IK c 0)],.tup [.str (DW q 1),.int (IK c 1)],.tup [.str (DW q 2),.int (IK c 2)],.tup [.str (DW q 3),.int (IK c 3)]])→cy (.sorted false) (.ak 0) m=some (.lst (CN (lh q c) (gL q c)),m):=fun m e=>by
  have nd:=names_nodup q;have e1:FJ (.ak 0) m=some [.tup [.str (DW q 0),.int (IK c 0)],.tup [.str (DW q 1),.int (IK c 1)],.tup [.str (DW q 2),.int (IK c 2)],.tup [.str (DW q 3),.int (IK c 3)]]:=by
   show (match m[0]? with | some (.lst xs)=>some xs | _=>none)=_;rw[e]
  show ((FJ (.ak 0) m).bind fun xs=>(QL xs).bind fun ps=>if xs.length≤4∧(ps.map (·.1)).Nodup then some (bE false ((J0 ps).map QC) m) else none)=_;rw[e1,bq,show QL [.tup [.str (DW q 0),.int (IK c 0)],.tup [.str (DW q 1),.int (IK c 1)],.tup [.str (DW q 2),.int (IK c 2)],.tup [.str (DW q 3),.int (IK c 3)]]=some [(DW q 0,IK c 0),(DW q 1,IK c 1),(DW q 2,IK c 2),(DW q 3,IK c 3)] from rfl,bq,ag ⟨by simp,by simpa[JT] using nd⟩,←yF];rfl
 have e0:=K8 (lh q c) (gL q c);have mE:∀(i:Nat) (x:Str) (acc:List D) (x5:Option D),acc.length<100000→aE (BW W Γ (n+9)) W (RU (KD 1 bY)) [some (.b6 ns),some (.int k),some (.ak 0),some (.int i),some (.str x),x5] [.lst acc]=some (.nx [some (.b6 ns),some (.int k),some (.ak 0),some (.int i),some (.str x),some (.int (IK c i))],[.lst (acc++[.tup [.str x,.int (IK c i)]])]):=fun i x acc x5 hl=>by
  refine CJ (d:=.int (G5 (c+13*i) 9829 997)) (CG (hm _ (by decide) (by decide)) (BZ (EY (CG (hc _) rfl) (EY rfl rfl (QG (by decide))) rfl) rfl)) ?_;have t4:=fun(σ:DS) (h:gf (BW W Γ (n+9)) (.cons (.var 0) (.cons (.var 1) .nil)) σ [.lst acc]=some ([.b6 ns,.int k],[.lst acc]))=>G3 (C:=BW W Γ (n+9)) (σ:=σ) (m:=[.lst acc]) (HD (o:=.eq) (e2:=.con (.int 0)) (d2:=.int 0) (EY (e2:=.con (.int 4)) (CG (hc _) h) rfl (PK (b:=4) (by decide))) rfl rfl) (wU _)
  by_cases h4:c % 4=0
  ·rw[IK,ag h4]
   exact JQ (JC (t4 _ rfl) h4) (CJ (EY rfl rfl (PK (by decide))) rfl) (IW (U6 rfl rfl rfl rfl hl) rfl)
  ·rw[IK,ai h4]
   exact FQ (HS (t4 _ rfl) h4) (IW (U6 rfl rfl rfl rfl hl) rfl)
 have le:∀{a b:Nat},Nat.ble a b=true→a≤b:=d6;exact JR (q:=[.lst [.tup [.str (DW q 0),.int (IK c 0)],.tup [.str (DW q 1),.int (IK c 1)],.tup [.str (DW q 2),.int (IK c 2)],.tup [.str (DW q 3),.int (IK c 3)]]]) (n:=n+9) H.store rfl e0 (CJ (d:=.ak 0) (m1:=[MO.lst []]) rfl (NT (Ng (CG (hn _) rfl)) (HN rfl rfl (mE 0 _ _ _ (le rfl)) (HN rfl rfl (mE 1 _ _ _ (le rfl)) (HN rfl rfl (mE 2 _ _ _ (le rfl)) (HN rfl rfl (mE 3 _ _ _ (le rfl)) (K7 rfl))))) (CP (GD (GD rfl (hs _ rfl)) rfl))))
noncomputable def kM:Nat→D→Bool
 | _,.ao=>true
 | _,.bl _=>true
 | _,.int _=>true
 | _,.str x=>(PyData.str x).canLay0
 | k+1,.tup xs=>xs.all (kM k)
 | _,_=>false
theorem FF:∀{k:Nat} {d:D},kM k d=true→∃p,oe d=some p∧p.canLay0=true∧p.depth≤k:=by
 intro k
 induction k with
 | zero=>
  intro d h;cases d with
  | ao=>exact⟨_,rfl,rfl,aT _⟩
  | bl b=>exact⟨_,rfl,rfl,aT _⟩
  | int i=>exact⟨_,rfl,rfl,aT _⟩
  | str x=>exact⟨_,rfl,h,aT _⟩
  | _=>cases h
 | succ k ih=>
  intro d h;cases d with
  | ao=>exact⟨_,rfl,rfl,eM _⟩
  | bl b=>exact⟨_,rfl,rfl,eM _⟩
  | int i=>exact⟨_,rfl,rfl,eM _⟩
  | str x=>exact⟨_,rfl,h,eM _⟩
  | tup xs=>
   have key:∀xs:List D,(xs.all (kM k))=true→∃ps,aB xs=some ps∧PyData.canLayAll0 ps=true∧PyData.depthAll ps≤k:=by
    intro xs
    induction xs with
    | nil=>exact fun _=>⟨[],rfl,rfl,eM _⟩
    | cons a r UQ=>
     intro h;simp only[List.all_cons,gh]at h;obtain⟨p,e1,e2,e3⟩:=ih h.1;obtain⟨ps,q1,q2,q3⟩:=UQ h.2;exact⟨p::ps,by
      show (oe a).bind _=_;rw[e1];show (aB r).map _=_;rw[q1];rfl,by simp[PyData.canLayAll0,e2,q2],by simp only[PyData.depthAll];lia⟩
   obtain⟨ps,q1,q2,q3⟩:=key xs h;exact⟨.tuple ps,by
    show (aB xs).map _=_;rw[q1];rfl,by simpa[PyData.canLay0] using q2,by simp only[PyData.depth];lia⟩
  | _=>cases h
theorem eq_self{d:D}(h:kM 60 d=true):U8 d d=some true:=by
 obtain⟨p,e1,e2,e3⟩:=FF h;unfold U8;rw[e1,bq,bq,ag (by simp[e2];omega),SeqAt.eqv_refl p e2]
theorem Mv(k:Nat)(l:List Int):kM (k+1) (.tup (l.map .int))=true:=by
 show (l.map D.int).all (kM k)=true;rw[um];intro d hd;obtain⟨i,_,rfl⟩:=dg hd;cases k<;>rfl
theorem Ky(q:Int)(k:Nat):(PyData.str (DW q k)).canLay0=true:=by
 have h:=Mx q k;simp only[PyData.canLay0,PyData.strOk,Array.all_eq_true_iff_forall_mem];intro x hx;have:=h x (by simpa using hx);simp;lia
noncomputable def w9:bp→bp
 | .cons (.fr _ _ b) _=>b
 | s=>s
structure dw(nm ks:List Str)(f:Str→Int):Prop where
 nd:ks.Nodup
 sub:∀x∈ks,x∈nm
 zero:∀x,x∉ks→f x=0
noncomputable def mg(ks:List Str)(s:S Str):Mem:=[.aq (DG ks) (G7 ks s.f),.lst (s.sh.map oi),.lst ((s.st.map dD).reverse)]
theorem YZ{f:Str→Int}{x:Str}:∀{ks:List Str},x∉ks→GC (DG ks) (G7 ks f) (.inr x)=none
 | [],_=>rfl
 | y::r,h=>by
  show (if (Sum.inr y:Key)=.inr x then some (D.int (f y)) else GC (DG r) (G7 r f) (.inr x))=_;rw[ai (fun q=>h (by rw[iF q];exact bX))];exact YZ fun q=>h (b8 _ q)
theorem lN(h:dw nm ks f)(x:Str):(GC (DG ks) (G7 ks f) (.inr x)).getD (.int 0)=.int (f x):=by
 by_cases e:x∈ks
 ·rw[T3 e];rfl
 ·rw[YZ e,h.zero x e];rfl
theorem jG{x:Str}:∀{ks:List Str},x∉ks→((DG ks).any fun k=>decide (k=.inr x))=false
 | [],_=>rfl
 | y::r,h=>by
  show (decide ((Sum.inr y:Key)=.inr x)||(DG r).any fun k=>decide (k=.inr x))=false;rw[jG fun q=>h (b8 _ q)];have:¬(Sum.inr y:Key)=.inr x:=fun q=>h (by rw[iF q];exact bX)
  simp[this]
theorem qR(h:dw nm ks f)(hx:x∈nm)(v:Int):∃bu,putD (DG ks) (G7 ks f) (.inr x) (.int v)=(DG bu,G7 bu (JV f x v))∧dw nm bu (JV f x v):=by
 by_cases e:x∈ks
 ·exact⟨ks,zA e,h.nd,h.sub,fun y hy=>by
   unfold JV;rw[ai (fun q=>hy (by rw[q];exact e))];exact h.zero y hy⟩
 ·refine⟨ks++[x],?_,?_,?_,?_⟩
  ·rw[putD,jG e]
   simp only[DG,G7,ft,ck,List.map_nil];have:ks.map (fun y=>D.int (f y))=ks.map fun y=>D.int (JV f x v y):=jv fun y hy=>by
    unfold JV;rw[ai (fun q=>e (by rw[←q];exact hy))]
   rw[this];simp[JV]
  ·exact List.nodup_append.mpr ⟨h.nd,by simp,fun a ha b hb q=>by
    rw[fg hb]at q;exact e (q▸ha)⟩
  ·intro y hy
   rcases de hy with q | q
   ·exact h.sub y q
   ·rw[fg q];exact hx
  ·intro y hy
   have h1:y∉ks:=fun q=>hy (eP _ q)
   have h2:y≠x:=fun q=>hy (by simp[q])
   unfold JV;rw[ai h2];exact h.zero y h1
theorem QT{W:Nat}{Γ:String→Option Fn}(H:Γ "number_of" = some K3){P:Str→Prop}{nm ks:List Str}{f:Str→Int}(hs:dw nm ks f)(hf:∀x,0≤f x∧f x<997){i:Nat}{m:Mem}(hm:GX (.ak i) m=some (DG ks,G7 ks f)):∀{t:Tm Str} {n:Nat},t.Ok P→t.dep<n→BW W Γ n "number_of" [dT t,.ak i] m=some (.int (t.val f),m)
 | .num k,n+1,ho,h=>DN H rfl rfl (CJ rfl (GJ (JC (p:=Str.ofString "number" = Str.ofString "number") rfl rfl) (CP rfl)))
 | .fi x,n+1,ho,h=>DN H rfl rfl (CJ rfl (FQ (HS (p:=Str.ofString "name" = Str.ofString "number") rfl (eW (by decide))) (GJ (JC (p:=Str.ofString "name" = Str.ofString "name") rfl rfl) (CP ((zp rfl rfl rfl hm rfl).trans (by rw[lN hs];rfl))))))
 | .bin o a b,n+1,ho,h=>by
  simp only[Tm.dep]at h;have ea:=QT (W:=W) H hs hf hm (t:=a) (n:=n) ho.1 (by lia);have eb:=QT (W:=W) H hs hf hm (t:=b) (n:=n) ho.2 (by lia);have ra:=Tm.EL hf ho.1;have rb:=Tm.EL hf ho.2;have o1:rq o≠"number":=by cases o<;>decide
  have o2:rq o≠"name":=by cases o<;>decide
  refine DN H rfl rfl (CJ rfl (FQ (HS rfl (eW o1)) (FQ (HS rfl (eW o2)) (CJ (CG ea rfl) (CJ (CG eb rfl) ?_)))));cases o with
  | sum=>exact GJ (JC (p:=Str.ofString "sum" = Str.ofString "sum") rfl rfl) (CP (EY (d:=.int (a.val f+b.val f)) (d2:=.int 997) rfl rfl (PK (by decide))))
  | times=>exact FQ (HS (p:=Str.ofString "times" = Str.ofString "sum") rfl (eW (by decide))) (GJ (JC (p:=Str.ofString "times" = Str.ofString "times") rfl rfl) (CP (EY (d2:=.int 997) (EY rfl rfl (W0 (by lia))) rfl (PK (by decide)))))
  | less=>
   refine FQ (HS (p:=Str.ofString "less" = Str.ofString "sum") rfl (eW (by decide))) (FQ (HS (p:=Str.ofString "less" = Str.ofString "times") rfl (eW (by decide))) (CP (E8 (G3 (HD rfl rfl rfl) rfl) ?_)));show _=some (D.int (if a.val f<b.val f then 1 else 0),m)
   by_cases hh:a.val f<b.val f
   ·rw[ag hh,dk hh];rfl
   ·rw[ai hh,dm hh];rfl
theorem uI(a b:Str):(FT a b||FT b a)=true:=by
 unfold FT
 by_cases h:b.cps.toList<a.cps.toList
 ·have:¬a.cps.toList<b.cps.toList:=fun q=>List.lt_irrefl _ (List.lt_trans h q)
  simp[this]
 ·simp[h]
theorem QJ{b:Str}(h:FT a b=true)(h':FT b a=true):a=b:=by
 unfold FT at h h';simp at h h';have:a.cps.toList=b.cps.toList:=List.le_antisymm h h';cases a;cases b;simp at this;rw[this]
theorem xT{b c:Str}(h:FT a b=true)(h':FT b c=true):FT a c=true:=by
 unfold FT at h h' ⊢;simp at h h' ⊢;exact List.le_trans h h'
theorem qJ{l:List Str}(h:l.Nodup):(DQ l).Nodup:=(ir l FT).nodup_iff.mpr h
theorem xY{l:List Str}:x∈DQ l↔x∈l:=(ir l FT).mem_iff
theorem XM(l:List Str):(DQ l).Pairwise (fun a b=>FT a b=true):=List.pairwise_mergeSort (le:=FT) (fun a b c h h'=>xT h h') uI l
theorem jP(hn:nm.Nodup)(h:dw nm ks f):RL ks f=RL nm f:=by
 unfold RL;have:(DQ ks).filter (fun x=>f x≠0)=(DQ nm).filter fun x=>f x≠0:=by
  refine List.Perm.eq_of_pairwise (le:=fun a b=>FT a b=true) (fun a b _ _ h1 h2=>QJ h1 h2) ((XM ks).filter _) ((XM nm).filter _) ?_;refine(List.perm_ext_iff_of_nodup ((qJ h.nd).filter _) ((qJ hn).filter _)).mpr fun x=>?_
  simp only[List.mem_filter,xY];refine⟨fun q=>⟨h.sub x q.1,q.2⟩,fun q=>⟨?_,q.2⟩⟩;refine Classical.byContradiction fun e=>?_
  have:=h.zero x e;simp[this]at q
 rw[this]
noncomputable def mz(m0:Mem)(ks:List Str)(s:S Str):Mem:=m0++[.aq (DG ks) (G7 ks s.f),.lst (s.sh.map oi),.lst ((s.st.map dD).reverse)]
noncomputable def fj(b:Nat)(prog:D)(most t:Int)(x6 x7 x8:Option D):DS:=[some prog,some (.ak b),some (.ak (b+1)),some (.int most),some (.int t),some (.ak (b+2)),x6,x7,x8]
noncomputable def Gj(b:Nat)(prog:D)(most:Int)(l6 l7 l8:Option D):Option Int→Out
 | some T=>.nx (fj b prog most T l6 l7 l8)
 | none=>.rt .ao
section
variable{bu:List Str}{st gy:List (Dd Str)}{dn:Str→Int}{EE:List (Int×Int)}{t t':Int}{s:S Str}
theorem Jn:(mz m0 ks s)[m0.length]?=some (.aq (DG ks) (G7 ks s.f)):=by simp[mz]
theorem Vf:(mz m0 ks s)[m0.length+1]?=some (.lst (s.sh.map oi)):=by simp[mz]
theorem yf:(mz m0 ks s)[m0.length+2]?=some (.lst (s.st.map dD).reverse):=by simp[mz]
theorem QN:(mz m0 ks ⟨st,f,sh,t⟩).set m0.length (.aq (DG bu) (G7 bu dn))=mz m0 bu ⟨st,dn,sh,t⟩:=by simp[mz]
theorem QI:(mz m0 ks ⟨st,f,sh,t⟩).set (m0.length+1) (.lst (EE.map oi))=mz m0 ks ⟨st,f,EE,t⟩:=by simp[mz]
theorem y2:(mz m0 ks ⟨st,f,sh,t⟩).set (m0.length+2) (.lst (gy.map dD).reverse)=mz m0 ks ⟨gy,f,sh,t⟩:=by simp[mz]
end
noncomputable def VB:bp:=KD 2 bN
noncomputable def kindS:Dd Str→String
 | .put _ _=>"put"
 | .cK _ _=>"show"
 | .ite _ _ _=>"if"
 | .bh _ _=>"while"
section
variable{prog:D}{t:Int}{x6 x7 x8:Option D}{k:List (Dd Str)}{d:Dd Str}
theorem z_head:aE (BW W Γ n) W bN (fj m0.length prog most t x6 x7 x8) (mz m0 ks ⟨d::k,f,sh,t⟩)=aE (BW W Γ n) W VB (fj m0.length prog most t (some (dD d)) (some (.str (Str.ofString (kindS d)))) x8) (mz m0 ks ⟨k,f,sh,t⟩):=by
 have hb:bN=.cons (.set 6 (.pop (.var 5))) (.cons (.set 7 (.ix (.var 6) (.con (.int 0)))) VB):=rfl;have hd:(((d::k).map dD).reverse).dropLast=(k.map dD).reverse:=by simp
 have hl:(((d::k).map dD).reverse)[((d::k).map dD).reverse.length-1]?=some (dD d):=by simp
 have hk:∀m,j1 (dD d) (.int 0) m=some (.str (Str.ofString (kindS d))):=fun m=>by cases d<;>rfl
 have hp:∀σ:DS,σ[5]?=some (some (.ak (m0.length+2)))→ev (BW W Γ n) (.pop (.var 5)) σ (mz m0 ks ⟨d::k,f,sh,t⟩)=some (dD d,mz m0 ks ⟨k,f,sh,t⟩):=fun σ h=>by
  rw[Ob,sd,h];simp only[bq,yf,hl,i8,hd,y2]
 have e1:ex (BW W Γ n) W (.set 6 (.pop (.var 5))) (fj m0.length prog most t x6 x7 x8) (mz m0 ks ⟨d::k,f,sh,t⟩)=some (.nx (fj m0.length prog most t (some (dD d)) x7 x8),mz m0 ks ⟨k,f,sh,t⟩):=by
  rw[Fw,hp _ rfl];rfl
 have e2:ex (BW W Γ n) W (.set 7 (.ix (.var 6) (.con (.int 0)))) (fj m0.length prog most t (some (dD d)) x7 x8) (mz m0 ks ⟨k,f,sh,t⟩)=some (.nx (fj m0.length prog most t (some (dD d)) (some (.str (Str.ofString (kindS d)))) x8),mz m0 ks ⟨k,f,sh,t⟩):=by
  have:ev (BW W Γ n) (.var 6) (fj m0.length prog most t (some (dD d)) x7 x8) (mz m0 ks ⟨k,f,sh,t⟩)=some (dD d,mz m0 ks ⟨k,f,sh,t⟩):=by rw[sd];rfl
  simp only[Fw,Od,this,bq,Fx,hk,i8];rfl
 rw[hb,yH,e1,bq];simp only;rw[yH,e2,bq]
theorem PD(Hn:Γ "number_of" = some K3)(hS:dw sn ks f)(hf:∀x,0≤f x∧f x<997){e:Tm Str}(ho:e.Ok (·∈sn))(hd:e.dep<n):BW W Γ n "number_of" [dT e,.ak m0.length] (mz m0 ks ⟨k,f,sh,t⟩)=some (.int (e.val f),mz m0 ks ⟨k,f,sh,t⟩):=QT Hn hS hf (by simp only[GX,Jn]) ho hd
theorem Pz{e:Tm Str}{vi:List Str}(e1:BW W Γ n "number_of" [dT e,.ak m0.length] (mz m0 ks ⟨k,f,sh,t⟩)=some (.int (e.val f),mz m0 ks ⟨k,f,sh,t⟩))(e2:putD (DG ks) (G7 ks f) (.inr x) (.int (e.val f))=(DG vi,G7 vi (JV f x (e.val f))))(e3:(DG ks).length<10000):aE (BW W Γ n) W VB (fj m0.length prog most t (some (dD (.put x e))) (some (.str "put")) x8) (mz m0 ks ⟨k,f,sh,t⟩)=some (.nx (fj m0.length prog most t (some (dD (.put x e))) (some (.str "put")) x8),mz m0 vi ⟨k,JV f x (e.val f),sh,t⟩):=
 JQ (JC (p:=Str.ofString "put" = Str.ofString "put") rfl rfl) (fV (CG e1 rfl) rfl rfl Jn rfl rfl e3 (RD (by rw[e2];exact QN))) rfl
theorem Py{e:Tm Str}(e1:BW W Γ n "number_of" [dT e,.ak m0.length] (mz m0 ks ⟨k,f,sh,t⟩)=some (.int (e.val f),mz m0 ks ⟨k,f,sh,t⟩))(e3:sh.length<100000):aE (BW W Γ n) W VB (fj m0.length prog most t (some (dD (.cK l e))) (some (.str "show")) x8) (mz m0 ks ⟨k,f,sh,t⟩)=some (.nx (fj m0.length prog most t (some (dD (.cK l e))) (some (.str "show")) x8),mz m0 ks ⟨k,f,sh++[(l,e.val f)],t⟩):=
 JB (HS (p:=Str.ofString "show" = Str.ofString "put") rfl (eW (by decide))) (JQ (JC (p:=Str.ofString "show" = Str.ofString "show") rfl rfl) (IW (U6 rfl (HB (BZ rfl (BZ (CG e1 rfl) rfl)) (d6 rfl)) Vf rfl (by rw[a9];exact e3)) (RD (by
  have:=QI (m0:=m0) (ks:=ks) (st:=k) (f:=f) (sh:=sh) (t:=t) (EE:=sh++[(l,e.val f)]);rw[ft]at this;exact this))) rfl) rfl
theorem PF{e:Tm Str}{b c q:Bl Str}(e1:BW W Γ n "number_of" [dT e,.ak m0.length] (mz m0 ks ⟨k,f,sh,t⟩)=some (.int (e.val f),mz m0 ks ⟨k,f,sh,t⟩))(hq:q=if e.val f=0 then c else b)(h2:k.length+(dB q).length≤100000):aE (BW W Γ n) W VB (fj m0.length prog most t (some (dD (.ite e b c))) (some (.str "if")) x8) (mz m0 ks ⟨k,f,sh,t⟩)=some (.nx (fj m0.length prog most t (some (dD (.ite e b c))) (some (.str "if")) (some (.tup (dB q)))),mz m0 ks ⟨q.list++k,f,sh,t⟩):=by
 have xB:∀(xs:List D) (m:Mem),cy (.og false) (.tup xs) m=some (.lst xs.reverse,m):=fun _ _=>rfl
 have cc:=eV q.list;rw[←JF]at cc;have s2:(mz m0 ks ⟨k,f,sh,t⟩).set (m0.length+2) (.lst ((k.map dD).reverse++(dB q).reverse))=mz m0 ks ⟨q.list++k,f,sh,t⟩:=by
  rw[JF,←List.reverse_append,←ft];exact y2
 have rk:ev (BW W Γ n) (.rk (.val (.cmp .ne (.call "number_of" (.cons (.ix (.var 6) (.con (.int 1))) (.cons (.var 1) .nil))) (.con (.int 0)))) (.ix (.var 6) (.con (.int 2))) (.ix (.var 6) (.con (.int 3)))) (fj m0.length prog most t (some (dD (.ite e b c))) (some (.str "if")) x8) (mz m0 ks ⟨k,f,sh,t⟩)=some (.tup (dB q),mz m0 ks ⟨k,f,sh,t⟩):=by
  refine E8 (G3 (HD (CG e1 rfl) rfl rfl) rfl) ?_;rw[hq]
  by_cases hv:e.val f=0
  ·rw[ag hv,dk hv];rfl
  ·rw[ai hv,dm hv];rfl
 exact JB (HS (p:=Str.ofString "if" = Str.ofString "put") rfl (eW (by decide))) (JB (HS (p:=Str.ofString "if" = Str.ofString "show") rfl (eW (by decide))) (JQ (JC (p:=Str.ofString "if" = Str.ofString "if") rfl rfl) (CJ rk (IW (E9 rfl (GD (d:=.tup (dB q)) rfl (xB _ _)) yf (by rw[JF,←List.map_reverse]at *;exact cc) (by rw[List.length_reverse,List.length_reverse,a9];exact h2)) (RD s2))) rfl) rfl) rfl
theorem NH{e:Tm Str}{b:Bl Str}(e1:BW W Γ n "number_of" [dT e,.ak m0.length] (mz m0 ks ⟨k,f,sh,t⟩)=some (.int (e.val f),mz m0 ks ⟨k,f,sh,t⟩))(hv:e.val f=0):aE (BW W Γ n) W VB (fj m0.length prog most t (some (dD (.bh e b))) (some (.str "while")) x8) (mz m0 ks ⟨k,f,sh,t⟩)=some (.nx (fj m0.length prog most t (some (dD (.bh e b))) (some (.str "while")) x8),mz m0 ks ⟨k,f,sh,t⟩):=
 JB (HS (p:=Str.ofString "while" = Str.ofString "put") rfl (eW (by decide))) (JB (HS (p:=Str.ofString "while" = Str.ofString "show") rfl (eW (by decide))) (JB (HS (p:=Str.ofString "while" = Str.ofString "if") rfl (eW (by decide))) (FQ (FR (G3 (HD (CG e1 rfl) rfl rfl) rfl) hv) rfl) rfl) rfl) rfl
theorem NG{e:Tm Str}{b:Bl Str}(e1:BW W Γ n "number_of" [dT e,.ak m0.length] (mz m0 ks ⟨k,f,sh,t⟩)=some (.int (e.val f),mz m0 ks ⟨k,f,sh,t⟩))(hv:e.val f≠0)(ht:most≤t):aE (BW W Γ n) W VB (fj m0.length prog most t (some (dD (.bh e b))) (some (.str "while")) x8) (mz m0 ks ⟨k,f,sh,t⟩)=some (.rt .ao,mz m0 ks ⟨k,f,sh,t⟩):=
 nO (HS (p:=Str.ofString "while" = Str.ofString "put") rfl (eW (by decide))) (nO (HS (p:=Str.ofString "while" = Str.ofString "show") rfl (eW (by decide))) (nO (HS (p:=Str.ofString "while" = Str.ofString "if") rfl (eW (by decide))) (GJ (FU (G3 (HD (CG e1 rfl) rfl rfl) rfl) hv) (GJ (JC rfl ht) (CP rfl)))))
theorem NF{e:Tm Str}{b:Bl Str}(e1:BW W Γ n "number_of" [dT e,.ak m0.length] (mz m0 ks ⟨k,f,sh,t⟩)=some (.int (e.val f),mz m0 ks ⟨k,f,sh,t⟩))(hv:e.val f≠0)(ht:¬most≤t)(h1:k.length<100000)(h2:k.length+1+(dB b).length≤100000):aE (BW W Γ n) W VB (fj m0.length prog most t (some (dD (.bh e b))) (some (.str "while")) x8) (mz m0 ks ⟨k,f,sh,t⟩)=some (.nx (fj m0.length prog most (t+1) (some (dD (.bh e b))) (some (.str "while")) x8),mz m0 ks ⟨b.list++.bh e b::k,f,sh,t+1⟩):=by
 have xB:∀(xs:List D) (m:Mem),cy (.og false) (.tup xs) m=some (.lst xs.reverse,m):=fun _ _=>rfl
 have cb:=eV b.list;rw[←JF]at cb;have s1:(mz m0 ks ⟨k,f,sh,t⟩).set (m0.length+2) (.lst ((k.map dD).reverse++[dD (.bh e b)]))=mz m0 ks ⟨.bh e b::k,f,sh,t⟩:=by
  rw[←List.reverse_cons,←ck];exact y2
 have s2:(mz m0 ks ⟨.bh e b::k,f,sh,t⟩).set (m0.length+2) (.lst (((Dd.bh e b::k).map dD).reverse++(dB b).reverse))=mz m0 ks ⟨b.list++.bh e b::k,f,sh,t+1⟩:=by
  rw[JF,←List.reverse_append,←ft];exact y2
 refine JB (HS (p:=Str.ofString "while" = Str.ofString "put") rfl (eW (by decide))) (JB (HS (p:=Str.ofString "while" = Str.ofString "show") rfl (eW (by decide))) (JB (HS (p:=Str.ofString "while" = Str.ofString "if") rfl (eW (by decide))) (JQ (FU (G3 (HD (CG e1 rfl) rfl rfl) rfl) hv) (FQ (HS rfl ht) (CJ rfl (IW (U6 rfl rfl yf (T8 _) (by rw[List.length_reverse,a9];exact h1)) ?_))) rfl) rfl) rfl) rfl;rw[s1];exact IW (E9 rfl (GD (d:=.tup (dB b)) rfl (xB _ _)) yf cb (by rw[List.length_reverse,List.length_reverse,a9,kn];exact h2)) (RD s2)
end
theorem NI(Hn:Γ "number_of" = some K3){K M:Nat}(hK:K<n){prog:D}(fh:sn.length<10000):∀(w:Nat) (s:S Str) (ks:List Str) (x6 x7 x8:Option D),dw sn ks s.f→zf sn K M s→f7 M most s<w→s.sh.length+f7 M most s≤1000→∃(r:R Str) (bu:List Str),Runs most s r∧dw sn bu r.f∧(∀x,0≤r.f x∧r.f x<997)∧r.sh.length≤s.sh.length+f7 M most s∧∃l6 l7 l8 st t,M7 (et (BW W Γ n) (.val (.var 5))) (fun σ m=>aE (BW W Γ n) W bN σ m) w (fj m0.length prog most s.t x6 x7 x8) (mz m0 ks s)=some (Gj m0.length prog most l6 l7 l8 r.t,mz m0 bu ⟨st,r.f,r.sh,t⟩):=by
 intro w
 induction w with
 | zero=>intro s ks x6 x7 x8 _ _ h;lia
 | succ w ih=>
  intro s ks x6 x7 x8 hS hF hw hb;obtain⟨st,f,sh,t⟩:=s;have ke:∀st,et (BW W Γ n) (.val (.var 5)) (fj m0.length prog most t x6 x7 x8) (mz m0 ks ⟨st,f,sh,t⟩)=some (!st.isEmpty,mz m0 ks ⟨st,f,sh,t⟩):=fun st=>by
   have h5:(fj m0.length prog most t x6 x7 x8)[5]?=some (some (.ak (m0.length+2))):=rfl;have he:((st.map dD).reverse).isEmpty=st.isEmpty:=by simp
   exact G3 (d:=.ak (m0.length+2)) rfl ((Cu yf).trans (by rw[he]))
  cases st with
  | nil=>
   refine⟨⟨some t,f,sh⟩,ks,.done rfl,hS,hF.fr,by simp,x6,x7,x8,[],t,?_⟩;rw[M7,ke];rfl
  | cons d k=>
   have hd:=hF.ok d bX;have hk:∀e∈k,e.Ok (·∈sn)∧e.dep≤K∧e.size≤M:=fun e he=>hF.ok e (b8 _ he)
   have As:∀{e:Tm Str},e.Ok (·∈sn)→e.dep≤K→BW W Γ n "number_of" [dT e,.ak m0.length] (mz m0 ks ⟨k,f,sh,t⟩)=some (.int (e.val f),mz m0 ks ⟨k,f,sh,t⟩):=fun ho Ah=>PD Hn hS hF.fr ho (by lia)
   have go:∀{s':S Str} {ro:List Str} {y6 y7 y8:Option D},step most ⟨d::k,f,sh,t⟩=.inl s'→aE (BW W Γ n) W VB (fj m0.length prog most t (some (dD d)) (some (.str (Str.ofString (kindS d)))) x8) (mz m0 ks ⟨k,f,sh,t⟩)=some (.nx (fj m0.length prog most s'.t y6 y7 y8),mz m0 ro s')→dw sn ro s'.f→zf sn K M s'→f7 M most s'+1≤f7 M most ⟨d::k,f,sh,t⟩→s'.sh.length≤sh.length+1→∃(r:R Str) (bu:List Str),Runs most ⟨d::k,f,sh,t⟩ r∧dw sn bu r.f∧(∀x,0≤r.f x∧r.f x<997)∧r.sh.length≤sh.length+f7 M most ⟨d::k,f,sh,t⟩∧∃l6 l7 l8 st t1,M7 (et (BW W Γ n) (.val (.var 5))) (fun σ m=>aE (BW W Γ n) W bN σ m) (w+1) (fj m0.length prog most t x6 x7 x8) (mz m0 ks ⟨d::k,f,sh,t⟩)=some (Gj m0.length prog most l6 l7 l8 r.t,mz m0 bu ⟨st,r.f,r.sh,t1⟩):=by
    intro s' ro y6 y7 y8 h1 h2 dh h3 h4 h5;have g7:sh.length+f7 M most ⟨d::k,f,sh,t⟩≤1000:=hb;obtain⟨r,bu,q1,qs,q2,q3,l6,l7,l8,st,t1,q4⟩:=ih s' ro y6 y7 y8 dh h3 (by lia) (by lia);refine⟨r,bu,.next h1 q1,qs,q2,by lia,l6,l7,l8,st,t1,?_⟩;rw[M7,ke];simp only[bq,List.isEmpty_cons,Bool.not_false,if_true];rw[z_head,h2];exact q4
   have hlen:=X5 k;have IG:gx (d::k)≤1000:=by
    have:sh.length+f7 M most ⟨d::k,f,sh,t⟩≤1000:=hb;simp only[f7]at this;lia
   have lB:∀b:Bl Str,(dB b).length≤b.size:=fun b=>by
    have:=X5 b.list;rw[HY]at this;rw[JF,a9];exact this
   cases d with
   | put x e=>
    have hv:=Tm.EL hF.fr hd.1.2;obtain⟨vi,e2,ee⟩:=qR hS hd.1.1 (e.val f);have e3:(DG ks).length<10000:=by
     have:=hS.nd.length_le_of_subset (fun x hx=>hS.sub x hx);simp only[DG,a9];lia
    exact go (s':=⟨k,JV f x (e.val f),sh,t⟩) rfl (Pz (As hd.1.2 hd.2.1) e2 e3) ee ⟨hk,Og hF.fr hv⟩ (by simp only[f7,gx,Dd.size];lia) (by simp)
   | cK l e=>
    have e3:sh.length<100000:=by have:sh.length+_≤1000:=hb;lia
    exact go (s':=⟨k,f,sh++[(l,e.val f)],t⟩) rfl (Py (As hd.1.2 hd.2.1) e3) hS ⟨hk,hF.fr⟩ (by simp only[f7,gx,Dd.size];lia) (by simp)
   | ite e b c=>
    obtain⟨ho,Ah,hsz⟩:=hd;simp only[Dd.dep,Dd.size]at Ah hsz;simp only[gx,Dd.size]at IG;have lb:=lB b;have lc:=lB c;obtain⟨q,hq⟩:∃q,q=if e.val f=0 then c else b:=⟨_,rfl⟩
    have a7:q=b∨q=c:=by
     rw[hq];split
     ·exact .inr rfl
     ·exact .inl rfl
    have Ys:q.size≤b.size+c.size:=by rcases a7 with h | h<;>rw[h]<;>lia
    have D2:q.Ok (·∈sn)∧q.dep≤K∧q.size≤M:=by
     rcases a7 with h | h<;>rw[h]
     ·exact⟨ho.2.1,by lia,by lia⟩
     ·exact⟨ho.2.2,by lia,by lia⟩
    refine go (s':=⟨q.list++k,f,sh,t⟩) ?_ (PF (As ho.1 (by lia)) hq ?_) hS ⟨?_,hF.fr⟩ ?_ (by simp)
    ·subst hq
     by_cases hv:e.val f=0<;>simp[WW.step,hv]
    ·have:=lB q
     lia
    ·intro x hx
     rcases de hx with hx | hx
     ·exact bT D2.1 D2.2.1 D2.2.2 x hx
     ·exact hk x hx
    ·simp only[f7,WM,HY,gx,Dd.size];lia
   | bh e b=>
    have xn:=hd;obtain⟨ho,Ah,hsz⟩:=hd;simp only[Dd.dep,Dd.size]at Ah hsz;simp only[gx,Dd.size]at IG;have e1:=As (e:=e) ho.1 (by lia);have lb:=lB b
    by_cases hv:e.val f=0
    ·exact go (s':=⟨k,f,sh,t⟩) (by simp[WW.step,hv]) (NH e1 hv) hS ⟨hk,hF.fr⟩ (by simp only[f7,gx,Dd.size];lia) (by simp)
    ·by_cases ht:most≤t
     ·refine⟨⟨none,f,sh⟩,ks,.done (by simp[WW.step,hv,ht]),hS,hF.fr,by simp,none,none,none,k,t,?_⟩
      rw[M7,ke];simp only[bq,List.isEmpty_cons,Bool.not_false,if_true];rw[z_head,show kindS (.bh e b) = "while" from rfl,NG e1 hv ht];rfl
     ·refine go (s':=⟨b.list++.bh e b::k,f,sh,t+1⟩) (by simp[WW.step,hv];lia) (NF e1 hv ht (by lia) (by lia)) hS ⟨?_,hF.fr⟩ ?_ (by simp)
      ·intro x hx
       rcases de hx with hx | hx
       ·exact bT ho.2 (by lia) (by lia) x hx
       ·rcases cg hx with hx | hx
        ·rw[hx];exact xn
        ·exact hk x hx
      ·have e9:(most-t).toNat=(most-(t+1)).toNat+1:=by lia
       simp only[f7,WM,HY,gx,Dd.size,e9,Nat.add_mul];lia
noncomputable def mw(m0:Mem)(ks:List Str)(f:Str→Int)(sh:List (Int×Int)):Mem:=m0++[.aq (DG ks) (G7 ks f),.lst (sh.map oi)]
theorem Ve:(mw m0 ks f sh)[m0.length]?=some (.aq (DG ks) (G7 ks f)):=by simp[mw]
theorem Jm:(mw m0 ks f sh)[m0.length+1]?=some (.lst (sh.map oi)):=by simp[mw]
theorem Et:(mw m0 ks f sh).length=m0.length+2:=by simp[mw]
theorem Jo{st:List (Dd Str)}{t:Int}:(mz m0 ks ⟨st,f,sh,t⟩).take (m0.length+2)=mw m0 ks f sh:=by
 simp[mz,mw,List.take_append];exact sr (by lia)
theorem nM(Hn:Γ "number_of" = some K3)(H:Γ "do_deeds" = some ou){K M:Nat}(hK:K<n)(fh:sn.length<10000){pg:Bl Str}(hS:dw sn ks f)(hF:zf sn K M ⟨pg.list,f,[],0⟩)(hw:f7 M most ⟨pg.list,f,[],0⟩<W)(hb:f7 M most ⟨pg.list,f,[],0⟩≤1000):∃(r:R Str) (bu:List Str),Runs most ⟨pg.list,f,[],0⟩ r∧dw sn bu r.f∧(∀x,0≤r.f x∧r.f x<997)∧r.sh.length≤1000∧BW W Γ (n+1) "do_deeds" [.tup (dB pg),.ak m0.length,.ak (m0.length+1),.int most] (mw m0 ks f [])=some (sa r.t,mw m0 bu r.f r.sh):=by
 obtain⟨r,bu,h1,j0,h2,h3,l6,l7,l8,st,t,h4⟩:=NI (W:=W) (m0:=m0) Hn hK (prog:=.tup (dB pg)) fh W ⟨pg.list,f,[],0⟩ ks none none none hS hF hw (by simpa using hb);refine⟨r,bu,h1,j0,h2,by simp only[List.length_nil,Nat.zero_add]at h3;lia,?_⟩;rw[NP H rfl];have xB:∀(xs:List D),cy (.og true) (.tup xs) (mw m0 ks f [])=some (.ak (m0.length+2),mw m0 ks f []++[.lst xs.reverse]):=fun _=>by rw[←Et (m0:=m0) (ks:=ks) (f:=f) (sh:=[])];rfl
 have hm:mw m0 ks f []++[.lst (dB pg).reverse]=mz m0 ks ⟨pg.list,f,[],0⟩:=by simp[mw,mz,JF]
 have e5:ev (BW W Γ n) (.b1 (.og true) (.var 0)) ([some (.tup (dB pg)),some (.ak m0.length),some (.ak (m0.length+1)),some (.int most),some (.int 0),none,none,none,none]) (mw m0 ks f [])=some (.ak (m0.length+2),mz m0 ks ⟨pg.list,f,[],0⟩):=GD (d:=.tup (dB pg)) rfl (by rw[xB,hm]);cases hr:r.t with
 | some T=>
  rw[hr]at h4;have E:aE (BW W Γ n) W ou.body ([D.tup (dB pg),.ak m0.length,.ak (m0.length+1),.int most].map some++List.replicate (ou.ns-ou.ps) none) (mw m0 ks f [])=some (.rt (.int T),mz m0 bu ⟨st,r.f,r.sh,t⟩):=CJ (d:=.int 0) rfl (CJ e5 (fU (b:=bN) h4 (CP rfl)));rw[E];show some (D.int T,List.take (mw m0 ks f []).length (mz m0 bu ⟨st,r.f,r.sh,t⟩))=_;rw[Et,Jo];rfl
 | none=>
  rw[hr]at h4;have E:aE (BW W Γ n) W ou.body ([D.tup (dB pg),.ak m0.length,.ak (m0.length+1),.int most].map some++List.replicate (ou.ns-ou.ps) none) (mw m0 ks f [])=some (.rt .ao,mz m0 bu ⟨st,r.f,r.sh,t⟩):=CJ (d:=.int 0) rfl (CJ e5 (Li (b:=bN) h4));rw[E];show some (D.ao,List.take (mw m0 ks f []).length (mz m0 bu ⟨st,r.f,r.sh,t⟩))=_;rw[Et,Jo];rfl
theorem u5(H:Γ "page_of" = some XF)(hl:sh.length≤1000):BW W Γ (n+1) "page_of" [.ak (m0.length+1),.int l] (mw m0 ks f sh)=some (.tup ((gT sh l).map .int),mw m0 ks f sh):=by
 refine DN H rfl (GU _) ?_;have comp:ev (BW W Γ n) (.comp false 2 (.tp [(.nm 2),(.nm 3)]) (.seq (.var 0)) (.val (.cmp .eq (.var 2) (.var 1))) (.var 3)) [some (.ak (m0.length+1)),some (.int l)] (mw m0 ks f sh)=some (.lst ((gT sh l).map .int),mw m0 ks f sh):=by
  rw[lW (xs:=sh.map oi) (q:=some (m0.length+1)) (h:=fun d=>match d with | .tup [.int p,.int v]=>if p=l then some (.int v) else none | _=>none) (by simp[Walk.ok,Jm,D.wu]) rfl (Nf rfl Jm) (by simpa using hl)]
  ·congr 2
   simp only[gT,List.filterMap_map,Function.comp_def,oi,df];rw[←qB,List.filterMap_filter];simp
  ·intro d hd
   obtain⟨p,hp,rfl⟩:=dg hd;refine⟨[some (.ak (m0.length+1)),some (.int l),some (.int p.1),some (.int p.2)],decide (p.1=l),rfl,rfl,?_⟩
   by_cases e:p.1=l
   ·rw[dk e,ag rfl]
    show (if p.1=l then some (D.int p.2) else none).isSome=true∧_=some ((if p.1=l then some (D.int p.2) else none).getD .ao,_);rw[ag e];exact⟨rfl,rfl⟩
   ·rw[dm e,ai (by decide)]
    show (if p.1=l then some (D.int p.2) else none)=none;rw[ai e]
 exact CP (GD comp rfl)
theorem MZ{e:Ex}{d:D}(bw:ks.length<64)(he:∀x,ev C e (σ++[x]) m=some (d,m))(Du:ev C e σ m=some (d,m))(hd:GX d m=some (DG ks,G7 ks f)):ev C (.comp false 1 (.nm σ.length) (.seq (.b1 (.t5 false) e)) (.val (.cmp .ne (.mM e (.var σ.length)) (.con (.int 0)))) (.tup (.cons (.var σ.length) (.cons (.mM e (.var σ.length)) .nil)))) σ m=some (.lst (RL ks f),m):=by
 have hs:cy (.t5 false) d m=some (.lst ((DQ ks).map .str),m):=by
  have e1:(DG ks).map cy.kD=ks.map .str:=by simp[DG,cy.kD]
  have e2:(DG ks).length<64:=by simpa[DG] using bw
  show ((GX d m).bind fun(ks,_)=>if ks.length<64 then (strsOf (ks.map cy.kD)).map fun ss=>bE false ((DQ ss).map .str) m else none)=_;rw[hd,bq];show (if (DG ks).length<64 then (strsOf ((DG ks).map cy.kD)).map fun ss=>bE false ((DQ ss).map .str) m else none)=_;rw[ag e2,e1,YW];rfl
 have xx:∀x,x∈DQ ks→x∈ks:=fun x hx=>(ir ks FT).mem_iff.mp hx
 have hlen:(DQ ks).length=ks.length:=List.length_mergeSort ks;rw[iW (xs:=(DQ ks).map .str) (h:=fun d=>match d with | .str x=>if f x≠0 then some (.tup [.str x,.int (f x)]) else none | _=>none) (g:=.nm σ.length) (σ:=σ) (show decide (σ.length≤σ.length)=true from dk (aT _)) (N6 (GD Du hs)) (by rw[a9,hlen];lia)]
 ·congr 2
  simp only[RL,List.filterMap_map,Function.comp_def];rw[←qB,List.filterMap_filter];simp
 ·intro d' fS
  obtain⟨x,hx,rfl⟩:=dg fS;have lk:=T3 (f:=f) (xx x hx);have hv:(σ++[some (.str x)])[σ.length]?=some (some (.str x)):=by simp
  refine⟨σ++[some (.str x)],decide (f x≠0),by show some ((σ++[none]).set σ.length (some (.str x)))=_;rw[List.set_append_right _ _ (aT _),Nat.sub_self];rfl,?_,?_⟩
  ·simp only[Wr,P4,yJ,he,bq,sd,hv,hd,MF,lk,i8,Fx,Fi,rP,wU]
   simp
  ·by_cases e:f x=0
   ·simp[e]
   ·simp only[Of,N9,Oa,yJ,he,bq,sd,hv,hd,MF,lk,i8]
    simp[e]
theorem nJ(H:Γ "store_of" = some UL)(bw:ks.length<64):BW W Γ (n+1) "store_of" [.ak m0.length] (mw m0 ks f sh)=some (.tup (RL ks f),mw m0 ks f sh):=by
 refine DN H rfl (K8 _ _) ?_;have comp:=MZ (C:=BW W Γ n) (e:=.var 0) (σ:=[some (.ak m0.length)]) (d:=.ak m0.length) (m:=mw m0 ks f sh) (ks:=ks) (f:=f) bw (fun x=>rfl) rfl (by simp only[GX,Ve]);exact CP (GD comp rfl)
theorem VN(b9:ks.Nodup)(bw:ks.length≤1000)(mu:Bool)(m:Mem):cy (.dict mu) (.tup (CN ks f)) m=some (hV mu (DG ks) (G7 ks f) m):=by
 have e1:=gZ (r:=DG ks) (q:=G7 ks f) (ks:=[]) (vs:=[]) (by simp[DG,G7]) (by
  unfold DG;exact List.Pairwise.map _ (fun a b (h:a≠b) q=>h (iF q)) b9) (by simp)
 have e2:(DG ks).length≤1000:=by simpa only [DG,a9] using bw
 show ((pairsOf (CN ks f)).bind fun(ks,vs)=>if ks.length≤1000 then some (hV mu (FP [] [] ks vs).1 (FP [] [] ks vs).2 m) else none)=_;rw[QF,bq];show (if (DG ks).length≤1000 then some (hV mu (FP [] [] (DG ks) (G7 ks f)).1 (FP [] [] (DG ks) (G7 ks f)).2 m) else none)=_;rw[ag e2,e1];rfl
theorem z_run(H:BE Γ)(fe:nm.Nodup)(bw:nm.length<64){K M:Nat}(hK:K<n){pg:Bl Str}(hS:dw nm ks f)(hF:zf nm K M ⟨pg.list,f,[],0⟩)(hw:f7 M most ⟨pg.list,f,[],0⟩<W)(hb:f7 M most ⟨pg.list,f,[],0⟩≤1000):∃(r:R Str) (bu:List Str),WW.Runs most ⟨pg.list,f,[],0⟩ r∧dw nm bu r.f∧(∀x,0≤r.f x∧r.f x<997)∧r.sh.length≤1000∧BW W Γ (n+2) "run" [.tup (dB pg),.tup (CN ks f),.int most] m0=some (WR nm r,m0):=by
 obtain⟨r,bu,h1,j0,h2,h3,h4⟩:=nM (W:=W) (m0:=m0) H.Vw H.Ry hK (by lia) hS hF hw hb;refine⟨r,bu,h1,j0,h2,h3,?_⟩;have Sn:ks.length≤1000:=eR (hS.nd.length_le_of_subset fun x hx=>hS.sub x hx) (by lia);have So:bu.length<64:=uf (j0.nd.length_le_of_subset fun x hx=>j0.sub x hx) bw;have hd:=VN (f:=f) hS.nd Sn true m0;have hJ:m0++[.aq (DG ks) (G7 ks f)]++[.lst []]=mw m0 ks f []:=by simp[mw]
 have comp:∀x y,ev (BW W Γ (n+1)) (.comp false 1 (.nm 7) (.iw (.con xa)) .tt (.call "page_of" (.cons (.var 4) (.cons (.var 7) .nil)))) [some (.tup (dB pg)),some (.tup (CN ks f)),some (.int most),some (.ak m0.length),some (.ak (m0.length+1)),x,y] (mw m0 bu r.f r.sh)=some (.lst [.tup ((gT r.sh 0).map .int),.tup ((gT r.sh 1).map .int),.tup ((gT r.sh 2).map .int)],mw m0 bu r.f r.sh):=by
  intro x y;rw[K1 (xs:=[.int 0,.int 1,.int 2]) (fun d=>match d with | .int j=>.tup ((gT r.sh j).map .int) | _=>.ao) rfl rfl (d6 rfl)]
  ·rfl
  ·intro d hd
   obtain⟨j,rfl⟩:∃j,d=.int j:=by
    simp only[List.mem_cons,List.not_mem_nil,or_false]at hd;rcases hd with h | h | h<;>exact⟨_,h⟩
   refine⟨[some (.tup (dB pg)),some (.tup (CN ks f)),some (.int most),some (.ak m0.length),some (.ak (m0.length+1)),x,y,some (.int j)],rfl,rfl,CG (u5 H.VQ h3) rfl⟩
 have mE:=nJ (W:=W) (n:=n) (m0:=m0) H.WE So (f:=r.f) (sh:=r.sh);rw[jP fe j0]at mE;refine JR (q:=[.aq (DG bu) (G7 bu r.f),.lst (r.sh.map oi)]) (n:=n+1) H.run rfl (vV nm r) ?_;refine CJ (d:=.ak m0.length) (m1:=m0++[MO.aq (DG ks) (G7 ks f)]) (GD rfl hd) (CJ (d:=.ak (m0.length+1)) (m1:=mw m0 ks f []) ?_ (CJ (CG h4 rfl) (CJ (GD (comp _ _) rfl) (CP (HB (BZ rfl (BZ (CG mE rfl) rfl)) (d6 rfl))))));rw[←hJ];show some (D.ak (m0++[MO.aq (DG ks) (G7 ks f)]).length,_)=_;rw[fN];rfl
inductive Pt where
 | tm (t:Tm Str) | dd (d:Dd Str)
noncomputable def dP:Pt→D
 | .tm t=>dT t
 | .dd d=>dD d
noncomputable def Pt.own:Pt→List Str
 | .tm (.fi x)=>[x]
 | .dd (.put x _)=>[x]
 | _=>[]
noncomputable def Pt.parts:Pt→List Pt
 | .tm (.bin _ a b)=>[.tm a,.tm b]
 | .dd (.put _ e)=>[.tm e]
 | .dd (.cK _ e)=>[.tm e]
 | .dd (.ite e b c)=>.tm e::(b.list.map Pt.dd++c.list.map Pt.dd)
 | .dd (.bh e b)=>.tm e::b.list.map Pt.dd
 | _=>[]
noncomputable def iX:Tm Str→Nat
 | .bin _ a b=>iX a+iX b+1
 | _=>1
mutual
noncomputable def k5:Dd Str→Nat
 | .put _ e=>iX e+1
 | .cK _ e=>iX e+1
 | .ite e b c=>iX e+ny b+ny c+1
 | .bh e b=>iX e+ny b+1
noncomputable def ny:Bl Str→Nat
 | .nil=>0
 | .cons d b=>k5 d+ny b
end
noncomputable def Pt.w:Pt→Nat
 | .tm t=>iX t
 | .dd d=>k5 d
noncomputable def MP:List Pt→Nat
 | []=>0
 | p::r=>p.w+MP r
theorem O1:∀a b:List Pt,MP (a++b)=MP a+MP b
 | [],b=>by simp[MP]
 | p::a,b=>by simp only[List.cons_append,MP,O1 a b];lia
theorem YX:∀b:Bl Str,MP (b.list.map Pt.dd)=ny b
 | .nil=>rfl
 | .cons d b=>by simp only[Bl.list,ck,MP,Pt.w,ny,YX b]
theorem U0(p:Pt):MP p.parts+1=p.w:=by
 cases p with
 | tm t=>cases t<;>simp only[Pt.parts,MP,Pt.w,iX]<;>lia
 | dd d=>cases d<;>simp only[Pt.parts,MP,Pt.w,k5,O1,YX]<;>lia
mutual
noncomputable def qt:Dd Str→List Str
 | .put x e=>x::e.names
 | .cK _ e=>e.names
 | .ite e b c=>e.names++nv b++nv c
 | .bh e b=>e.names++nv b
noncomputable def nv:Bl Str→List Str
 | .nil=>[]
 | .cons d b=>qt d++nv b
end
noncomputable def Pt.N:Pt→List Str
 | .tm t=>t.names
 | .dd d=>qt d
theorem jD{x:Str}:∀b:Bl Str,x∈nv b↔∃p∈b.list.map Pt.dd,x∈p.N
 | .nil=>by simp[nv,Bl.list]
 | .cons d b=>by simp only[nv,List.mem_append,Bl.list,ck,List.mem_cons,exists_eq_or_imp,jD b,Pt.N]
theorem iC(p:Pt)(x:Str):x∈p.N↔x∈p.own∨∃q∈p.parts,x∈q.N:=by
 cases p with
 | tm t=>cases t<;>simp[Pt.N,Pt.own,Pt.parts,Tm.names]
 | dd d=>
  cases d with
  | put y e=>simp[Pt.N,Pt.own,Pt.parts,qt]
  | cK l e=>simp[Pt.N,Pt.own,Pt.parts,qt]
  | ite e b c=>
   simp only[Pt.N,Pt.own,Pt.parts,qt,List.mem_append,List.not_mem_nil,false_or,List.mem_cons,exists_eq_or_imp,jD];constructor
   ·rintro ((h | ⟨p,h1,h2⟩) | ⟨p,h1,h2⟩)
    ·exact .inl h
    ·exact .inr ⟨p,.inl h1,h2⟩
    ·exact .inr ⟨p,.inr h1,h2⟩
   ·rintro (h | ⟨p,h1 | h1,h2⟩)
    ·exact .inl (.inl h)
    ·exact .inl (.inr ⟨p,h1,h2⟩)
    ·exact .inr ⟨p,h1,h2⟩
  | bh e b=>simp only[Pt.N,Pt.own,Pt.parts,qt,List.mem_append,List.not_mem_nil,false_or,List.mem_cons,exists_eq_or_imp,jD]
theorem Lf(b:Bl Str):(b.list.map Pt.dd).map dP=dB b:=by
 rw[JF,df];rfl
theorem Nl(d:Dd Str):1≤k5 d:=by cases d<;>simp only[k5]<;>lia
theorem j5:∀b:Bl Str,(dB b).length≤ny b
 | .nil=>aT _
 | .cons d b=>by
  have:=j5 b;have:=Nl d;simp only[dB,kn,ny];lia
theorem qe{a b c:D}:qf (.tup [a,b,c]) (some 2) none=some (.tup [c]):=rfl
theorem lQ{ys:List Str}:LQ .isin (.str x) (.tup (ys.map .str))=some (ys.any fun y=>decide (x=y)):=by
 have h1:D.flat (.str x)=true:=rfl;have h2:=eG ys;have h3:inD (.str x) (ys.map .str)=ys.any fun y=>decide (x=y):=by
  simp only[inD,List.any_map];rfl
 show (if D.flat (.str x)&&(ys.map D.str).all D.flat then some (inD (.str x) (ys.map .str)) else none)=_;rw[h1,h2,h3];rfl
theorem Qj{b:Str}:LQ .isin (.str x) (.tup [.str a,.str b])=some (decide (x=a)||decide (x=b)):=by
 have:=lQ (x:=x) (ys:=[a,b]);simpa using this
theorem Qi{b c:Str}:LQ .isin (.str x) (.tup [.str a,.str b,.str c])=some (decide (x=a)||(decide (x=b)||decide (x=c))):=by
 have:=lQ (x:=x) (ys:=[a,b,c]);simpa using this
theorem AF{a b c:String}{v:Bool}(h:(decide (a=b)||decide (a=c))=v):LQ .isin (.str (Str.ofString a)) (.tup [.str (Str.ofString b),.str (Str.ofString c)])=some v:=by rw[Qj];simp only[ofString_eq,h]
theorem UR{a b c d:String}{v:Bool}(h:(decide (a=b)||(decide (a=c)||decide (a=d)))=v):LQ .isin (.str (Str.ofString a)) (.tup [.str (Str.ofString b),.str (Str.ofString c),.str (Str.ofString d)])=some v:=by rw[Qi];simp only[ofString_eq,h]
theorem Nu(H:Γ "parts_of" = some KY)(p:Pt)(hl:p.w≤4000):BW W Γ (n+1) "parts_of" [dP p] m=some (.tup (p.parts.map dP),m):=by
 have cl:∀ps:List Pt,D.clean.cj (ps.map dP)=true:=fun ps=>by
  induction ps with
  | nil=>rfl
  | cons q r ih=>
   have:(dP q).clean=true:=by
    cases q with
    | tm t=>exact N8 t
    | dd d=>exact T8 d
   simp[this,ih]
 have t1:∀(a:String) (v:Bool) (σ:DS),(decide (a = "number")||decide (a = "name"))=v→σ[1]?=some (some (.str (Str.ofString a)))→et (BW W Γ n) (.val (.cmp .isin (.var 1) (.tup (.cons (.con (.str "number")) (.cons (.con (.str "name")) .nil))))) σ m=some (v,m):=fun a v σ h xN=>G3 (HD (d:=.str (Str.ofString a)) (by rw[sd,xN]) rfl (AF h)) rfl
 have t2:∀(a:String) (v:Bool) (σ:DS),(decide (a = "sum")||(decide (a = "times")||decide (a = "less")))=v→σ[1]?=some (some (.str (Str.ofString a)))→et (BW W Γ n) (.val (.cmp .isin (.var 1) (.con xb))) σ m=some (v,m):=fun a v σ h xN=>G3 (HD (d:=.str (Str.ofString a)) (by rw[sd,xN]) rfl (UR h)) rfl
 have t3:∀(a:String) (v:Bool) (σ:DS),(decide (a = "put")||decide (a = "show"))=v→σ[1]?=some (some (.str (Str.ofString a)))→et (BW W Γ n) (.val (.cmp .isin (.var 1) (.tup (.cons (.con (.str "put")) (.cons (.con (.str "show")) .nil))))) σ m=some (v,m):=fun a v σ h xN=>G3 (HD (d:=.str (Str.ofString a)) (by rw[sd,xN]) rfl (AF h)) rfl
 refine DN H rfl (cl _) ?_;cases p with
 | tm t=>
  cases t with
  | num k=>exact CJ rfl (GJ (t1 "number" true _ (by decide) rfl) (CP rfl))
  | fi x=>exact CJ rfl (GJ (t1 "name" true _ (by decide) rfl) (CP rfl))
  | bin o a b=>exact CJ rfl (FQ (t1 (rq o) false _ (by cases o<;>decide) rfl) (GJ (t2 (rq o) true _ (by cases o<;>decide) rfl) (CP rfl)))
 | dd d=>
  cases d with
  | put x e=>exact CJ rfl (FQ (t1 "put" false _ (by decide) rfl) (FQ (t2 "put" false _ (by decide) rfl) (GJ (t3 "put" true _ (by decide) rfl) (CP rfl))))
  | cK l e=>exact CJ rfl (FQ (t1 "show" false _ (by decide) rfl) (FQ (t2 "show" false _ (by decide) rfl) (GJ (t3 "show" true _ (by decide) rfl) (CP rfl))))
  | ite e b c=>
   have h1:=j5 b;have h2:=j5 c;simp only[Pt.w,k5]at hl;rw[show (Pt.parts (.dd (.ite e b c))).map dP=[dT e]++dB b++dB c by
    rw[JF,JF];show dT e::_=_;rw[ft,df,df];rfl]
   exact CJ rfl (FQ (t1 "if" false _ (by decide) rfl) (FQ (t2 "if" false _ (by decide) rfl) (FQ (t3 "if" false _ (by decide) rfl) (GJ (JC (p:=Str.ofString "if" = Str.ofString "if") rfl rfl) (CP (EY (EY rfl rfl (NK (by rw[l9];lia))) rfl (NK (by rw[fN,l9];lia))))))))
  | bh e b=>
   have h1:=j5 b;simp only[Pt.w,k5]at hl;rw[show (Pt.parts (.dd (.bh e b))).map dP=[dT e]++dB b by
    rw[JF];show dT e::_=_;rw[df];rfl]
   exact CJ rfl (FQ (t1 "while" false _ (by decide) rfl) (FQ (t2 "while" false _ (by decide) rfl) (FQ (t3 "while" false _ (by decide) rfl) (FQ (HS (p:=Str.ofString "while" = Str.ofString "if") rfl (eW (by decide))) (CP (EY rfl rfl (NK (by rw[l9];lia))))))))
noncomputable def kP(ks:List Str):List D:=ks.map fun _=>.bl true
noncomputable def R9(ks:List Str):List Str→List Str
 | []=>ks
 | x::r=>R9 (if x∈ks then ks else ks++[x]) r
noncomputable def mn(m0:Mem)(ks:List Str)(ps:List Pt):Mem:=m0++[.aq (DG ks) (kP ks),.lst (ps.map dP)]
noncomputable def sN(b:Nat)(prog:D)(x3:Option D):DS:=[some prog,some (.ak b),some (.ak (b+1)),x3]
noncomputable def tK:bp:=Ga (KD 2 U9)
section
variable{bu:List Str}{ps qd:List Pt}
theorem Jk:(mn m0 ks ps)[m0.length]?=some (.aq (DG ks) (kP ks)):=by simp[mn]
theorem Es:(mn m0 ks ps)[m0.length+1]?=some (.lst (ps.map dP)):=by simp[mn]
theorem QO:(mn m0 ks ps).set m0.length (.aq (DG bu) (kP bu))=mn m0 bu ps:=by simp[mn]
theorem Gm:(mn m0 ks ps).set (m0.length+1) (.lst (qd.map dP))=mn m0 ks qd:=by simp[mn]
end
theorem qQ{x:Str}:∀{ks:List Str},gQ (DG ks) (kP ks) (.inr x) (.bl true)=kP ks
 | []=>rfl
 | y::r=>by
  show (if (Sum.inr y:Key)=.inr x then D.bl true else .bl true)::gQ (DG r) (kP r) (.inr x) (.bl true)=_;rw[qQ,ite_self];rfl
theorem L0:putD (DG ks) (kP ks) (.inr x) (.bl true)=(DG (R9 ks [x]),kP (R9 ks [x])):=by
 by_cases h:x∈ks
 ·rw[putD,ag (jF h),qQ]
  simp[R9,h]
 ·rw[putD,jG h]
  simp[R9,h,DG,kP]
theorem Cy{x:Str}:∀{l ks:List Str},x∈R9 ks l↔x∈ks∨x∈l
 | [],ks=>by simp[R9]
 | y::r,ks=>by
  rw[R9,Cy]
  by_cases h:y∈ks
  ·rw[ag h]
   simp only[List.mem_cons];constructor
   ·rintro (q | q)
    ·exact .inl q
    ·exact .inr (.inr q)
   ·rintro (q | rfl | q)
    ·exact .inl q
    ·exact .inl h
    ·exact .inr q
  ·rw[ai h]
   simp[List.mem_append,or_assoc]
theorem jJ:∀{l ks:List Str},ks.Nodup→(R9 ks l).Nodup
 | [],ks,h=>h
 | y::r,ks,h=>by
  rw[R9]
  by_cases q:y∈ks
  ·rw[ag q];exact jJ h
  ·rw[ai q]
   exact jJ (List.nodup_append.mpr ⟨h,by simp,fun a ha b hb e=>q (by rw[←fg hb,←e];exact ha)⟩)
theorem m8:∀ps:List Pt,D.clean.cj (ps.map dP)=true
 | []=>rfl
 | q::r=>by
  have:(dP q).clean=true:=by
   cases q with
   | tm t=>exact N8 t
   | dd d=>exact T8 d
  simp[this,m8 r]
theorem Oz(p:Pt):1≤p.w:=by have:=U0 p;lia
theorem iB:∀ps:List Pt,ps.length≤MP ps
 | []=>aT _
 | p::r=>by
  have:=iB r;have:=Oz p;simp only[kn,MP];lia
section
variable{prog:D}
theorem OM(p:Pt):∃k:String,(∀m,j1 (dP p) (.int 0) m=some (.str (Str.ofString k)))∧(((k = "name"∨k = "put")∧∃x,p.own=[x]∧∀m,j1 (dP p) (.int 1) m=some (.str x))∨(k≠"name"∧k≠"put"∧p.own=[])):=by
 cases p with
 | tm t=>
  cases t with
  | num k=>exact⟨"number",fun _=>rfl,.inr ⟨by decide,by decide,rfl⟩⟩
  | fi x=>exact⟨"name",fun _=>rfl,.inl ⟨.inl rfl,x,rfl,fun _=>rfl⟩⟩
  | bin o a b=>cases o<;>exact⟨_,fun _=>rfl,.inr ⟨by decide,by decide,rfl⟩⟩
 | dd d=>
  cases d with
  | put x e=>exact⟨"put",fun _=>rfl,.inl ⟨.inr rfl,x,rfl,fun _=>rfl⟩⟩
  | cK l e=>exact⟨"show",fun _=>rfl,.inr ⟨by decide,by decide,rfl⟩⟩
  | ite e b c=>exact⟨"if",fun _=>rfl,.inr ⟨by decide,by decide,rfl⟩⟩
  | bh e b=>exact⟨"while",fun _=>rfl,.inr ⟨by decide,by decide,rfl⟩⟩
theorem OR(H:Γ "parts_of" = some KY){r:List Pt}{p:Pt}{x3:Option D}(hp:MP (r++[p])≤4000)(hk:ks.length<64):aE (BW W Γ (n+1)) W tK (sN m0.length prog x3) (mn m0 ks (r++[p]))=some (.nx (sN m0.length prog (some (dP p))),mn m0 (R9 ks p.own) (r++p.parts)):=by
 have hb:tK=.cons (.set 3 (.pop (.var 2))) (.cons (.ite (.val (.cmp .isin (.ix (.var 3) (.con (.int 0))) (.tup (.cons (.con (.str "name")) (.cons (.con (.str "put")) .nil))))) (.cons (.put (.var 1) (.ix (.var 3) (.con (.int 1))) (.con (.bl true))) .nil) .nil) (.cons (.drop (.ext (.var 2) (.call "parts_of" (.cons (.var 3) .nil)))) .nil)):=rfl;rw[O1]at hp;have tf:p.w≤4000:=by simp only[MP]at hp;lia
 have pS:((r++[p]).map dP)[((r++[p]).map dP).length-1]?=some (dP p):=by simp
 have sD:((r++[p]).map dP).dropLast=r.map dP:=by simp
 have p1:ev (BW W Γ (n+1)) (.pop (.var 2)) (sN m0.length prog x3) (mn m0 ks (r++[p]))=some (dP p,mn m0 ks r):=by
  rw[Pk rfl Es pS,sD,Gm]
 have sP:=U0 p;have hlen:=iB p.parts;have Yl:=iB r;have rest:aE (BW W Γ (n+1)) W (.cons (.drop (.ext (.var 2) (.call "parts_of" (.cons (.var 3) .nil)))) .nil) (sN m0.length prog (some (dP p))) (mn m0 (R9 ks p.own) r)=some (.nx (sN m0.length prog (some (dP p))),mn m0 (R9 ks p.own) (r++p.parts)):=by
  have hc:=Nu (W:=W) (n:=n) (m:=mn m0 (R9 ks p.own) r) H p tf;have s1:(mn m0 (R9 ks p.own) r).set (m0.length+1) (.lst (r.map dP++p.parts.map dP))=mn m0 (R9 ks p.own) (r++p.parts):=by rw[←ft,Gm]
  exact IW (Nb rfl (CG hc rfl) Es (m8 p.parts) (by rw[a9,a9];simp only[MP]at hp;lia)) (RD s1)
 rw[hb];refine CJ p1 ?_;obtain⟨k,An,h | ⟨h1,h2,h3⟩⟩:=OM p
 ·obtain⟨ku,x,hx,Ea⟩:=h
  have jS:LQ .isin (.str (Str.ofString k)) (.tup [.str "name",.str "put"])=some true:=AF (by rcases ku with rfl | rfl<;>decide);rw[hx]at rest ⊢;exact JQ (G3 (HD (LK (d:=dP p) rfl rfl (An _)) rfl jS) rfl) (fV (z:=.bl true) rfl rfl (LK (d:=dP p) rfl rfl (Ea _)) Jk rfl rfl (by rw[DG,a9];lia) (RD (by rw[L0];exact QO))) rest
 ·have jS:LQ .isin (.str (Str.ofString k)) (.tup [.str "name",.str "put"])=some false:=AF (by rw[dm h1,dm h2];rfl)
  have hz:R9 ks p.own=ks:=by rw[h3];rfl
  rw[hz]at rest ⊢;exact FQ (G3 (HD (LK (d:=dP p) rfl rfl (An _)) rfl jS) rfl) rest
theorem OS(H:Γ "parts_of" = some KY)(fe:nm.length<64):∀(w:Nat) (ps:List Pt) (ks:List Str) (x3:Option D),MP ps<w→MP ps≤4000→ks.Nodup→(∀x∈ks,x∈nm)→(∀p∈ps,∀x∈p.N,x∈nm)→∃bu EN,bu.Nodup∧(∀x,x∈bu↔x∈ks∨∃p∈ps,x∈p.N)∧
  M7 (et (BW W Γ (n+1)) (.val (.var 2))) (fun σ m=>aE (BW W Γ (n+1)) W tK σ m) w (sN m0.length prog x3) (mn m0 ks ps)=some (.nx (sN m0.length prog EN),mn m0 bu []):=by
 intro w
 induction w with
 | zero=>intro ps ks x3 h;lia
 | succ w ih=>
  intro ps ks x3 hw hb b9 fh mB;have ke:et (BW W Γ (n+1)) (.val (.var 2)) (sN m0.length prog x3) (mn m0 ks ps)=some (!ps.isEmpty,mn m0 ks ps):=by
   have h2:(sN m0.length prog x3)[2]?=some (some (.ak (m0.length+1))):=rfl;have he:(ps.map dP).isEmpty=ps.isEmpty:=by simp
   exact G3 (d:=.ak (m0.length+1)) rfl ((Cu Es).trans (by rw[he]))
  rcases List.eq_nil_or_concat ps with rfl | ⟨r,p,rfl⟩
  ·refine⟨ks,x3,b9,fun x=>by simp,?_⟩
   rw[M7,ke];rfl
  ·rw[List.concat_eq_append]at *
   have hl:ks.length<64:=uf (b9.length_le_of_subset fh) fe;have uS:∀x∈p.own,x∈p.N:=fun x hx=>(iC p x).mpr (.inl hx)
   have sP:=U0 p;rw[O1]at hw hb;simp only[MP]at hw hb;obtain⟨bu,EN,q1,q2,q3⟩:=ih (r++p.parts) (R9 ks p.own) (some (dP p)) (by rw[O1];lia) (by rw[O1];lia) (jJ b9)
    (fun x hx=>(Cy.mp hx).elim (fh x) fun q=>mB p (by simp) x (uS x q))
    (fun q hq x hx=>by
     rcases de hq with h | h
     ·exact mB q (by simp[h]) x hx
     ·exact mB p (by simp) x ((iC p x).mpr (.inr ⟨q,h,hx⟩)))
   refine⟨bu,EN,q1,fun x=>?_,?_⟩
   ·rw[q2,Cy]
    constructor
    ·rintro ((h | h) | ⟨q,hq,h⟩)
     ·exact .inl h
     ·exact .inr ⟨p,by simp,uS x h⟩
     ·rcases de hq with hq | hq
      ·exact .inr ⟨q,by simp[hq],h⟩
      ·exact .inr ⟨p,by simp,(iC p x).mpr (.inr ⟨q,hq,h⟩)⟩
    ·rintro (h | ⟨q,hq,h⟩)
     ·exact .inl (.inl h)
     ·rcases de hq with hq | hq
      ·exact .inr ⟨q,by simp[hq],h⟩
      ·rw[fg hq]at h
       rcases(iC p x).mp h with h | ⟨dj,h1,h2⟩
       ·exact .inl (.inr h)
       ·exact .inr ⟨dj,by simp[h1],h2⟩
   ·have ne:(r++[p]).isEmpty=false:=by simp
    rw[M7,ke,ne];simp only[bq,Bool.not_false,if_true];rw[OR H (by rw[O1];simp only[MP];lia) hl];exact q3
theorem bL(Hp:Γ "parts_of" = some KY)(H:Γ "names_of" = some UW)(fe:nm.length<64){ps:List Pt}(hw:MP ps<W)(hb:MP ps≤4000)(mB:∀p∈ps,∀x∈p.N,x∈nm):∃ks,ks.Nodup∧(∀x,x∈ks↔∃p∈ps,x∈p.N)∧BW W Γ (n+2) "names_of" [.tup (ps.map dP)] m0=some (.tup ((DQ ks).map .str),m0):=by
 obtain⟨ks,x3,q1,q2,q3⟩:=OS (W:=W) (n:=n) (m0:=m0) (prog:=.tup (ps.map dP)) Hp fe W ps [] none hw hb nB (by simp) mB;refine⟨ks,q1,fun x=>by rw[q2];simp,?_⟩;have hl:ks.length<64:=uf (q1.length_le_of_subset fun x hx=>by
  obtain h | ⟨p,hp,hx⟩:=(q2 x).mp hx
  ·simp at h
  ·exact mB p hp x hx) fe
 have hs:∀m,m[m0.length]?=some (.aq (DG ks) (kP ks))→cy (.t5 false) (.ak m0.length) m=some (.lst ((DQ ks).map .str),m):=fun m hm=>by
  have e1:(DG ks).map cy.kD=ks.map .str:=by simp[DG,cy.kD]
  have e2:(DG ks).length<64:=by simpa[DG] using hl
  have hd:GX (.ak m0.length) m=some (DG ks,kP ks):=by simp only[GX,hm]
  show ((GX (.ak m0.length) m).bind fun(ks,_)=>if ks.length<64 then (strsOf (ks.map cy.kD)).map fun ss=>bE false ((DQ ss).map .str) m else none)=_;rw[hd,bq];show (if (DG ks).length<64 then (strsOf ((DG ks).map cy.kD)).map fun ss=>bE false ((DQ ss).map .str) m else none)=_;rw[ag e2,e1,YW];rfl
 have hm:m0++[.aq [] []]++[.lst (ps.map dP)]=mn m0 [] ps:=by simp[mn,DG,kP]
 have Ao:cy (.list true) (.tup (ps.map dP)) (m0++[.aq [] []])=some (.ak (m0.length+1),mn m0 [] ps):=by
  show some (bE true (ps.map dP) (m0++[.aq [] []]))=_;rw[←hm];simp[bE]
 have cm:D.clean.cj ((DQ ks).map .str)=true:=by
  generalize DQ ks=l
  induction l with
  | nil=>rfl
  | cons a r ih=>simp[ih]
 exact JR (q:=[.aq (DG ks) (kP ks),.lst []]) (n:=n+1) H rfl cm (CJ (d:=.ak m0.length) (m1:=m0++[MO.aq [] []]) rfl (CJ (d:=.ak (m0.length+1)) (m1:=mn m0 [] ps) (GD rfl Ao) (fU (b:=tK) q3 (CP (GD (GD rfl (hs _ Jk)) rfl)))))
end
noncomputable def aQ(g:Str→Int)(l:Int):Dd Str→Bool
 | .put x _=>decide (g x≤l)
 | .cK k _=>decide (k≤l)
 | .ite e _ _=>e.names.all fun x=>decide (g x≤l)
 | .bh _ _=>true
mutual
noncomputable def kh(g:Str→Int)(l:Int):Dd Str→Dd Str
 | .put x e=>.put x e
 | .cK k e=>.cK k e
 | .ite e b c=>.ite e (je g l b) (je g l c)
 | .bh e b=>.bh e (je g l b)
noncomputable def je(g:Str→Int)(l:Int):Bl Str→Bl Str
 | .nil=>.nil
 | .cons d b=>bif aQ g l d then .cons (kh g l d) (je g l b) else je g l b
end
mutual
theorem Po{g:Str→Int}{l:Int}{P:Str→Prop}:∀d:Dd Str,d.Ok P→(kh g l d).Ok P∧(kh g l d).dep≤d.dep∧(kh g l d).size≤d.size
 | .put x e,h=>by simp only[kh];exact⟨h,aT _,aT _⟩
 | .cK k e,h=>by simp only[kh];exact⟨h,aT _,aT _⟩
 | .ite e b c,h=>by
  obtain⟨h1,h2,h3⟩:=bK (g:=g) (l:=l) b h.2.1;obtain⟨h4,h5,h6⟩:=bK (g:=g) (l:=l) c h.2.2;simp only[kh,Dd.dep,Dd.size];exact⟨⟨h.1,h1,h4⟩,by lia,by lia⟩
 | .bh e b,h=>by
  obtain⟨h1,h2,h3⟩:=bK (g:=g) (l:=l) b h.2;simp only[kh,Dd.dep,Dd.size];exact⟨⟨h.1,h1⟩,by lia,by lia⟩
theorem bK{g:Str→Int}{l:Int}{P:Str→Prop}:∀b:Bl Str,b.Ok P→(je g l b).Ok P∧(je g l b).dep≤b.dep∧(je g l b).size≤b.size
 | .nil,_=>by simp only[je];exact⟨trivial,aT _,aT _⟩
 | .cons d b,h=>by
  obtain⟨h1,h2,h3⟩:=Po (g:=g) (l:=l) d h.1;obtain⟨h4,h5,h6⟩:=bK (g:=g) (l:=l) b h.2;cases q:aQ g l d with
  | true=>
   simp only[je,q,cond_true,Bl.dep,Bl.size];exact⟨⟨h1,h4⟩,by lia,by lia⟩
  | false=>
   simp only[je,q,cond_false,Bl.dep,Bl.size];exact⟨h4,by lia,by lia⟩
end
theorem O4{α:Type}{k:Nat}{g:Tg}{i:Ie}{t:Te}{e:Ex}{xs:List α}{dd:α→D}{h:α→Option D}(ho:k9 σ.length g=true)(hi:ei C i σ m=some (⟨xs.map dd,none⟩,m))(hl:xs.length≤1000)(hf:∀a∈xs,∃σ1 c,JL g (dd a) (σ++List.replicate k none)=some σ1∧et C t σ1 m=some (c,m)∧(if c=true then (h a).isSome=true∧ev C e σ1 m=some ((h a).getD .ao,m) else h a=none)):ev C (.comp false k g i t e) σ m=some (.lst (xs.filterMap h),m):=by
 have key:∀(ys:List α) (w:List D),(∀a∈ys,a∈xs)→S8 ⟨w,none⟩ (fun d m=>(JL g d (σ++List.replicate k none)).bind fun σ1=>(et C t σ1 m).bind fun(c,m2)=>if c then (ev C e σ1 m2).map fun(y,m3)=>(some y,m3) else some (none,m2)) (ys.map dd) m=some (ys.filterMap h,m):=by
  intro ys w
  induction ys with
  | nil=>exact fun _=>rfl
  | cons a r ih=>
   intro hs;obtain⟨σ1,c,e1,e2,e3⟩:=hf a (hs a bX);have ih:=ih fun b hb=>hs b (b8 _ hb)
   rw[ck,S8,ag (show Walk.ok ⟨w,none⟩ m=true from rfl)];cases c with
   | true=>
    rw[ag rfl]at e3;obtain⟨e3,e4⟩:=e3;simp only[e1,e2,bq,if_true,e4,i8,ih];cases hh:h a with
    | none=>rw[hh]at e3;cases e3
    | some y=>simp[List.filterMap_cons,hh]
   | false=>
    rw[ai (by decide)]at e3;simp only[e1,e2,bq,Bool.false_eq_true,if_false,ih];simp[List.filterMap_cons,e3]
 show (if k9 σ.length g=true then (ei C i σ m).bind _ else none)=_;rw[ag ho,hi];simp only[bq];rw[key xs _ fun a h=>h];have:=List.length_filterMap_le h xs;simp only[bq];rw[ag (by lia)];rfl
theorem Fl{α:Type}(f:α→Bool):∀l:List α,bR (l.map fun x=>.bl (f x))=some (l.map f)
 | []=>rfl
 | a::r=>by
  have:=Fl f r;simp only[ck,bR,this,i8]
theorem ND{α:Type}(f:α→Bool)(l:List α)(m:Mem):cy .all (.lst (l.map fun x=>.bl (f x))) m=some (.bl (l.all f),m):=by
 show ((bR (l.map fun x=>D.bl (f x))).map fun bs=>(D.bl (bs.all id),m))=_;rw[Fl];simp[List.all_map,Function.comp_def]
theorem nW:∀t:Tm Str,iX t+1≤2 ^ (t.dep+1)
 | .num _=>by simp[iX,Tm.dep]
 | .fi _=>by simp[iX,Tm.dep]
 | .bin _ a b=>by
  have h1:=nW a;have h2:=nW b;have h3:2 ^ (a.dep+1)≤2 ^ (max a.dep b.dep+1):=Nat.pow_le_pow_right (by lia) (by lia);have h4:2 ^ (b.dep+1)≤2 ^ (max a.dep b.dep+1):=Nat.pow_le_pow_right (by lia) (by lia);simp only[iX,Tm.dep];rw[Nat.pow_succ];lia
noncomputable def bo(hk:List Str)(g:Str→Int):D:=.aq (DG hk) (G7 hk g)
theorem iV(hS:dw nm hk g){d k z:Ex}(h1:ev C d σ m=some (bo hk g,m))(h2:ev C k σ m=some (.str x,m))(h3:ev C z σ m=some (.int 0,m)):ev C (.get d k z) σ m=some (.int (g x),m):=by
 have:GX (bo hk g) m=some (DG hk,G7 hk g):=rfl;simp only[Oc,h1,bq,this,h2,h3,MF,i8,lN hS]
end T
namespace WW
section
variable{N:Type}[DecidableEq N]
variable(g:N→Int)(l:Int)
mutual
def BN:Dd N→Prop
 | .put x _=>l<g x
 | .cK k _=>l<k
 | .ite _ b c=>r8 b∧r8 c
 | .bh _ _=>False
def r8:Bl N→Prop
 | .nil=>True
 | .cons d b=>BN d∧r8 b
end
noncomputable def V3:Dd N→Bool
 | .put x _=>decide (g x≤l)
 | .cK k _=>decide (k≤l)
 | .ite e _ _=>e.names.all fun x=>decide (g x≤l)
 | .bh _ _=>true
mutual
noncomputable def cutD:Dd N→Dd N
 | .put x e=>.put x e
 | .cK k e=>.cK k e
 | .ite e b c=>.ite e (VP b) (VP c)
 | .bh e b=>.bh e (VP b)
noncomputable def VP:Bl N→Bl N
 | .nil=>.nil
 | .cons d b=>bif V3 g l d then .cons (cutD d) (VP b) else VP b
end
mutual
def BU:Dd N→Prop
 | .put x e=>g x≤l→∀y∈e.names,g y≤l
 | .cK k e=>k≤l→∀y∈e.names,g y≤l
 | .ite e b c=>((∀y∈e.names,g y≤l)∧qj b∧qj c)∨((¬∀y∈e.names,g y≤l)∧r8 g l b∧r8 g l c)
 | .bh e b=>(∀y∈e.names,g y≤l)∧qj b
def qj:Bl N→Prop
 | .nil=>True
 | .cons d b=>BU d∧qj b
end
inductive Rel:List (Dd N)→List (Dd N)→Prop where
 | nil:Rel [] []
 | same {d:Dd N} {a b:List (Dd N)}:V3 g l d=true→BU g l d→Rel a b→Rel (d::a) (cutD g l d::b)
 | drop {d:Dd N} {a b:List (Dd N)}:BN g l d→Rel a b→Rel (d::a) b
variable{g l}
theorem oR{a b:List (Dd N)}(h:Rel g l a b):∀{c:Bl N},r8 g l c→Rel g l (c.list++a) b
 | .nil,_=>h
 | .cons d c,hc=>.drop hc.1 (oR h hc.2)
theorem aA{a b:List (Dd N)}(h:Rel g l a b):∀{c:Bl N},qj g l c→Rel g l (c.list++a) ((VP g l c).list++b)
 | .nil,_=>h
 | .cons d c,hc=>by
  have ih:=aA h hc.2;cases hs:V3 g l d with
  | true=>
   simp only[VP,hs,cond_true];exact .same hs hc.1 ih
  | false=>
   simp only[VP,hs,cond_false];refine .drop ?_ ih;cases d with
   | put x e=>simp only[V3,decide_eq_false_iff_not]at hs;exact Int.lt_of_not_ge hs
   | cK k e=>simp only[V3,decide_eq_false_iff_not]at hs;exact Int.lt_of_not_ge hs
   | ite e fm cw=>
    rcases hc.1 with h1 | h1
    ·exfalso
     have:(e.names.all fun x=>decide (g x≤l))=true:=List.all_eq_true.mpr fun y hy=>dk (h1.1 y hy)
     simp only[V3,this]at hs;cases hs
    ·exact⟨h1.2.1,h1.2.2⟩
   | bh e fm=>cases hs
theorem Tm.val_eq{f dn:N→Int}:∀{t:Tm N},(∀y∈t.names,f y=dn y)→t.val f=t.val dn
 | .num n,_=>rfl
 | .fi x,h=>h x (by simp[Tm.names])
 | .bin o a b,h=>by
  have h1:=Tm.val_eq (t:=a) fun y hy=>h y (by simp[Tm.names,hy])
  have h2:=Tm.val_eq (t:=b) fun y hy=>h y (by simp[Tm.names,hy])
  simp only[Tm.val,h1,h2]
noncomputable def X4(l:Int)(sh:List (Int×Int)):List (Int×Int):=sh.filter fun p=>decide (p.1≤l)
theorem Runs.ya{s s':S N}{r:R N}(e:step most s=.inl s')(h:Runs most s r):Runs most s' r:=by
 cases h with
 | done e2=>rw[e]at e2;cases e2
 | next e2 q=>rw[e]at e2;cases e2;exact q
theorem Runs.IX{s:S N}{r cn:R N}(e:step most s=.inr cn)(h:Runs most s r):r=cn:=by
 cases h with
 | done e2=>rw[e]at e2;cases e2;rfl
 | next e2 q=>rw[e]at e2;cases e2
theorem Nn{s:S N}{r:R N}(h:Runs most s r):∀{st2:List (Dd N)} {f2:N→Int} {r2:R N},Rel g l s.st st2→(∀x,g x≤l→s.f x=f2 x)→Runs most ⟨st2,f2,X4 l s.sh,s.t⟩ r2→r.t=r2.t∧(∀x,g x≤l→r.f x=r2.f x)∧(∀x,l<g x→r2.f x=f2 x)∧r2.sh=X4 l r.sh:=by
 induction h with
 | @done s r e=>
  intro st2 f2 r2 R hf h2;obtain⟨st,f,sh,t⟩:=s;cases R with
  | nil=>
   cases iF e;cases h2.IX rfl;exact⟨rfl,hf,fun _ _=>rfl,rfl⟩
  | @same d a b hs hl eL=>
   cases d with
   | put x e1=>cases e
   | cK k e1=>cases e
   | ite e1 fm cw=>cases e
   | bh e1 fm=>
    have hv:e1.val f=e1.val f2:=Tm.val_eq fun y hy=>hf y (hl.1 y hy)
    simp only[step]at e;split at e
    ·rename_i h1
     split at e
     ·rename_i h3
      cases iF e;have e2:step most ⟨cutD g l (.bh e1 fm)::b,f2,X4 l sh,t⟩=.inr ⟨none,f2,X4 l sh⟩:=by simp only[cutD,step,←hv,ag h1,ag h3]
      cases h2.IX e2;exact⟨rfl,hf,fun _ _=>rfl,rfl⟩
     ·cases e
    ·cases e
  | @drop d a b hd eL=>
   cases d with
   | put x e1=>cases e
   | cK k e1=>cases e
   | ite e1 fm cw=>cases e
   | bh e1 fm=>cases hd
 | @next s s' r e _ ih=>
  intro st2 f2 r2 R hf h2;obtain⟨st,f,sh,t⟩:=s;cases R with
  | nil=>cases e
  | @same d a b hs hl eL=>
   cases d with
   | put x e1=>
    cases Sum.inl.inj e;have hx:g x≤l:=by simpa[V3] using hs
    have hv:e1.val f=e1.val f2:=Tm.val_eq fun y hy=>hf y (hl hx y hy)
    obtain⟨i1,i2,i3,i4⟩:=ih eL (f2:=JV f2 x (e1.val f2)) (fun y hy=>by
     simp only[JV];split
     ·exact hv
     ·exact hf y hy) (h2.ya rfl)
    refine⟨i1,i2,fun y hy=>?_,i4⟩;rw[i3 y hy];simp only[JV];rw[ai fun z=>by subst z;lia]
   | cK k e1=>
    cases Sum.inl.inj e;have hx:k≤l:=by simpa[V3] using hs
    have hv:e1.val f=e1.val f2:=Tm.val_eq fun y hy=>hf y (hl hx y hy)
    refine ih eL hf ?_;have:X4 l (sh++[(k,e1.val f)])=X4 l sh++[(k,e1.val f2)]:=by simp[X4,hx,hv]
    rw[this];exact h2.ya rfl
   | ite e1 fm cw=>
    cases Sum.inl.inj e;have sF:∀y∈e1.names,g y≤l:=fun y hy=>gq (lL hs y hy)
    have uB:qj g l fm∧qj g l cw:=by
     rcases hl with h1 | h1
     ·exact h1.2
     ·exact absurd sF h1.1
    have hv:e1.val f=e1.val f2:=Tm.val_eq fun y hy=>hf y (sF y hy)
    refine ih (st2:=(if e1.val f2≠0 then (VP g l fm).list else (VP g l cw).list)++b) ?_ hf (h2.ya rfl);simp only[hv];split
    ·exact aA eL uB.1
    ·exact aA eL uB.2
   | bh e1 fm=>
    have hv:e1.val f=e1.val f2:=Tm.val_eq fun y hy=>hf y (hl.1 y hy)
    simp only[step]at e;split at e
    ·rename_i h1
     split at e
     ·cases e
     ·rename_i h3
      cases Sum.inl.inj e;exact ih (aA (.same (d:=.bh e1 fm) hs hl eL) hl.2) hf (h2.ya (by simp only[cutD,step,←hv,ag h1,ai h3]))
    ·rename_i h1
     cases Sum.inl.inj e;exact ih eL hf (h2.ya (by simp only[cutD,step,←hv,ai h1]))
  | @drop d a b hd eL=>
   cases d with
   | put x e1=>
    cases Sum.inl.inj e;exact ih eL (fun y hy=>by
     simp only[JV];rw[ai fun z=>by subst z;have:l<g y:=hd;lia];exact hf y hy) h2
   | cK k e1=>
    cases Sum.inl.inj e;refine ih eL hf ?_;have:X4 l (sh++[(k,e1.val f)])=X4 l sh:=by
     have hk:¬k≤l:=by have:l<k:=hd;lia
     simp[X4,hk]
    rw[this];exact h2
   | ite e1 fm cw=>
    cases Sum.inl.inj e;refine ih ?_ hf h2;show Rel g l ((if e1.val f≠0 then fm.list else cw.list)++a) st2;split
    ·exact oR eL hd.1
    ·exact oR eL hd.2
   | bh e1 fm=>cases hd
end
end WW
namespace WW
section
variable{N:Type}[DecidableEq N]{g:N→Int}
mutual
def zg(g:N→Int):List N→Dd N→Prop
 | cs,.put x e=>∀y∈cs++e.names,g y≤g x
 | cs,.cK k e=>∀y∈cs++e.names,g y≤k
 | cs,.ite e b c=>ow g (cs++e.names) b∧ow g (cs++e.names) c
 | cs,.bh e b=>(∀y∈cs++e.names,g y≤0)∧ow g cs b
def ow(g:N→Int):List N→Bl N→Prop
 | _,.nil=>True
 | cs,.cons d b=>zg g cs d∧ow g cs b
end
mutual
theorem Pg(h0:0≤l):∀{d:Dd N} {cs:List N},(∃y∈cs,l<g y)→zg g cs d→BN g l d
 | .put x e,cs,a7,h=>by
  obtain⟨y,hy,hl⟩:=a7;exact Int.lt_of_lt_of_le hl (h y (eP _ hy))
 | .cK k e,cs,a7,h=>by
  obtain⟨y,hy,hl⟩:=a7;exact Int.lt_of_lt_of_le hl (h y (eP _ hy))
 | .ite e b c,cs,a7,h=>by
  obtain⟨y,hy,hl⟩:=a7;exact⟨bD h0 ⟨y,eP _ hy,hl⟩ h.1,bD h0 ⟨y,eP _ hy,hl⟩ h.2⟩
 | .bh e b,cs,a7,h=>by
  obtain⟨y,hy,hl⟩:=a7;have:=h.1 y (eP _ hy);lia
theorem bD(h0:0≤l):∀{b:Bl N} {cs:List N},(∃y∈cs,l<g y)→ow g cs b→r8 g l b
 | .nil,_,_,_=>trivial
 | .cons d b,cs,hy,h=>⟨Pg h0 hy h.1,bD h0 hy h.2⟩
end
mutual
theorem Pf(h0:0≤l):∀{d:Dd N} {cs:List N},zg g cs d→BU g l d
 | .put x e,cs,h=>fun hx y hy=>Int.le_trans (h y (eQ _ hy)) hx
 | .cK k e,cs,h=>fun hx y hy=>Int.le_trans (h y (eQ _ hy)) hx
 | .ite e b c,cs,h=>by
  by_cases q:∀y∈e.names,g y≤l
  ·exact .inl ⟨q,bC h0 h.1,bC h0 h.2⟩
  ·have:∃y∈cs++e.names,l<g y:=by
    have:=Classical.not_forall.mp q;obtain⟨y,hy⟩:=this;have:=Classical.not_imp.mp hy;exact⟨y,eQ _ this.1,by lia⟩
   exact .inr ⟨q,bD h0 this h.1,bD h0 this h.2⟩
 | .bh e b,cs,h=>⟨fun y hy=>Int.le_trans (h.1 y (eQ _ hy)) h0,bC h0 h.2⟩
theorem bC(h0:0≤l):∀{b:Bl N} {cs:List N},ow g cs b→qj g l b
 | .nil,_,_=>trivial
 | .cons d b,cs,h=>⟨Pf h0 h.1,bC h0 h.2⟩
end
theorem rE(h0:0≤l){p:Bl N}(hp:ow g [] p){f f2:N→Int}{r r2:R N}(hf:∀x,g x≤l→f x=f2 x)(h:Runs most ⟨p.list,f,[],0⟩ r)(h2:Runs most ⟨(VP g l p).list,f2,[],0⟩ r2):r.t=r2.t∧(∀x,g x≤l→r.f x=r2.f x)∧(∀x,l<g x→r2.f x=f2 x)∧r2.sh=X4 l r.sh:=by
 have R:=aA (Rel.nil (g:=g) (l:=l)) (bC h0 hp);rw[pw,pw]at R;exact Nn h R hf h2
end
end WW
namespace T
open PySem L2 WL WW
structure HasW(Γ:String→Option Fn):Prop where
 parts:Γ "parts_of" = some KY
 names:Γ "names_of" = some UW
 term:Γ "names_in_term" = some R6
 RH:Γ "flows" = some tZ
 gather:Γ "gather_flows" = some vz
 add:Γ "add_flows" = some vy
structure zb(Γ:String→Option Fn):Prop extends HasW Γ where
 lets:Γ "lets" = some Ft
 level:Γ "level_of" = some cP
noncomputable def LC:Str:=Str.ofString "page"
noncomputable def J3:Str:=Str.ofString "name"
mutual
noncomputable def ji:List Str→Dd Str→List FK
 | cs,.put x e=>(cs++e.names).map fun y=>(y,J3,.inr x)
 | cs,.cK k e=>(cs++e.names).map fun y=>(y,LC,.inl k)
 | cs,.ite e b c=>gi (cs++e.names) b++gi (cs++e.names) c
 | cs,.bh e b=>((cs++e.names).map fun y=>(y,LC,.inl 0))++gi cs b
noncomputable def gi:List Str→Bl Str→List FK
 | _,.nil=>[]
 | cs,.cons d b=>ji cs d++gi cs b
end
def jr(a b:List Str):Prop:=∀x,x∈a↔x∈b
theorem jr.app{a b c d:List Str}(h:jr a b)(h':jr c d):jr (a++c) (b++d):=fun x=>by simp[h x,h' x]
theorem SX{a b:List Str}(h:jr a b){kd:Str}{z:Key}{k:FK}:k∈a.map (fun y=>(y,kd,z))↔k∈b.map (fun y=>(y,kd,z)):=by
 simp only[List.mem_map];exact⟨fun⟨y,hy,e⟩=>⟨y,(h y).mp hy,e⟩,fun⟨y,hy,e⟩=>⟨y,(h y).mpr hy,e⟩⟩
mutual
theorem Ph:∀{d:Dd Str} {a b:List Str},jr a b→∀k,k∈ji a d↔k∈ji b d
 | .put x e,a,b,h,k=>by simp only[ji];exact SX (h.app fun _=>Iff.rfl)
 | .cK j e,a,b,h,k=>by simp only[ji];exact SX (h.app fun _=>Iff.rfl)
 | .ite e x y,a,b,h,k=>by
  have h':jr (a++e.names) (b++e.names):=h.app fun _=>Iff.rfl
  simp only[ji,List.mem_append,bF h' k]
 | .bh e x,a,b,h,k=>by
  simp only[ji,List.mem_append,bF h k];rw[SX (h.app (c:=e.names) fun _=>Iff.rfl)]
theorem bF:∀{x:Bl Str} {a b:List Str},jr a b→∀k,k∈gi a x↔k∈gi b x
 | .nil,_,_,_,k=>by simp only[gi]
 | .cons d x,a,b,h,k=>by simp only[gi,List.mem_append,Ph h k,bF h k]
end
noncomputable def univ(nm:List Str):List FK:=nm.flatMap fun y=>[(y,LC,Sum.inl 0),(y,LC,Sum.inl 1),(y,LC,Sum.inl 2)]++nm.map fun x=>(y,J3,Sum.inr x)
theorem QB{y:Str}{j:Int}(hy:y∈nm)(hj:0≤j∧j<3):(y,LC,(Sum.inl j:Key))∈univ nm:=by
 refine List.mem_flatMap.mpr ⟨y,hy,eP _ ?_⟩;rcases(show j=0∨j=1∨j=2 by lia) with rfl | rfl | rfl<;>simp
theorem d9{y:Str}(hy:y∈nm)(hx:x∈nm):(y,J3,(Sum.inr x:Key))∈univ nm:=List.mem_flatMap.mpr ⟨y,hy,eQ _ (i6 hx)⟩
theorem YS:∀k∈univ nm,R8 k=true:=fun k hk=>by
 obtain⟨y,_,h⟩:=List.mem_flatMap.mp hk;rcases de h with h | h
 ·simp only[List.mem_cons,List.not_mem_nil,or_false]at h
  rcases h with rfl | rfl | rfl<;>exact dk (show LC=Str.ofString "page" from rfl)
 ·obtain⟨x,_,rfl⟩:=dg h
  show (!decide (J3=Str.ofString "page"))=true;decide +kernel
theorem wN(h:nm.length=4):(univ nm).length=28:=by
 match nm,h with
 | [a,b,c,d],_=>rfl
mutual
theorem rK{nm:List Str}:∀{d:Dd Str} {cs:List Str},d.Ok (·∈nm)→(∀y∈cs,y∈nm)→∀k∈ji cs d,k∈univ nm
 | .put x e,cs,ho,hc,k,hk=>by
  obtain⟨y,hy,rfl⟩:=dg hk;exact d9 ((de hy).elim (hc y) (ho.2.names y)) ho.1
 | .cK j e,cs,ho,hc,k,hk=>by
  obtain⟨y,hy,rfl⟩:=dg hk;exact QB ((de hy).elim (hc y) (ho.2.names y)) ho.1
 | .ite e b c,cs,ho,hc,k,hk=>by
  have sx:∀y∈cs++e.names,y∈nm:=fun y hy=>(de hy).elim (hc y) (ho.1.names y)
  rcases de hk with hk | hk
  ·exact N5 ho.2.1 sx k hk
  ·exact N5 ho.2.2 sx k hk
 | .bh e b,cs,ho,hc,k,hk=>by
  rcases de hk with hk | hk
  ·obtain⟨y,hy,rfl⟩:=dg hk
   exact QB ((de hy).elim (hc y) (ho.1.names y)) (by lia)
  ·exact N5 ho.2 hc k hk
theorem N5{nm:List Str}:∀{b:Bl Str} {cs:List Str},b.Ok (·∈nm)→(∀y∈cs,y∈nm)→∀k∈gi cs b,k∈univ nm
 | .nil,_,_,_,k,hk=>nomatch hk
 | .cons d b,cs,ho,hc,k,hk=>by
  rcases de hk with hk | hk
  ·exact rK ho.1 hc k hk
  ·exact N5 ho.2 hc k hk
end
noncomputable def nc(g:Str→Int)(k:FK):Int:=match k.2.2 with
 | .inl j=>j
 | .inr x=>g x
mutual
theorem Pe{g:Str→Int}:∀{d:Dd Str} {cs:List Str},(∀k∈ji cs d,g k.1≤nc g k)→zg g cs d
 | .put x e,cs,h=>fun y hy=>h _ (i6 hy)
 | .cK j e,cs,h=>fun y hy=>h _ (i6 hy)
 | .ite e b c,cs,h=>⟨bB fun k hk=>h k (eP _ hk),bB fun k hk=>h k (eQ _ hk)⟩
 | .bh e b,cs,h=>⟨fun y hy=>h _ (eP _ (i6 hy)),bB fun k hk=>h k (eQ _ hk)⟩
theorem bB{g:Str→Int}:∀{b:Bl Str} {cs:List Str},(∀k∈gi cs b,g k.1≤nc g k)→ow g cs b
 | .nil,_,_=>trivial
 | .cons d b,cs,h=>⟨Pe fun k hk=>h k (eP _ hk),bB fun k hk=>h k (eQ _ hk)⟩
end
theorem G2{ks:List FK}{q k:FK}:k∈W3 ks q↔k∈ks∨k=q:=by
 unfold W3
 by_cases h:ks.any (fun x=>decide (x=q))=true
 ·rw[ag h]
  obtain⟨x,hx,e⟩:=List.any_eq_true.mp h;have e:=gq e;subst e;exact⟨.inl,fun z=>z.elim id fun e=>e▸hx⟩
 ·rw[ai h];simp
theorem tW{ks:List FK}{q:FK}(hn:ks.Nodup):(W3 ks q).Nodup:=by
 unfold W3
 by_cases h:ks.any (fun x=>decide (x=q))=true
 ·rw[ag h];exact hn
 ·rw[ai h]
  refine List.nodup_append.mpr ⟨hn,by simp,fun a ha b hb e=>h ?_⟩;rw[fg hb]at e;exact List.any_eq_true.mpr ⟨a,ha,dk e⟩
noncomputable def PX(kd:Str)(z:Key):List FK→List Str→List FK
 | ks,[]=>ks
 | ks,c::r=>PX kd z (W3 ks (c,kd,z)) r
theorem wt{kd:Str}{z:Key}{k:FK}:∀{cs:List Str} {ks:List FK},k∈PX kd z ks cs↔k∈ks∨k∈cs.map fun y=>(y,kd,z)
 | [],ks=>by simp[PX]
 | c::r,ks=>by
  rw[PX,wt,G2,ck,List.mem_cons];constructor
  ·rintro ((h | h) | h)
   ·exact .inl h
   ·exact .inr (.inl h)
   ·exact .inr (.inr h)
  ·rintro (h | h | h)
   ·exact .inl (.inl h)
   ·exact .inl (.inr h)
   ·exact .inr h
theorem W2{kd:Str}{z:Key}:∀{cs:List Str} {ks:List FK},ks.Nodup→(PX kd z ks cs).Nodup
 | [],_,h=>h
 | c::r,ks,h=>by rw[PX];exact W2 (tW h)
theorem E5(k:FK):nN (fD k)=some k:=by
 obtain⟨a,b,c | c⟩:=k<;>rfl
noncomputable def ui:bp→bp
 | .cons (.fr _ _ b) _=>b
 | s=>s
theorem nC{C:String→List D→Mem→Option (D×Mem)}{nm:List Str}(hU:(univ nm).length<10000){kd:Str}{z:Key}{ys:List D}{na:D}{i:Nat}:∀(cs:List Str) (ks:List FK) (m:Mem) (x3:Option D),m[i]?=some (.fd ks)→ks.Nodup→(∀k∈ks,k∈univ nm)→(∀y∈cs,(y,kd,z)∈univ nm)→∃y3,forL ⟨ys,none⟩ (.nm 3) (fun σ m=>aE C W (ui LR) σ m) (cs.map .str) [some na,some (.tup [.str kd,dQ z]),some (.ak i),x3] m=some (.nx [some na,some (.tup [.str kd,dQ z]),some (.ak i),y3],m.set i (.fd (PX kd z ks cs)))
 | [],ks,m,x3,hm,_,_,_=>by
  have:m.set i (.fd ks)=m:=List.ext_getElem? fun j=>by
   by_cases hj:i=j
   ·subst hj
    rw[List.getElem?_set_self (List.getElem?_eq_some_iff.mp hm).1,hm]
   ·rw[List.getElem?_set_ne hj]
  exact⟨x3,by simp[forL,Walk.ok,PX,this]⟩
 | c::r,ks,m,x3,hm,b9,hs,hc=>by
  have hi:=(List.getElem?_eq_some_iff.mp hm).1;have hl:ks.length<10000:=uf (b9.length_le_of_subset hs) hU;obtain⟨y3,e1⟩:=nC (C:=C) (ys:=ys) (na:=na) hU r (W3 ks (c,kd,z)) (m.set i (.fd (W3 ks (c,kd,z)))) (some (.str c)) (List.getElem?_set_self hi) (tW b9) (fun k hk=>(G2.mp hk).elim (hs k) fun e=>e▸hc c bX) (fun y hy=>hc y (b8 _ hy));refine⟨y3,?_⟩;rw[List.set_set]at e1;have hk:nN (.tup [.str c,.tup [.str kd,dQ z]])=some (c,kd,z):=E5 (c,kd,z);have hb:JL (.nm 3) (.str c) [some na,some (.tup [.str kd,dQ z]),some (.ak i),x3]=some [some na,some (.tup [.str kd,dQ z]),some (.ak i),some (.str c)]:=rfl;have e0:aE C W (ui LR) [some na,some (.tup [.str kd,dQ z]),some (.ak i),some (.str c)] m=some (.nx [some na,some (.tup [.str kd,dQ z]),some (.ak i),some (.str c)],m.set i (.fd (W3 ks (c,kd,z)))):=by
   exact Lj rfl rfl hm hk hl rfl
  rw[ck,forL,ag (show Walk.ok ⟨ys,none⟩ m=true from rfl),hb,bq,e0,bq];exact e1
theorem Bm(H:HasW Γ)(hU:(univ nm).length<10000){kd:Str}{z:Key}{cs:List Str}{ks:List FK}(hm:m[i]?=some (.fd ks))(b9:ks.Nodup)(hs:∀k∈ks,k∈univ nm)(hc:∀y∈cs,(y,kd,z)∈univ nm):BW W Γ (n+1) "add_flows" [.tup (cs.map .str),.tup [.str kd,dQ z],.ak i] m=some (.ao,m.set i (.fd (PX kd z ks cs))):=by
 obtain⟨y3,e⟩:=nC (W:=W) (C:=BW W Γ n) (ys:=cs.map .str) (na:=.tup (cs.map .str)) hU cs ks m none hm b9 hs hc;rw[NP H.add rfl];have E:aE (BW W Γ n) W vy.body ([D.tup (cs.map .str),.tup [.str kd,dQ z],.ak i].map some++List.replicate (vy.ns-vy.ps) none) m=some (.nx [some (.tup (cs.map .str)),some (.tup [.str kd,dQ z]),some (.ak i),y3],m.set i (.fd (PX kd z ks cs))):=NT (b:=ui LR) (w:=⟨cs.map .str,none⟩) rfl e rfl;rw[E];show some (D.ao,List.take m.length (m.set i _))=_;rw[sr (by simp)]
theorem T6(H:HasW Γ)(fe:nm.length<64){t:Tm Str}(ht:t.Ok (·∈nm))(hd:t.dep≤8)(hW:1000<W):∃ts:List Str,jr ts t.names∧ts.length<64∧BW W Γ (n+3) "names_in_term" [dT t] m=some (.tup (ts.map .str),m):=by
 have hw:=nW t;have h2:2 ^ (t.dep+1)≤2 ^ 9:=Nat.pow_le_pow_right (by lia) (by lia);have h3:(2:Nat) ^ 9=512:=by decide
 obtain⟨ks,q1,q2,q3⟩:=bL (W:=W) (n:=n) (m0:=m) H.parts H.names fe (ps:=[.tm t]) (by simp only[MP,Pt.w];lia) (by simp only[MP,Pt.w];lia) (fun p hp x hx=>by
  rw[fg hp]at hx;exact ht.names x hx)
 have hk:∀x,x∈ks↔x∈t.names:=fun x=>by rw[q2];simp[Pt.N]
 refine⟨DQ ks,fun x=>?_,?_,?_⟩
 ·rw[←hk];exact(ir ks FT).mem_iff
 ·rw[show (DQ ks).length=ks.length from (ir ks FT).length_eq]
  exact uf (q1.length_le_of_subset fun x hx=>ht.names x ((hk x).mp hx)) fe
 ·have cm:D.clean.cj ((DQ ks).map .str)=true:=by
   generalize DQ ks=l
   induction l with
   | nil=>rfl
   | cons a r ih=>simp[ih]
  refine DN H.term rfl cm ?_;simp only[ck,List.map_nil,dP]at q3;exact CP (CG q3 rfl)
def uc(W:Nat)(Γ:String→Option Fn)(nm:List Str)(n:Nat)(b:Bl Str):Prop:=∀(cs:List Str) (ks:List FK) (m:Mem) (i:Nat),m[i]?=some (.fd ks)→ks.Nodup→(∀k∈ks,k∈univ nm)→(∀y∈cs,y∈nm)→cs.length+64*b.dep≤5000→∃bu,bu.Nodup∧(∀k,k∈bu↔k∈ks∨k∈gi cs b)∧BW W Γ n "gather_flows" [.tup (dB b),.tup (cs.map .str),.ak i] m=some (.ao,m.set i (.fd bu))
def GSub(W:Nat)(Γ:String→Option Fn)(nm:List Str)(n:Nat):Dd Str→Prop
 | .put _ _=>True
 | .cK _ _=>True
 | .ite _ b c=>uc W Γ nm n b∧uc W Γ nm n c
 | .bh _ b=>uc W Γ nm n b
noncomputable def Bp:bp:=ui O9
noncomputable def sG(ju cs:D)(i:Nat)(x3 x4 x5:Option D):DS:=[some ju,some cs,some (.ak i),x3,x4,x5]
theorem Pc(H:HasW Γ)(fe:nm.length<64)(hU:(univ nm).length<10000)(hW:1000<W){d:Dd Str}(ho:d.Ok (·∈nm))(hd:d.dep≤8)(kB:GSub W Γ nm (n+3) d){ju:D}{cs:List Str}{ks:List FK}(hm:m[i]?=some (.fd ks))(b9:ks.Nodup)(hs:∀k∈ks,k∈univ nm)(hc:∀y∈cs,y∈nm)(hl:cs.length+64*d.dep≤5000)(x4 x5:Option D):∃bu y4 y5,bu.Nodup∧(∀k,k∈bu↔k∈ks∨k∈ji cs d)∧aE (BW W Γ (n+3)) W Bp (sG ju (.tup (cs.map .str)) i (some (dD d)) x4 x5) m=some (.nx (sG ju (.tup (cs.map .str)) i (some (dD d)) y4 y5),m.set i (.fd bu)):=by
 have hi:=(List.getElem?_eq_some_iff.mp hm).1;cases d with
 | put x e=>
  simp only[Dd.dep]at hd hl;obtain⟨ts,t1,t2,t3⟩:=T6 (W:=W) (n:=n) (m:=m) H fe ho.2 hd hW;have jI:∀y∈cs++ts,y∈nm:=fun y hy=>(de hy).elim (hc y) fun h=>ho.2.names y ((t1 y).mp h)
  have ea:=Bm (W:=W) (n:=n+2) H hU (kd:=J3) (z:=.inr x) (cs:=cs++ts) hm b9 hs (fun y hy=>d9 (jI y hy) ho.1);refine⟨PX J3 (.inr x) ks (cs++ts),some (.str "put"),x5,W2 b9,fun k=>?_,?_⟩
  ·rw[wt]
   simp only[ji];rw[SX ((show jr cs cs from fun _=>Iff.rfl).app t1)]
  ·have hb:(cs.map D.str).length+(ts.map D.str).length≤10000:=by simp;lia
   rw[ft]at ea;simp only[J3,dQ]at ea;exact CJ rfl (JB (HS (p:=Str.ofString "put" = Str.ofString "if") rfl (eW (by decide))) (JB (HS (p:=Str.ofString "put" = Str.ofString "while") rfl (eW (by decide))) (JQ (JC (p:=Str.ofString "put" = Str.ofString "put") rfl rfl) (IW (CG ea (BZ (EY rfl (CG t3 rfl) (NK hb)) rfl)) rfl) rfl) rfl) rfl)
 | cK j e=>
  simp only[Dd.dep]at hd hl;obtain⟨ts,t1,t2,t3⟩:=T6 (W:=W) (n:=n) (m:=m) H fe ho.2 hd hW;have jI:∀y∈cs++ts,y∈nm:=fun y hy=>(de hy).elim (hc y) fun h=>ho.2.names y ((t1 y).mp h)
  have ea:=Bm (W:=W) (n:=n+2) H hU (kd:=LC) (z:=.inl j) (cs:=cs++ts) hm b9 hs (fun y hy=>QB (jI y hy) ho.1);refine⟨PX LC (.inl j) ks (cs++ts),some (.str "show"),x5,W2 b9,fun k=>?_,?_⟩
  ·rw[wt]
   simp only[ji];rw[SX ((show jr cs cs from fun _=>Iff.rfl).app t1)]
  ·have hb:(cs.map D.str).length+(ts.map D.str).length≤10000:=by simp;lia
   rw[ft]at ea;simp only[LC,dQ]at ea;exact CJ rfl (JB (HS (p:=Str.ofString "show" = Str.ofString "if") rfl (eW (by decide))) (JB (HS (p:=Str.ofString "show" = Str.ofString "while") rfl (eW (by decide))) (JB (HS (p:=Str.ofString "show" = Str.ofString "put") rfl (eW (by decide))) (IW (CG ea (BZ (EY rfl (CG t3 rfl) (NK hb)) rfl)) rfl) rfl) rfl) rfl)
 | bh e b=>
  simp only[Dd.dep]at hd hl;obtain⟨ts,t1,t2,t3⟩:=T6 (W:=W) (n:=n) (m:=m) H fe ho.1 (by lia) hW;have jI:∀y∈cs++ts,y∈nm:=fun y hy=>(de hy).elim (hc y) fun h=>ho.1.names y ((t1 y).mp h)
  have ea:=Bm (W:=W) (n:=n+2) H hU (kd:=LC) (z:=.inl 0) (cs:=cs++ts) hm b9 hs (fun y hy=>QB (jI y hy) (by lia));obtain⟨vi,q1,q2,q3⟩:=kB cs (PX LC (.inl 0) ks (cs++ts)) (m.set i (.fd (PX LC (.inl 0) ks (cs++ts)))) i (List.getElem?_set_self hi) (W2 b9) (fun k hk=>(wt.mp hk).elim (hs k) fun h=>by
    obtain⟨y,hy,rfl⟩:=dg h;exact QB (jI y hy) (by lia)) hc (by lia)
  rw[List.set_set]at q3;refine⟨vi,some (.str "while"),x5,q1,fun k=>?_,?_⟩
  ·rw[q2,wt]
   simp only[ji,List.mem_append];rw[SX ((show jr cs cs from fun _=>Iff.rfl).app t1)];exact or_assoc
  ·have hb:(cs.map D.str).length+(ts.map D.str).length≤10000:=by simp;lia
   rw[ft]at ea;simp only[LC,dQ]at ea q3;exact CJ rfl (JB (HS (p:=Str.ofString "while" = Str.ofString "if") rfl (eW (by decide))) (JQ (JC (p:=Str.ofString "while" = Str.ofString "while") rfl rfl) (IW (CG ea (BZ (EY rfl (CG t3 rfl) (NK hb)) rfl)) (IW (CG q3 rfl) rfl)) rfl) rfl)
 | ite e b c=>
  simp only[Dd.dep]at hd hl;obtain⟨ts,t1,t2,t3⟩:=T6 (W:=W) (n:=n) (m:=m) H fe ho.1 (by lia) hW;have jI:∀y∈cs++ts,y∈nm:=fun y hy=>(de hy).elim (hc y) fun h=>ho.1.names y ((t1 y).mp h)
  have heq:jr (cs++ts) (cs++e.names):=(show jr cs cs from fun _=>Iff.rfl).app t1;obtain⟨k1,a1,a2,a3⟩:=kB.1 (cs++ts) ks m i hm b9 hs jI (by rw[fN];lia);obtain⟨k2,b1,b2,b3⟩:=kB.2 (cs++ts) k1 (m.set i (.fd k1)) i (List.getElem?_set_self hi) a1 (fun k hk=>((a2 k).mp hk).elim (hs k) fun h=>N5 ho.2.1 jI k h) jI (by rw[fN];lia);rw[List.set_set]at b3;refine⟨k2,some (.str "if"),some (.tup (cs.map .str++ts.map .str)),b1,fun k=>?_,?_⟩
  ·rw[b2,a2,bF heq k,bF heq k]
   simp only[ji,List.mem_append];exact or_assoc
  ·have hb:(cs.map D.str).length+(ts.map D.str).length≤10000:=by simp;lia
   rw[ft]at a3 b3;exact CJ rfl (JQ (JC (p:=Str.ofString "if" = Str.ofString "if") rfl rfl) (CJ (EY rfl (CG t3 rfl) (NK hb)) (IW (CG a3 rfl) (IW (CG b3 rfl) rfl))) rfl)
noncomputable def vJ(cs:List Str):List (Dd Str)→List FK
 | []=>[]
 | d::r=>ji cs d++vJ cs r
theorem rJ(cs:List Str):∀b:Bl Str,vJ cs b.list=gi cs b
 | .nil=>by simp only[gi];rfl
 | .cons d b=>by simp only[Bl.list,vJ,gi,rJ cs b]
theorem E1(H:HasW Γ){nm:List Str}(fe:nm.length<64)(hU:(univ nm).length<10000)(hW:1000<W){ju:D}{cs:List Str}(hc:∀y∈cs,y∈nm){i:Nat}{ys:List D}{D0:Nat}(hD:D0≤8)(hl:cs.length+64*D0≤5000):∀(ds:List (Dd Str)) (ks:List FK) (m:Mem) (x3 x4 x5:Option D),(∀d∈ds,d.Ok (·∈nm)∧d.dep≤D0∧GSub W Γ nm (n+3) d)→m[i]?=some (.fd ks)→ks.Nodup→(∀k∈ks,k∈univ nm)→∃bu y3 y4 y5,bu.Nodup∧(∀k,k∈bu↔k∈ks∨k∈vJ cs ds)∧forL ⟨ys,none⟩ (.nm 3) (fun σ m=>aE (BW W Γ (n+3)) W Bp σ m) (ds.map dD) (sG ju (.tup (cs.map .str)) i x3 x4 x5) m=some (.nx (sG ju (.tup (cs.map .str)) i y3 y4 y5),m.set i (.fd bu))
 | [],ks,m,x3,x4,x5,_,hm,b9,_=>by
  have:m.set i (.fd ks)=m:=List.ext_getElem? fun j=>by
   by_cases hj:i=j
   ·subst hj
    rw[List.getElem?_set_self (List.getElem?_eq_some_iff.mp hm).1,hm]
   ·rw[List.getElem?_set_ne hj]
  exact⟨ks,x3,x4,x5,b9,fun k=>by simp[vJ],by simp[forL,Walk.ok,this]⟩
 | d::r,ks,m,x3,x4,x5,hd,hm,b9,hs=>by
  have hi:=(List.getElem?_eq_some_iff.mp hm).1;obtain⟨d1,d2,d3⟩:=hd d bX;obtain⟨k1,z4,z5,a1,a2,a3⟩:=Pc (W:=W) (n:=n) H fe hU hW d1 (by lia) d3 (ju:=ju) (cs:=cs) hm b9 hs hc (by lia) x4 x5;obtain⟨k2,y3,y4,y5,b1,b2,b3⟩:=E1 H fe hU hW (ju:=ju) hc (ys:=ys) hD hl r k1 (m.set i (.fd k1)) (some (dD d)) z4 z5 (fun e he=>hd e (b8 _ he)) (List.getElem?_set_self hi) a1 (fun k hk=>((a2 k).mp hk).elim (hs k) fun h=>rK d1 hc k h);rw[List.set_set]at b3;refine⟨k2,y3,y4,y5,b1,fun k=>by rw[b2,a2];simp only[vJ,List.mem_append];exact or_assoc,?_⟩;have hb:JL (.nm 3) (dD d) (sG ju (.tup (cs.map .str)) i x3 x4 x5)=some (sG ju (.tup (cs.map .str)) i (some (dD d)) x4 x5):=rfl;rw[ck,forL,ag (show Walk.ok ⟨ys,none⟩ m=true from rfl),hb,bq,a3,bq];exact b3
theorem Ld(H:HasW Γ)(fe:nm.length<64)(hU:(univ nm).length<10000)(hW:1000<W):∀(K n:Nat) (b:Bl Str),K+3≤n→K≤8→b.Ok (·∈nm)→b.dep≤K→uc W Γ nm (n+1) b:=by
 have key:∀(K n:Nat),K+3≤n→K≤8→(∀b:Bl Str,b.Ok (·∈nm)→b.dep<K→uc W Γ nm n b)→∀b:Bl Str,b.Ok (·∈nm)→b.dep≤K→uc W Γ nm (n+1) b:=by
  intro K n hn h8 ih b ho hd cs ks m i hm b9 hs hc hl;obtain⟨n,rfl⟩:∃j,n=j+3:=⟨n-3,by lia⟩
  obtain⟨bu,y3,y4,y5,a1,a2,a3⟩:=E1 (W:=W) (n:=n) H fe hU hW (ju:=.tup (dB b)) (cs:=cs) hc (i:=i) (ys:=dB b) (D0:=b.dep) (by lia) hl b.list ks m none none none (fun d fS=>by
   have Ag:=ho.mem d fS;have mf:=Bl.CA fS;refine⟨Ag,mf,?_⟩;cases d with
   | put x e=>exact trivial
   | cK j e=>exact trivial
   | ite e c cw=>
    simp only[Dd.dep]at mf;exact⟨ih c Ag.2.1 (by lia),ih cw Ag.2.2 (by lia)⟩
   | bh e c=>
    simp only[Dd.dep]at mf;exact ih c Ag.2 (by lia)) hm b9 hs
  rw[rJ,←JF]at *;refine⟨bu,a1,a2,?_⟩;rw[NP H.gather rfl];have E:aE (BW W Γ (n+3)) W vz.body ([D.tup (dB b),.tup (cs.map .str),.ak i].map some++List.replicate (vz.ns-vz.ps) none) m=some (.nx (sG (.tup (dB b)) (.tup (cs.map .str)) i y3 y4 y5),m.set i (.fd bu)):=NT (b:=Bp) (w:=⟨dB b,none⟩) rfl a3 rfl;rw[E];show some (D.ao,List.take m.length (m.set i _))=_;rw[sr (by simp)]
 intro K
 induction K with
 | zero=>exact fun n b hn h8=>key 0 n hn h8 (fun b _ h=>absurd h (o5 _)) b
 | succ K ih=>
  intro n b hn h8;obtain⟨mP,rfl⟩:∃mP,n=mP+1:=⟨n-1,by lia⟩
  exact key (K+1) (mP+1) hn h8 (fun c ho hd=>ih mP c (by lia) (by lia) ho (by lia)) b
theorem Lb(k:FK):(fD k).clean=true:=by
 obtain⟨a,b,c | c⟩:=k<;>rfl
theorem vU(l:List FK):D.clean.cj (l.map fD)=true:=by
 induction l with
 | nil=>rfl
 | cons a r ih=>simp[Lb,ih]
theorem sW(H:HasW Γ)(h4:nm.length=4)(hW:1000<W){p:Bl Str}(ho:p.Ok (·∈nm))(hd:p.dep≤8):∃ks:List FK,ks.Nodup∧(∀k,k∈ks↔k∈gi [] p)∧ks.length≤28∧BW W Γ (n+13) "flows" [.tup (dB p)] m=some (.tup ((JG ks).map fD),m):=by
 have hU:=wN h4;obtain⟨ks,a1,a2,a3⟩:=Ld (W:=W) H (nm:=nm) (by lia) (by lia) hW 8 (n+11) p (by lia) (by lia) ho hd [] [] (m++[.fd []]) m.length (by simp) nB (by simp) (by simp) (by simp;lia);have hk:∀k,k∈ks↔k∈gi [] p:=fun k=>by rw[a2];simp
 have kB:∀k∈ks,k∈univ nm:=fun k h=>N5 ho (by simp) k ((hk k).mp h)
 have hl:ks.length≤28:=by rw[←hU];exact a1.length_le_of_subset kB
 have az:ks.all R8=true:=List.all_eq_true.mpr fun k h=>YS k (kB k h)
 refine⟨ks,a1,hk,hl,?_⟩;have hs:cy (.AW false) (.ak m.length) (m++[.fd ks])=some (.lst ((JG ks).map fD),m++[.fd ks]):=by
  show (match (m++[MO.fd ks])[m.length]? with
   | some (.fd qs)=>if qs.length<64∧qs.all R8=true then some (bE false ((JG qs).map fD) (m++[MO.fd ks])) else none
   | _=>none)=_
  rw[show (m++[MO.fd ks])[m.length]?=some (.fd ks) by simp];show (if ks.length<64∧ks.all R8=true then some (bE false ((JG ks).map fD) (m++[MO.fd ks])) else none)=_;rw[ag ⟨by lia,az⟩];rfl
 have Uv:(m++[MO.fd []]).set m.length (.fd ks)=m++[.fd ks]:=by simp
 rw[Uv]at a3;have Rh:BW W Γ (n+12) "gather_flows" [.tup (dB p),.tup [],.ak m.length] (m++[.fd []])=some (.ao,m++[.fd ks]):=a3;have cm:=vU (JG ks);exact JR (q:=[.fd ks]) (n:=n+12) H.RH rfl cm (CJ (d:=.ak m.length) (m1:=m++[.fd []]) rfl (IW (CG Rh rfl) (CP (GD (GD rfl hs) rfl))))
theorem Nw(H:zb Γ)(hS:dw nm hk g){k:FK}(az:R8 k=true):BW W Γ (n+1) "level_of" [.tup [.str k.2.1,dQ k.2.2],bo hk g] m=some (.int (nc g k),m):=by
 obtain⟨a,kd,x | x⟩:=k
 ·have:kd=Str.ofString "page":=gq az
  subst this;refine DN H.level rfl rfl ?_;exact GJ (JC (p:=Str.ofString "page" = Str.ofString "page") rfl rfl) (CP rfl)
 ·have c9:¬kd=Str.ofString "page":=by simpa[R8] using az
  refine DN H.level rfl rfl ?_;have hg:=iV (C:=BW W Γ n) (m:=m) hS (d:=.var 1) (k:=.ix (.var 0) (.con (.int 1))) (z:=.con (.int 0)) (σ:=[some (.tup [.str kd,.str x]),some (bo hk g)]) (x:=x) rfl rfl rfl;exact FQ (HS rfl c9) (CP hg)
theorem Pr(H:zb Γ)(h4:nm.length=4)(hW:1000<W)(hS:dw nm hk g){p:Bl Str}(ho:p.Ok (·∈nm))(hd:p.dep≤8):∃v:Bool,(v=true→∀k∈gi [] p,g k.1≤nc g k)∧(v=false→∃k∈gi [] p,¬g k.1≤nc g k)∧BW W Γ (n+14) "lets" [.tup (dB p),.tup (CN hk g)] m=some (.bl v,m):=by
 obtain⟨ks,a1,a2,a3,a4⟩:=sW (W:=W) (n:=n) (m:=m) H.toHasW h4 hW ho hd;have kz:∀k,k∈JG ks↔k∈gi [] p:=fun k=>by rw[←a2];exact(ir ks _).mem_iff
 have az:∀k∈JG ks,R8 k=true:=fun k hk=>YS k (N5 ho (by simp) k ((kz k).mp hk))
 refine⟨(JG ks).all fun k=>decide (g k.1≤nc g k),fun h k hk=>gq (lL h k ((kz k).mpr hk)),fun h=>?_,?_⟩
 ·have:=List.all_eq_false.mp h
  obtain⟨k,hk,hn⟩:=this;exact⟨k,(kz k).mp hk,by simpa using hn⟩
 have kx:hk.length≤1000:=eR (hS.nd.length_le_of_subset fun x hx=>hS.sub x hx) (by lia);have Dq:=VN (f:=g) hS.nd kx false m;refine DN (n:=n+13) H.lets rfl rfl ?_;have DF:(JG ks).length≤1000:=by rw[show (JG ks).length=ks.length from (ir ks _).length_eq];lia
 have comp:ev (BW W Γ (n+13)) (.comp false 2 (.tp [(.nm 3),(.nm 4)]) (.seq (.call "flows" (.cons (.var 0) .nil))) .tt (.cmp .le (.get (.var 2) (.var 3) (.con (.int 0))) (.call "level_of" (.cons (.var 4) (.cons (.var 2) .nil))))) [some (.tup (dB p)),some (.tup (CN hk g)),some (bo hk g)] m=some (.lst ((JG ks).map fun k=>.bl (decide (g k.1≤nc g k))),m):=by
  rw[O4 (xs:=JG ks) (dd:=fD) (h:=fun k=>some (.bl (decide (g k.1≤nc g k)))) rfl (rQ (CG a4 rfl)) DF]
  ·rw[qB]
  ·intro k jb
   refine⟨[some (.tup (dB p)),some (.tup (CN hk g)),some (bo hk g),some (.str k.1),some (.tup [.str k.2.1,dQ k.2.2])],true,rfl,rfl,?_⟩;rw[ag rfl];refine⟨rfl,?_⟩;have hg:=iV (C:=BW W Γ (n+13)) (m:=m) hS (d:=.var 2) (k:=.var 3) (z:=.con (.int 0)) (σ:=[some (.tup (dB p)),some (.tup (CN hk g)),some (bo hk g),some (.str k.1),some (.tup [.str k.2.1,dQ k.2.2])]) (x:=k.1) rfl rfl rfl;have TR:=Nw (W:=W) (n:=n+12) (m:=m) H hS (az k jb);exact HD hg (CG TR rfl) rfl
 have ha:=ND (fun k:FK=>decide (g k.1≤nc g k)) (JG ks) m;have SY:cy (.dict false) (.tup (CN hk g)) m=some (bo hk g,m):=Dq;exact CJ (GD rfl SY) (CP (GD comp ha))
mutual
theorem Nq{g:Str→Int}{l:Int}:∀d:Dd Str,kh g l d=WW.cutD g l d
 | .put x e=>by simp only[kh,WW.cutD]
 | .cK k e=>by simp only[kh,WW.cutD]
 | .ite e b c=>by simp only[kh,WW.cutD,VR b,VR c]
 | .bh e b=>by simp only[kh,WW.cutD,VR b]
theorem VR{g:Str→Int}{l:Int}:∀b:Bl Str,je g l b=VP g l b
 | .nil=>by simp only[je,VP]
 | .cons d b=>by
  have:aQ g l d=V3 g l d:=by cases d<;>rfl
  simp only[je,VP,this,Nq d,VR b]
end
theorem kW{k:Int}(h:k≤l):gT (X4 l sh) k=gT sh k:=by
 unfold gT X4;rw[List.filter_filter];congr 1;refine List.filter_congr fun p _=>?_
 by_cases q:p.1=k
 ·have:p.1≤l:=by lia
  simp[q,h]
 ·simp[q]
theorem oG(hS:dw nm ks f):∃f2:Str→Int,dw nm (ks.filter fun x=>decide (g x≤l)) f2∧(∀x,g x≤l→f x=f2 x)∧(∀x,l<g x→f2 x=0)∧CN (ks.filter fun x=>decide (g x≤l)) f=CN (ks.filter fun x=>decide (g x≤l)) f2∧((∀x,0≤f x∧f x<997)→∀x,0≤f2 x∧f2 x<997):=by
 refine⟨fun x=>if x∈ks.filter (fun x=>decide (g x≤l)) then f x else 0,⟨hS.nd.filter _,fun x hx=>hS.sub x (oS hx).1,fun x hx=>ai hx⟩,fun x hx=>?_,fun x hx=>?_,?_,fun h x=>?_⟩
 ·by_cases q:x∈ks
  ·exact(ag (List.mem_filter.mpr ⟨q,dk hx⟩)).symm
  ·exact(hS.zero x q).trans (ai fun z=>q (oS z).1).symm
 ·exact ai fun z=>by
   have:=gq (oS z).2;lia
 ·exact jv fun x hx=>by simp only[ag hx]
 ·by_cases q:x∈ks.filter (fun x=>decide (g x≤l))
  ·simp only[ag q];exact h x
  ·simp only[ai q];lia
structure YQ(Γ:String→Option Fn):Prop where
 settled:Γ "settled" = some fP
 targets:Γ "targets_by_name" = some Q0
 VZ:Γ "names_reached" = some vE
 trail:Γ "trail_down" = some W5
 below:Γ "is_below" = some cQ
 way:Γ "way_to" = some nG
noncomputable def gj(t:Str×Key):D:=.tup [.str t.1,dQ t.2]
noncomputable def KJ(ks:List FK)(a:Str):List (Str×Key):=(ks.filter fun k=>decide (k.1=a)).map (·.2)
theorem rV{ks:List FK}{t:Str×Key}:t∈KJ ks a↔(a,t)∈ks:=by
 unfold KJ;rw[List.mem_map];constructor
 ·rintro ⟨k,hk,rfl⟩
  obtain⟨h1,h2⟩:=oS hk;have:=gq h2;rw[←this];exact h1
 ·exact fun h=>⟨(a,t),List.mem_filter.mpr ⟨h,dk rfl⟩,rfl⟩
structure GP(ks:List FK)(g:ik):Prop where
 nd:(g.map (·.1)).Nodup
 mem:∀a,a∈g.map (·.1)↔∃k∈ks,k.1=a
 ts:∀p∈g,p.2=KJ ks p.1
theorem MR{ks:List FK}{g:ik}(G:GP ks g)(k:FK):GP (ks++[k]) (FW g k):=by
 have Ba:∀a,KJ (ks++[k]) a=if k.1=a then KJ ks a++[k.2] else KJ ks a:=fun a=>by
  unfold KJ;rw[List.filter_append,ft]
  by_cases e:k.1=a
  ·rw[ag e];simp[e]
  ·rw[ai e];simp[e]
 have jS:g.any (fun p=>decide (p.1=k.1))=true↔k.1∈g.map (·.1):=by
  rw[C1,List.mem_map];exact⟨fun⟨p,hp,e⟩=>⟨p,hp,gq e⟩,fun⟨p,hp,e⟩=>⟨p,hp,dk e⟩⟩
 unfold FW
 by_cases h:g.any (fun p=>decide (p.1=k.1))=true
 ·rw[ag h]
  have e1:(g.map fun p=>if p.1=k.1 then (p.1,p.2++[k.2]) else p).map (·.1)=g.map (·.1):=by
   rw[df];refine jv fun p _=>?_
   show (if p.1=k.1 then (p.1,p.2++[k.2]) else p).1=p.1;split<;>rfl
  refine⟨by rw[e1];exact G.nd,fun a=>?_,fun p hp=>?_⟩
  ·rw[e1,G.mem]
   constructor
   ·rintro ⟨q,hq,e⟩;exact⟨q,eP _ hq,e⟩
   ·rintro ⟨q,hq,e⟩
    rcases de hq with hq | hq
    ·exact⟨q,hq,e⟩
    ·rw[fg hq]at e
     exact(G.mem a).mp (e▸jS.mp h)
  ·obtain⟨q,hq,rfl⟩:=dg hp
   by_cases e:q.1=k.1
   ·rw[ag e]
    show q.2++[k.2]=KJ (ks++[k]) q.1;rw[Ba,ag e.symm,G.ts q hq]
   ·rw[ai e,Ba,ai fun z=>e z.symm,G.ts q hq]
 ·rw[ai h]
  have hk:k.1∉g.map (·.1):=fun z=>h (jS.mpr z)
  refine⟨?_,fun a=>?_,fun p hp=>?_⟩
  ·rw[ft]
   refine List.nodup_append.mpr ⟨G.nd,by simp,fun a ha b hb=>?_⟩;have:b=k.1:=by simpa using hb
   rw[this];exact fun z=>hk (z▸ha)
  ·rw[ft,List.mem_append,G.mem]
   constructor
   ·rintro (⟨q,hq,e⟩ | z)
    ·exact⟨q,eP _ hq,e⟩
    ·have:a=k.1:=by simpa using z
     exact⟨k,eQ _ bX,this.symm⟩
   ·rintro ⟨q,hq,e⟩
    rcases de hq with hq | hq
    ·exact .inl ⟨q,hq,e⟩
    ·rw[fg hq]at e
     exact .inr (by simp[e])
  ·rcases de hp with hp | hp
   ·rw[Ba,ai fun z=>hk (by rw[z];exact i6 hp),G.ts p hp]
   ·rw[fg hp]
    show [k.2]=KJ (ks++[k]) k.1;have:KJ ks k.1=[]:=by
     refine List.eq_nil_iff_forall_not_mem.mpr fun t ht=>hk ((G.mem _).mpr ⟨_,rV.mp ht,rfl⟩)
    rw[Ba,ag rfl,this];rfl
theorem EZ:∀(r ks:List FK) (g:ik),GP ks g→GP (ks++r) (r.foldl FW g)
 | [],ks,g,G=>by rw[pw];exact G
 | k::r,ks,g,G=>by
  have:=EZ r (ks++[k]) (FW g k) (MR G k);rw[C2]at this;exact this
theorem Qm(ks:List FK):GP ks (ks.foldl FW []):=by
 have:=EZ ks [] [] ⟨nB,fun a=>by simp,fun p hp=>(nomatch hp)⟩;exact this
noncomputable def CW(R:List (Str×D)):List Key:=R.map fun p=>.inr p.1
noncomputable def DK(R:List (Str×D)):List D:=R.map (·.2)
theorem Bf{a:Str}{d:D}:∀{R:List (Str×D)},(R.map (·.1)).Nodup→(a,d)∈R→GC (CW R) (DK R) (.inr a)=some d
 | p::r,hn,h=>by
  have hn:=nu (show (p.1::r.map (·.1)).Nodup from hn);show (if (Sum.inr p.1:Key)=.inr a then some p.2 else GC (CW r) (DK r) (.inr a))=_;rcases cg h with e | h
  ·rw[←e,ag rfl]
  ·rw[ai fun z=>hn.1 (by rw[iF z];exact i6 (f:=(·.1)) h)]
   exact Bf hn.2 h
theorem Be{a:Str}:∀{R:List (Str×D)},a∉R.map (·.1)→GC (CW R) (DK R) (.inr a)=none
 | [],_=>rfl
 | p::r,h=>by
  show (if (Sum.inr p.1:Key)=.inr a then some p.2 else GC (CW r) (DK r) (.inr a))=_;rw[ai fun z=>h (by rw[←iF z];exact bX)];exact Be fun z=>h (b8 _ z)
theorem MC{R:List (Str×D)}:(GC (CW R) (DK R) (.inr a)).isSome=decide (a∈R.map (·.1)):=by
 by_cases h:a∈R.map (·.1)
 ·rw[dk h]
  have:∀{R:List (Str×D)},a∈R.map (·.1)→(GC (CW R) (DK R) (.inr a)).isSome=true:=fun {R}=>by
   induction R with
   | nil=>exact fun h=>(nomatch h)
   | cons p r ih=>
    intro h;show (if (Sum.inr p.1:Key)=.inr a then some p.2 else GC (CW r) (DK r) (.inr a)).isSome=true
    by_cases e:(Sum.inr p.1:Key)=.inr a
    ·rw[ag e];rfl
    ·rw[ai e]
     refine ih ((cg h).resolve_left fun z=>e (by rw[z]))
  exact this h
 ·rw[dm h,Be h];rfl
theorem OB{d:D}{R:List (Str×D)}(h:a∉R.map (·.1)):putD (CW R) (DK R) (.inr a) d=(CW (R++[(a,d)]),DK (R++[(a,d)])):=by
 unfold putD;rw[ai]
 ·simp[CW,DK]
 ·rw[C1]
  rintro ⟨k,hk,e⟩;obtain⟨p,hp,rfl⟩:=dg hk;exact h (by rw[←iF (gq e)];exact i6 hp)
noncomputable def YM(g:ik):List (Str×D):=g.map fun p=>(p.1,.lst (p.2.map gj))
theorem FI(g:ik):J1 g=.aq (CW (YM g)) (DK (YM g)):=by
 unfold J1 CW DK YM;rw[df,df];rfl
theorem rG(ks:List FK)(a:Str):(GC (CW (YM (ks.foldl FW []))) (DK (YM (ks.foldl FW []))) (.inr a)).getD (.lst [])=.lst ((KJ ks a).map gj):=by
 have G:=Qm ks;have e1:(YM (ks.foldl FW [])).map (·.1)=(ks.foldl FW []).map (·.1):=by unfold YM;rw[df];rfl
 by_cases h:a∈(ks.foldl FW []).map (·.1)
 ·obtain⟨p,hp,rfl⟩:=dg h
  have hm:(p.1,D.lst (p.2.map gj))∈YM (ks.foldl FW []):=List.mem_map.mpr ⟨p,hp,rfl⟩;rw[Bf (by rw[e1];exact G.nd) hm,Option.getD_some,G.ts p hp]
 ·rw[Be (by rw[e1];exact h)]
  have:KJ ks a=[]:=List.eq_nil_iff_forall_not_mem.mpr fun t ht=>h ((G.mem _).mpr ⟨_,rV.mp ht,rfl⟩)
  rw[this];rfl
noncomputable def SJ(hk:List Str)(a:Str)(s:List (Str×D)×List Str)(t:Str×Key):List (Str×D)×List Str:=match t.2 with
 | .inr b=>if t.1=J3∧b∉hk∧b∉s.1.map (·.1) then (s.1++[(b,.str a)],s.2++[b]) else s
 | .inl _=>s
theorem pG{hk:List Str}{a:Str}:∀(ts:List (Str×Key)) (R:List (Str×D)) (wq:List Str),(R.map (·.1)).Nodup→∃E:List Str,ts.foldl (SJ hk a) (R,wq)=(R++E.map (fun b=>(b,D.str a)),wq++E)∧(R.map (·.1)++E).Nodup∧(∀b∈E,(J3,(.inr b:Key))∈ts∧b∉hk)∧∀b,(J3,(.inr b:Key))∈ts→b∉hk→b∈R.map (·.1)++E
 | [],R,wq,hn=>⟨[],by simp,by simpa using hn,fun b hb=>(nomatch hb),fun b hb=>(nomatch hb)⟩
 | t::ts,R,wq,hn=>by
  rw[List.foldl_cons];have kb:SJ hk a (R,wq) t=(R,wq)→(∀b,t=(J3,(.inr b:Key))→b∉hk→b∈R.map (·.1))→∃E:List Str,ts.foldl (SJ hk a) (SJ hk a (R,wq) t)=(R++E.map (fun b=>(b,D.str a)),wq++E)∧(R.map (·.1)++E).Nodup∧(∀b∈E,(J3,(.inr b:Key))∈t::ts∧b∉hk)∧∀b,(J3,(.inr b:Key))∈t::ts→b∉hk→b∈R.map (·.1)++E:=fun e hb=>by
   rw[e];obtain⟨E,e1,e2,e3,e4⟩:=pG ts R wq hn;refine⟨E,e1,e2,fun b h=>⟨b8 _ (e3 b h).1,(e3 b h).2⟩,fun b h1 h2=>?_⟩;rcases cg h1 with z | z
   ·exact eP _ (hb b z.symm h2)
   ·exact e4 b z h2
  obtain⟨kd,z⟩:=t;cases z with
  | inl j=>exact kb rfl fun b e=>by cases e
  | inr b=>
   by_cases h:kd=J3∧b∉hk∧b∉R.map (·.1)
   ·have e0:SJ hk a (R,wq) (kd,.inr b)=(R++[(b,.str a)],wq++[b]):=ag h
    rw[e0];have nV:((R++[(b,D.str a)]).map (·.1)).Nodup:=by
     rw[ft];refine List.nodup_append.mpr ⟨hn,by simp,fun c hc d hd=>?_⟩;have:d=b:=by simpa using hd
     rw[this];exact fun z=>h.2.2 (z▸hc)
    obtain⟨E,e1,e2,e3,e4⟩:=pG ts (R++[(b,.str a)]) (wq++[b]) nV;have em:(R++[(b,D.str a)]).map (·.1)++E=R.map (·.1)++(b::E):=by simp
    refine⟨b::E,by rw[e1];simp,by rw[←em];exact e2,fun c hc=>?_,fun c h1 h2=>?_⟩
    ·rcases cg hc with rfl | hc
     ·exact⟨by rw[h.1];exact bX,h.2.1⟩
     ·exact⟨b8 _ (e3 c hc).1,(e3 c hc).2⟩
    ·rw[←em]
     rcases cg h1 with z | z
     ·have:c=b:=by cases z;rfl
      rw[this];exact eP _ (by simp)
     ·exact e4 c z h2
   ·refine kb (ai h) fun c e hc=>?_
    cases e;exact Classical.byContradiction fun q=>h ⟨rfl,hc,q⟩
structure BI(ks:List FK)(hk nm s0:List Str)(R:List (Str×D))(wq:List Str):Prop where
 nd:(R.map (·.1)).Nodup
 sub:∀a∈R.map (·.1),a∈nm
 q:∀a∈wq,a∈R.map (·.1)
 st:∀a∈s0,a∈R.map (·.1)
 par:∀(i:Nat) (p:Str×D),R[i]?=some p→p.2=.ao∨∃b,p.2=.str b∧b∈(R.take i).map (·.1)
 src:∀a∈R.map (·.1),a∈s0∨(a∉hk∧∃c,(c,J3,(.inr a:Key))∈ks)
 cl:∀a∈R.map (·.1),a∉wq→∀b,(a,J3,(.inr b:Key))∈ks→b∉hk→b∈R.map (·.1)
theorem NB{ks:List FK}{st:List Str}{R:List (Str×D)}{E:List Str}(B:BI ks hk nm st R (a::wq))(fh:∀k∈ks,∀b,k.2.2=.inr b→b∈nm)(h2:(R.map (·.1)++E).Nodup)(h3:∀b∈E,(J3,(.inr b:Key))∈KJ ks a∧b∉hk)(h4:∀b,(J3,(.inr b:Key))∈KJ ks a→b∉hk→b∈R.map (·.1)++E):
  BI ks hk nm st (R++E.map (fun b=>(b,D.str a))) (wq++E):=by
 have em:(R++E.map (fun b=>(b,D.str a))).map (·.1)=R.map (·.1)++E:=by
  rw[ft,df];congr 1;exact List.map_id'' (fun _=>rfl) E
 have ha:=B.q a bX;refine⟨by rw[em];exact h2,fun c hc=>?_,fun c hc=>?_,fun c hc=>?_,fun i p e=>?_,fun c hc=>?_,fun c hc hw b hb Ic=>?_⟩
 ·rw[em]at hc
  rcases de hc with hc | hc
  ·exact B.sub c hc
  ·exact fh _ (rV.mp (h3 c hc).1) c rfl
 ·rw[em]
  rcases de hc with hc | hc
  ·exact eP _ (B.q c (b8 _ hc))
  ·exact eQ _ hc
 ·rw[em];exact eP _ (B.st c hc)
 ·by_cases hi:i<R.length
  ·rw[ko hi]at e
   rw[List.take_append_of_le_length (by lia)];exact B.par i p e
  ·rw[so (by lia),eS]at e
   obtain⟨b,_,rfl⟩:=b5 e;refine .inr ⟨a,rfl,?_⟩;rw[List.take_append,sr (by lia),ft];exact eP _ ha
 ·rw[em]at hc
  rcases de hc with hc | hc
  ·exact B.src c hc
  ·exact .inr ⟨(h3 c hc).2,a,rV.mp (h3 c hc).1⟩
 ·rw[em]at hc ⊢
  by_cases Ih:c=a
  ·subst Ih
   exact h4 b (rV.mpr hb) Ic
  ·have SS:c∈R.map (·.1):=by
    rcases de hc with hc | hc
    ·exact hc
    ·exact absurd (eQ _ hc) hw
   refine eP _ (B.cl c SS (fun z=>?_) b hb Ic);rcases cg z with z | z
   ·exact Ih z
   ·exact hw (eP _ z)
noncomputable def sR(b:Nat)(st on tl:D)(x5 x6 x7:Option D):DS:=[some st,some on,some tl,some (.ak b),some (.ak (b+1)),x5,x6,x7]
noncomputable def mR(m0:Mem)(R:List (Str×D))(wq:List Str):Mem:=m0++[.aq (CW R) (DK R),.lst (wq.map .str)]
theorem Em{R:List (Str×D)}:(mR m0 R wq)[m0.length]?=some (.aq (CW R) (DK R)):=by simp[mR]
theorem Eo{R:List (Str×D)}:(mR m0 R wq)[m0.length+1]?=some (.lst (wq.map .str)):=by simp[mR]
theorem QP{R eL:List (Str×D)}:(mR m0 R wq).set m0.length (.aq (CW eL) (DK eL))=mR m0 eL wq:=by simp[mR]
theorem Gn{R:List (Str×D)}{w:List D}{Ko:List Str}(h:w=Ko.map .str):(mR m0 R wq).set (m0.length+1) (.lst w)=mR m0 R Ko:=by subst h;simp[mR]
theorem rN{a b:Ex}{x y:D}{ks:List Key}{k:Key}(h1:ev C a σ m=some (x,m))(h2:ev C b σ m=some (y,m))(hd:GX y m=some (ks,vs))(hk:MF x=some k):ev C (.tS a b) σ m=some (.bl (!(GC ks vs k).isSome),m):=by
 show (ev C a σ m).bind _=_;rw[h1,bq];show (ev C b σ m).bind _=_;rw[h2,bq];show (GX y m).bind _=_;rw[hd,bq];show (MF x).map _=_;rw[hk];rfl
theorem sE{ks:List Key}(h:m[i]?=some (.aq ks vs)):GX (.ak i) m=some (ks,vs):=by
 show (match m[i]? with | some (.aq ks vs)=>some (ks,vs) | _=>none)=_;rw[h]
noncomputable def tE:bp:=match KD 2 MJ with | .cons (.bh _ b) _=>b | s=>s
noncomputable def Bo:bp:=w9 (KD 1 tE)
section
variable{st on:D}
theorem Oq{R:List (Str×D)}{t:Str×Key}(ok:R8 (a,t)=true)(hl:R.length<1000)(hw:wq.length<1000):aE C W Bo (sR m0.length st on (bo hk g) (some (.str a)) (some (.str t.1)) (some (dQ t.2))) (mR m0 R wq)=some (.nx (sR m0.length st on (bo hk g) (some (.str a)) (some (.str t.1)) (some (dQ t.2))),mR m0 (SJ hk a (R,wq) t).1 (SJ hk a (R,wq) t).2):=by
 obtain⟨kd,z⟩:=t
 by_cases DB:kd=J3
 ·subst DB
  cases z with
  | inl j=>
   have:J3=Str.ofString "page":=gq ok;exact absurd this (by decide +kernel)
  | inr b=>
   have n1:=rN (C:=C) (a:=.var 7) (b:=.var 2) (σ:=sR m0.length st on (bo hk g) (some (.str a)) (some (.str J3)) (some (.str b))) (m:=mR m0 R wq) (x:=.str b) (y:=bo hk g) rfl rfl rfl rfl;have n2:=rN (C:=C) (a:=.var 7) (b:=.var 3) (σ:=sR m0.length st on (bo hk g) (some (.str a)) (some (.str J3)) (some (.str b))) (m:=mR m0 R wq) (x:=.str b) (y:=.ak m0.length) rfl rfl (sE Em) rfl;have e1:(GC (DG hk) (G7 hk g) (.inr b)).isSome=decide (b∈hk):=by
    by_cases h:b∈hk
    ·rw[T3 h,dk h];rfl
    ·rw[YZ h,dm h];rfl
   rw[e1]at n1;rw[MC]at n2;have t1:et C (.and (.val (.cmp .eq (.var 6) (.con (.str "name")))) (.and (.val (.tS (.var 7) (.var 2))) (.val (.tS (.var 7) (.var 3))))) (sR m0.length st on (bo hk g) (some (.str a)) (some (.str J3)) (some (.str b))) (mR m0 R wq)=some (!decide (b∈hk)&&!decide (b∈R.map (·.1)),mR m0 R wq):=by
    refine O5 (JC (p:=J3=Str.ofString "name") rfl rfl) ?_
    by_cases h:b∈hk
    ·rw[dk h]at n1 ⊢
     exact T7 (G3 n1 rfl)
    ·rw[dm h]at n1 ⊢
     exact O5 (G3 n1 rfl) (G3 n2 rfl)
   by_cases h:b∉hk∧b∉R.map (·.1)
   ·have e0:SJ hk a (R,wq) (J3,.inr b)=(R++[(b,.str a)],wq++[b]):=ag ⟨rfl,h⟩
    rw[e0];rw[dm h.1,dm h.2]at t1;have hR:(CW R).length<10000:=by unfold CW;rw[a9];lia
    exact JQ t1 (fV (z:=.str a) (y:=.str b) (i:=m0.length) rfl rfl rfl Em rfl rfl hR (by
     rw[OB h.2,QP];exact IW (U6 (d:=.str b) rfl rfl Eo rfl (by rw[a9];lia)) (RD (Gn (by simp))))) rfl
   ·have e0:SJ hk a (R,wq) (J3,.inr b)=(R,wq):=ai fun q=>h q.2
    rw[e0];have:(!decide (b∈hk)&&!decide (b∈R.map (·.1)))=false:=by
     by_cases h1:b∈hk
     ·rw[dk h1];rfl
     ·by_cases h2:b∈R.map (·.1)
      ·rw[dk h2,Bool.and_comm];rfl
      ·exact absurd ⟨h1,h2⟩ h
    rw[this]at t1;exact FQ t1 rfl
 ·have e0:SJ hk a (R,wq) (kd,z)=(R,wq):=by
   cases z with
   | inl j=>rfl
   | inr b=>exact ai fun q=>DB q.1
  rw[e0];exact FQ (T7 (HS (p:=kd=Str.ofString "name") rfl DB)) rfl
theorem yU{a:Str}{ys:List D}:∀(ts:List (Str×Key)) (R:List (Str×D)) (wq:List Str) (x6 x7:Option D),(∀t∈ts,R8 (a,t)=true)→R.length+ts.length<1000→wq.length+ts.length<1000→∃y6 y7,forL ⟨ys,none⟩ (.tp [.nm 6,.nm 7]) (fun σ m=>aE C W Bo σ m) (ts.map gj) (sR m0.length st on (bo hk g) (some (.str a)) x6 x7) (mR m0 R wq)=some (.nx (sR m0.length st on (bo hk g) (some (.str a)) y6 y7),mR m0 (ts.foldl (SJ hk a) (R,wq)).1 (ts.foldl (SJ hk a) (R,wq)).2)
 | [],R,wq,x6,x7,_,_,_=>⟨x6,x7,K7 rfl⟩
 | t::ts,R,wq,x6,x7,ok,hl,hw=>by
  rw[kn]at hl hw;have e:=Oq (C:=C) (W:=W) (m0:=m0) (st:=st) (on:=on) (hk:=hk) (g:=g) (R:=R) (wq:=wq) (ok t bX) (by lia) (by lia);have hg:(SJ hk a (R,wq) t).1.length≤R.length+1∧(SJ hk a (R,wq) t).2.length≤wq.length+1:=by
   unfold SJ;split
   ·split
    ·simp
    ·simp
   ·simp
  obtain⟨y6,y7,e2⟩:=yU (a:=a) (ys:=ys) ts (SJ hk a (R,wq) t).1 (SJ hk a (R,wq) t).2 (some (.str t.1)) (some (dQ t.2)) (fun u hu=>ok u (b8 _ hu)) (by lia) (by lia);refine⟨y6,y7,?_⟩;rw[List.foldl_cons];exact HN (σ1:=sR m0.length st on (bo hk g) (some (.str a)) (some (.str t.1)) (some (dQ t.2))) rfl rfl e e2
end
theorem MY{a:Ex}{d:D}{r:List D}(h:ev C a σ m=some (.ak i,m))(hm:m[i]?=some (.lst (d::r))):ev C (.AS a) σ m=some (d,m.set i (.lst r)):=by
 show (ev C a σ m).bind _=_;rw[h,bq];show (match m[i]? with
   | some (.lst (d::r))=>some (d,m.set i (.lst r))
   | _=>none)=_
 rw[hm]
section
variable{st:D}
theorem yS{ks:List FK}{nm s0:List Str}(h4:nm.length=4)(fh:∀k∈ks,k∈univ nm)(hlen:ks.length≤100):∀(w vv:Nat) (R:List (Str×D)) (wq:List Str) (x5 x6 x7:Option D),BI ks hk nm s0 R wq→2*(4-R.length)+wq.length≤vv→vv<w→vv≤20→∃eL y5 y6 y7,BI ks hk nm s0 eL []∧M7 (et C (.val (.var 4))) (fun σ m=>aE C W tE σ m) w (sR m0.length st (J1 (ks.foldl FW [])) (bo hk g) x5 x6 x7) (mR m0 R wq)=some (.nx (sR m0.length st (J1 (ks.foldl FW [])) (bo hk g) y5 y6 y7),mR m0 eL [])
 | 0,vv,R,wq,x5,x6,x7,B,hm,hw,_=>absurd hw (o5 _)
 | w+1,vv,R,wq,x5,x6,x7,B,hm,hw,X0=>by
  have HU:R.length≤4:=by
   have:=B.nd.length_le_of_subset B.sub;rw[a9]at this;lia
  have ke:et C (.val (.var 4)) (sR m0.length st (J1 (ks.foldl FW [])) (bo hk g) x5 x6 x7) (mR m0 R wq)=some (!(wq.map D.str).isEmpty,mR m0 R wq):=G3 rfl (Cu Eo);cases wq with
  | nil=>
   refine⟨R,x5,x6,x7,B,?_⟩;rw[M7,ke];rfl
  | cons a wq=>
   obtain⟨E,e1,e2,e3,e4⟩:=pG (hk:=hk) (a:=a) (KJ ks a) R wq B.nd;have Yx:(KJ ks a).length≤100:=by
    unfold KJ;rw[a9];exact eR (List.length_filter_le _ _) hlen
   rw[kn]at hm;have Yq:wq.length≤20:=by lia
   obtain⟨y6,y7,f1⟩:=yU (C:=C) (W:=W) (m0:=m0) (st:=st) (on:=J1 (ks.foldl FW [])) (hk:=hk) (g:=g) (a:=a) (ys:=(KJ ks a).map gj) (KJ ks a) R wq x6 x7 (fun t ht=>YS _ (fh _ (rV.mp ht))) (by lia) (by lia);rw[e1]at f1;have BG:=NB B (fun k jb b hb=>by
    have:=fh k jb;obtain⟨y,hy,hm⟩:=List.mem_flatMap.mp this;rcases de hm with hm | hm
    ·simp only[List.mem_cons,List.not_mem_nil,or_false]at hm
     rcases hm with rfl | rfl | rfl<;>cases hb
    ·obtain⟨x,hx,rfl⟩:=dg hm
     cases hb;exact hx) e2 e3 e4
   have X1:R.length+E.length≤4:=by
    have:=BG.nd.length_le_of_subset BG.sub;rw[a9,fN,a9]at this;lia
   obtain⟨eL,z5,z6,z7,b1,b2⟩:=yS h4 fh hlen w (vv-1) _ _ (some (.str a)) y6 y7 BG (by rw[fN,fN,a9];lia) (by lia) (by lia);refine⟨eL,z5,z6,z7,b1,?_⟩;have Ak:ev C (.get (.var 1) (.var 5) (.lst false .nil)) (sR m0.length st (J1 (ks.foldl FW [])) (bo hk g) (some (.str a)) x6 x7) (mR m0 R wq)=some (.lst ((KJ ks a).map gj),mR m0 R wq):=by
    rw[←rG,FI];exact zp (x:=.aq (CW (YM (ks.foldl FW []))) (DK (YM (ks.foldl FW [])))) (y:=.str a) (u:=.lst []) rfl rfl rfl rfl rfl
   have me:aE C W tE (sR m0.length st (J1 (ks.foldl FW [])) (bo hk g) x5 x6 x7) (mR m0 R (a::wq))=some (.nx (sR m0.length st (J1 (ks.foldl FW [])) (bo hk g) (some (.str a)) y6 y7),mR m0 (R++E.map (fun b=>(b,D.str a))) (wq++E)):=by
    refine CJ (MY (d:=.str a) (r:=wq.map .str) rfl Eo) ?_;rw[Gn rfl];exact NT (b:=Bo) (w:=⟨(KJ ks a).map gj,none⟩) (m1:=mR m0 R wq) (N6 Ak) f1 rfl
   rw[M7,ke];show (aE C W tE _ _).bind _=_;rw[me];exact b2
theorem lZ{z:D}(hn:s0.Nodup)(hl:s0.length≤1000)(mu:Bool)(m:Mem):cy (.ug mu) (.lst (s0.map fun a=>.tup [.str a,z])) m=some (hV mu (CW (s0.map fun a=>(a,z))) (DK (s0.map fun a=>(a,z))) m):=by
 have e1:∀l:List Str,pairsOf (l.map fun a=>D.tup [.str a,z])=some (CW (l.map fun a=>(a,z)),DK (l.map fun a=>(a,z))):=fun l=>by
  induction l with
  | nil=>rfl
  | cons a r ih=>
   rw[ck,pairsOf,ih];rfl
 have e2:(CW (s0.map fun a=>(a,z))).Nodup:=by
  unfold CW;rw[df];exact List.Pairwise.map _ (fun a b (h:a≠b) q=>h (iF q)) hn
 have e3:FP [] [] (CW (s0.map fun a=>(a,z))) (DK (s0.map fun a=>(a,z)))=(CW (s0.map fun a=>(a,z)),DK (s0.map fun a=>(a,z))):=by
  have:=gZ (r:=CW (s0.map fun a=>(a,z))) (q:=DK (s0.map fun a=>(a,z))) (ks:=[]) (vs:=[]) (by simp[CW,DK]) e2 (by simp);simpa using this
 show ((FJ (.lst (s0.map fun a=>D.tup [.str a,z])) m).bind fun xs=>(pairsOf xs).bind fun q=>if q.1.length≤1000 then some (hV mu (FP [] [] q.1 q.2).1 (FP [] [] q.1 q.2).2 m) else none)=_;show ((pairsOf (s0.map fun a=>D.tup [.str a,z])).bind fun q=>if q.1.length≤1000 then some (hV mu (FP [] [] q.1 q.2).1 (FP [] [] q.1 q.2).2 m) else none)=_;rw[e1,bq,ag (by simpa[CW] using hl),e3]
theorem vW{ks:List FK}{R:List (Str×D)}(B:BI ks hk nm s0 R wq):D.clean.cj (DK R)=true:=by
 have:∀l:List (Str×D),(∀p∈l,p.2=.ao∨∃b,p.2=.str b)→D.clean.cj (DK l)=true:=fun l=>by
  induction l with
  | nil=>exact fun _=>rfl
  | cons p r ih=>
   intro h;show (D.clean p.2&&D.clean.cj (DK r))=true;rw[ih fun q hq=>h q (b8 _ hq)];rcases h p bX with e | ⟨b,e⟩<;>rw[e]<;>rfl
 refine this R fun p hp=>?_
 obtain⟨i,hi,e⟩:=nE hp;rcases B.par i p (by rw[fo hi,e]) with h | ⟨b,h,_⟩
 ·exact .inl h
 ·exact .inr ⟨b,h⟩
theorem wB(H:YQ Γ){ks:List FK}(h4:nm.length=4)(fh:∀k∈ks,k∈univ nm)(hlen:ks.length≤100)(hs:s0.Nodup)(IP:∀a∈s0,a∈nm)(hW:100<W)(m:Mem):∃R,BI ks hk nm s0 R []∧BW W Γ (n+1) "names_reached" [.lst (s0.map .str),J1 (ks.foldl FW []),bo hk g] m=some (.aq (CW R) (DK R),m):=by
 have xq:s0.length≤4:=by rw[←h4];exact hs.length_le_of_subset IP
 have em:(s0.map fun a=>(a,D.ao)).map (·.1)=s0:=by
  rw[df];exact List.map_id'' (fun _=>rfl) s0
 have B0:BI ks hk nm s0 (s0.map fun a=>(a,D.ao)) s0:=⟨by rw[em];exact hs,by rw[em];exact IP,by rw[em];exact fun a h=>h,by rw[em];exact fun a h=>h,fun i p e=>by
  rw[eS]at e;obtain⟨a,_,rfl⟩:=b5 e;exact .inl rfl,by rw[em];exact fun a h=>.inl h,by rw[em];exact fun a h1 h2=>absurd h1 h2⟩
 obtain⟨R,y5,y6,y7,b1,b2⟩:=yS (C:=BW W Γ n) (W:=W) (m0:=m) (st:=.lst (s0.map .str)) (g:=g) h4 fh hlen W 12 _ _ none none none B0 (by rw[a9];lia) (by lia) (by lia);refine⟨R,b1,?_⟩;have cm:=vW b1;have comp:ev (BW W Γ n) (.comp false 1 (.nm 8) (.seq (.var 0)) .tt (.tup (.cons (.var 8) (.cons (.con .ao) .nil)))) [some (.lst (s0.map .str)),some (J1 (ks.foldl FW [])),some (bo hk g),none,none,none,none,none] m=some (.lst (s0.map fun a=>.tup [.str a,.ao]),m):=by
  rw[O4 (xs:=s0) (dd:=.str) (h:=fun a=>some (.tup [.str a,.ao])) rfl rfl (by lia)]
  ·rw[qB]
  ·intro a _
   refine⟨[some (.lst (s0.map .str)),some (J1 (ks.foldl FW [])),some (bo hk g),none,none,none,none,none,some (.str a)],true,rfl,rfl,?_⟩;rw[ag rfl];exact⟨rfl,rfl⟩
 rw[NP H.VZ rfl];have E:aE (BW W Γ n) W vE.body ([D.lst (s0.map .str),J1 (ks.foldl FW []),bo hk g].map some++List.replicate (vE.ns-vE.ps) none) m=some (.rt (.ak m.length),mR m R []):=by
  refine CJ (d:=.ak m.length) (m1:=m++[.aq (CW (s0.map fun a=>(a,D.ao))) (DK (s0.map fun a=>(a,D.ao)))]) (GD comp (lZ hs (by lia) true m)) ?_;refine CJ (d:=.ak (m.length+1)) (m1:=mR m (s0.map fun a=>(a,D.ao)) s0) ?_ ?_
  ·refine GD rfl ?_
   show some (bE true (s0.map .str) (m++[.aq (CW (s0.map fun a=>(a,D.ao))) (DK (s0.map fun a=>(a,D.ao)))]))=_;simp[bE,mR]
  ·exact fU b2 (CP rfl)
 rw[E];show (outD m.length (mR m R []) (.ak m.length)).map _=_;have:outD m.length (mR m R []) (.ak m.length)=some (.aq (CW R) (DK R)):=by
  show (if m.length<m.length then none else match (mR m R [])[m.length]? with
   | some (.lst xs)=>if D.clean.cj xs then some (D.lst xs) else none
   | some (.aq ks vs)=>if D.clean.cj vs then some (D.aq ks vs) else none
   | _=>none)=_
  rw[ai (gp _),Em];show (if D.clean.cj (DK R) then _ else _)=_;rw[cm];rfl
 rw[this];simp[mR]
end
noncomputable def mL:bp:=match KD 2 bV with | .cons (.bh _ b) _=>b | s=>s
noncomputable def sY(b:Nat)(nm cf:D)(x3:Option D):DS:=[some nm,some cf,some (.ak b),x3]
noncomputable def mY(m0:Mem)(acc:List Str):Mem:=m0++[.lst (acc.map .str)]
theorem Ji{acc:List Str}:(mY m0 acc)[m0.length]?=some (.lst (acc.map .str)):=by simp[mY]
theorem U2{acc:List Str}:(mY m0 acc).set m0.length (.lst (acc.map .str++[.str a]))=mY m0 (acc++[a]):=by simp[mY]
theorem E7{a b:Ex}{x y d:D}{ks:List Key}{k:Key}(h1:ev C a σ m=some (x,m))(h2:ev C b σ m=some (y,m))(hd:GX x m=some (ks,vs))(hk:MF y=some k)(hl:GC ks vs k=some d):ev C (.mM a b) σ m=some (d,m):=by
 show (ev C a σ m).bind _=_;rw[h1,bq];show (ev C b σ m).bind _=_;rw[h2,bq];show (GX x m).bind _=_;rw[hd,bq];show (MF y).bind _=_;rw[hk,bq];show (GC ks vs k).map _=_;rw[hl];rfl
theorem Fj:∀l:List Str,D.clean.cj (l.map .str)=true
 | []=>rfl
 | a::r=>Fj r
section
variable{ks:List FK}{R:List (Str×D)}
theorem wL(B:BI ks hk nm s0 R []){m0:Mem}{tT:D}:∀(i w:Nat) (a:Str) (acc:List Str),a∈(R.take i).map (·.1)→i<w→acc.length+i≤1000→∃gN,gN.length≤acc.length+i∧M7 (et C (.val (.cmp .mI (.var 3) (.con .ao)))) (fun σ m=>aE C W mL σ m) w (sY m0.length tT (.aq (CW R) (DK R)) (some (.str a))) (mY m0 acc)=some (.nx (sY m0.length tT (.aq (CW R) (DK R)) (some .ao)),mY m0 gN)
 | 0,w,a,acc,h,_,_=>by simp at h
 | i+1,0,a,acc,_,hw,_=>absurd hw (o5 _)
 | i+1,w+1,a,acc,h,hw,hl=>by
  obtain⟨p,hp,rfl⟩:=dg h;obtain⟨j,hj,ej⟩:=nE hp;rw[List.length_take]at hj;have Tv:j<R.length:=by lia
  have ep:R[j]?=some p:=by
   rw[List.getElem_take]at ej;rw[fo Tv,ej]
  have TL:GC (CW R) (DK R) (.inr p.1)=some p.2:=Bf B.nd (jw ep);have step:aE C W mL (sY m0.length tT (.aq (CW R) (DK R)) (some (.str p.1))) (mY m0 acc)=some (.nx (sY m0.length tT (.aq (CW R) (DK R)) (some p.2)),mY m0 (acc++[p.1])):=by
   refine IW (U6 (d:=.str p.1) rfl rfl Ji rfl (by rw[a9];lia)) ?_;rw[U2];exact CJ (E7 (x:=.aq (CW R) (DK R)) (y:=.str p.1) rfl rfl rfl rfl TL) rfl
  have go:∀{X},M7 (et C (.val (.cmp .mI (.var 3) (.con .ao)))) (fun σ m=>aE C W mL σ m) w (sY m0.length tT (.aq (CW R) (DK R)) (some p.2)) (mY m0 (acc++[p.1]))=X→M7 (et C (.val (.cmp .mI (.var 3) (.con .ao)))) (fun σ m=>aE C W mL σ m) (w+1) (sY m0.length tT (.aq (CW R) (DK R)) (some (.str p.1))) (mY m0 acc)=X:=fun {X} h=>by
   rw[M7];show (aE C W mL _ _).bind _=_;rw[step];exact h
  rcases B.par j p ep with e | ⟨b,e,hb⟩
  ·obtain⟨gk,rfl⟩:∃gk,w=gk+1:=⟨w-1,by lia⟩
   refine⟨acc++[p.1],by rw[fN,l9];lia,go ?_⟩;rw[e,M7];rfl
  ·have g7:b∈(R.take i).map (·.1):=by
    obtain⟨q,hq,rfl⟩:=dg hb;refine i6 ?_;exact(List.take_subset_take_left R (by lia)) hq
   obtain⟨gN,l1,e1⟩:=wL B i w b (acc++[p.1]) g7 (by lia) (by rw[fN,l9];lia);rw[fN,l9]at l1;exact⟨gN,by lia,go (by rw[e];exact e1)⟩
theorem Qt(H:YQ Γ)(B:BI ks hk nm s0 R [])(hR:R.length≤4)(hW:100<W)(ha:a∈R.map (·.1))(m:Mem):∃d,BW W Γ (n+1) "way_to" [.str a,.aq (CW R) (DK R)] m=some (d,m)∧d.clean=true:=by
 obtain⟨acc,l1,e1⟩:=wL (C:=BW W Γ n) (W:=W) B (m0:=m) (tT:=.str a) R.length W a [] (by rw[List.take_length];exact ha) (by lia) (by simp;lia);have cm:(D.tup (acc.map .str).reverse).clean=true:=by
  show D.clean.cj (acc.map D.str).reverse=true;rw[←List.map_reverse];exact Fj _
 refine⟨.tup (acc.map .str).reverse,?_,cm⟩;have ht:cy .yv (.ak m.length) (mY m acc)=some (.tup (acc.map .str).reverse,mY m acc):=by
  show ((match (mY m acc)[m.length]? with | some (.lst xs)=>some xs | _=>none).bind fun xs=>if xs.length≤1000 then some (D.tup xs.reverse,mY m acc) else none)=_;rw[Ji,bq,ag (by rw[a9];simp at l1;lia)]
 exact JR (q:=[.lst (acc.map .str)]) H.way rfl cm (CJ (d:=.ak m.length) (m1:=mY m []) rfl (CJ rfl (fU e1 (CP (GD rfl ht)))))
end
noncomputable def wF(hk:List Str)(g:Str→Int)(v:Int)(t:Str×Key):Bool:=match t.2 with
 | .inl j=>decide (j<v)
 | .inr b=>decide ((if b∈hk then g b else v)<v)
noncomputable def ng(e f:D):D:=.tup [.str "trail",e,f]
noncomputable def bO:bp:=w9 QW
noncomputable def eY:bp:=w9 bO
section
variable{ks:List FK}{R:List (Str×D)}
theorem Ny(H:YQ Γ){t:Str×Key}(ok:R8 (a,t)=true):BW W Γ (n+1) "is_below" [gj t,.int v,bo hk g] m=some (.bl (wF hk g v t),m):=by
 obtain⟨kd,z | z⟩:=t
 ·have:kd=Str.ofString "page":=gq ok
  subst this;refine DN H.below rfl rfl ?_;exact GJ (JC (p:=Str.ofString "page" = Str.ofString "page") rfl rfl) (CP rfl)
 ·have c9:¬kd=Str.ofString "page":=by simpa[R8] using ok
  refine DN H.below rfl rfl ?_;have hg:ev (BW W Γ n) (.get (.var 2) (.ix (.var 0) (.con (.int 1))) (.var 1)) [some (.tup [.str kd,.str z]),some (.int v),some (bo hk g)] m=some (.int (if z∈hk then g z else v),m):=by
   rw[zp (x:=bo hk g) (y:=.str z) (u:=.int v) (ks:=DG hk) (vs:=G7 hk g) (kk:=.inr z) rfl rfl rfl rfl rfl]
   by_cases h:z∈hk
   ·rw[T3 h,ag h];rfl
   ·rw[YZ h,ai h];rfl
  exact FQ (HS rfl c9) (CP (HD hg rfl rfl))
noncomputable def sT(v:Int)(cf on tl:D)(x4 x5:Option D):DS:=[some (.int v),some cf,some on,some tl,x4,x5]
theorem wO(H:YQ Γ)(B:BI ks hk nm s0 R [])(hR:R.length≤4)(hW:100<W){on:D}{a:Str}(ha:a∈R.map (·.1)){ys:List D}:∀(ts:List (Str×Key)) (x5:Option D),(∀t∈ts,R8 (a,t)=true)→(∃y5,forL ⟨ys,none⟩ (.nm 5) (fun σ m=>aE (BW W Γ (n+1)) W eY σ m) (ts.map gj) (sT v (.aq (CW R) (DK R)) on (bo hk g) (some (.str a)) x5) m=some (.nx (sT v (.aq (CW R) (DK R)) on (bo hk g) (some (.str a)) y5),m)∧∀t∈ts,wF hk g v t=false)∨∃e f,(ng e f).clean=true∧forL ⟨ys,none⟩ (.nm 5) (fun σ m=>aE (BW W Γ (n+1)) W eY σ m) (ts.map gj) (sT v (.aq (CW R) (DK R)) on (bo hk g) (some (.str a)) x5) m=some (.rt (ng e f),m)
 | [],x5,_=>.inl ⟨x5,K7 rfl,fun t ht=>(nomatch ht)⟩
 | t::ts,x5,ok=>by
  have hb:=Ny (W:=W) (n:=n) (m:=m) (hk:=hk) (g:=g) (v:=v) H (ok t bX);have ke:et (BW W Γ (n+1)) (.val (.call "is_below" (.cons (.var 5) (.cons (.var 0) (.cons (.var 3) .nil))))) (sT v (.aq (CW R) (DK R)) on (bo hk g) (some (.str a)) (some (gj t))) m=some (wF hk g v t,m):=G3 (CG hb rfl) rfl;have su:JL (.nm 5) (gj t) (sT v (.aq (CW R) (DK R)) on (bo hk g) (some (.str a)) x5)=some (sT v (.aq (CW R) (DK R)) on (bo hk g) (some (.str a)) (some (gj t))):=rfl;cases Dk:wF hk g v t with
  | true=>
   rw[Dk]at ke;obtain⟨d,e1,cm⟩:=Qt (W:=W) (n:=n) H B hR hW ha m;refine .inr ⟨d,gj t,?_,?_⟩
   ·show (d.clean&&((gj t).clean&&true))=true
    rw[cm];obtain⟨kd,z | z⟩:=t<;>rfl
   ·have hr:aE (BW W Γ (n+1)) W eY (sT v (.aq (CW R) (DK R)) on (bo hk g) (some (.str a)) (some (gj t))) m=some (.rt (ng d (gj t)),m):=GJ ke (CP (HB (BZ rfl (BZ (CG e1 rfl) (BZ rfl rfl))) (by simp)))
    rw[ck,forL,ag (show Walk.ok ⟨ys,none⟩ m=true from rfl),su,bq,hr];rfl
  | false=>
   rw[Dk]at ke;have hr:aE (BW W Γ (n+1)) W eY (sT v (.aq (CW R) (DK R)) on (bo hk g) (some (.str a)) (some (gj t))) m=some (.nx (sT v (.aq (CW R) (DK R)) on (bo hk g) (some (.str a)) (some (gj t))),m):=FQ ke rfl;rcases wO H B hR hW ha ts (some (gj t)) (fun u hu=>ok u (b8 _ hu)) with ⟨y5,e1,e2⟩ | ⟨e,f,cm,e1⟩
   ·refine .inl ⟨y5,?_,fun u hu=>?_⟩
    ·rw[ck]
     exact HN rfl su hr e1
    ·rcases cg hu with rfl | hu
     ·exact Dk
     ·exact e2 u hu
   ·refine .inr ⟨e,f,cm,?_⟩
    rw[ck];exact HN rfl su hr e1
theorem wY(H:YQ Γ)(fh:∀k∈ks,R8 k=true)(B:BI ks hk nm s0 R [])(hR:R.length≤4)(hW:100<W){ys:List D}:∀(as:List Str) (x4 x5:Option D),(∀a∈as,a∈R.map (·.1))→(∃y4 y5,forL ⟨ys,none⟩ (.nm 4) (fun σ m=>aE (BW W Γ (n+1)) W bO σ m) (as.map .str) (sT v (.aq (CW R) (DK R)) (J1 (ks.foldl FW [])) (bo hk g) x4 x5) m=some (.nx (sT v (.aq (CW R) (DK R)) (J1 (ks.foldl FW [])) (bo hk g) y4 y5),m)∧∀a∈as,∀t∈KJ ks a,wF hk g v t=false)∨∃e f,(ng e f).clean=true∧forL ⟨ys,none⟩ (.nm 4) (fun σ m=>aE (BW W Γ (n+1)) W bO σ m) (as.map .str) (sT v (.aq (CW R) (DK R)) (J1 (ks.foldl FW [])) (bo hk g) x4 x5) m=some (.rt (ng e f),m)
 | [],x4,x5,_=>.inl ⟨x4,x5,K7 rfl,fun t ht=>(nomatch ht)⟩
 | a::as,x4,x5,jS=>by
  have Ak:ev (BW W Γ (n+1)) (.get (.var 2) (.var 4) (.lst false .nil)) (sT v (.aq (CW R) (DK R)) (J1 (ks.foldl FW [])) (bo hk g) (some (.str a)) x5) m=some (.lst ((KJ ks a).map gj),m):=by
   rw[←rG,FI];exact zp (x:=.aq (CW (YM (ks.foldl FW []))) (DK (YM (ks.foldl FW [])))) (y:=.str a) (u:=.lst []) rfl rfl rfl rfl rfl
  have su:JL (.nm 4) (.str a) (sT v (.aq (CW R) (DK R)) (J1 (ks.foldl FW [])) (bo hk g) x4 x5)=some (sT v (.aq (CW R) (DK R)) (J1 (ks.foldl FW [])) (bo hk g) (some (.str a)) x5):=rfl;rcases wO (W:=W) (n:=n) (m:=m) (g:=g) (v:=v) H B hR hW (on:=J1 (ks.foldl FW [])) (jS a bX) (ys:=(KJ ks a).map gj) (KJ ks a) x5 (fun t ht=>fh _ (rV.mp ht)) with ⟨y5,e1,e2⟩ | ⟨e,f,cm,e1⟩
  ·have hr:aE (BW W Γ (n+1)) W bO (sT v (.aq (CW R) (DK R)) (J1 (ks.foldl FW [])) (bo hk g) (some (.str a)) x5) m=some (.nx (sT v (.aq (CW R) (DK R)) (J1 (ks.foldl FW [])) (bo hk g) (some (.str a)) y5),m):=NT (b:=eY) (w:=⟨(KJ ks a).map gj,none⟩) (m1:=m) (N6 Ak) e1 rfl
   rcases wY H fh B hR hW as (some (.str a)) y5 (fun b hb=>jS b (b8 _ hb)) with ⟨z4,z5,f1,f2⟩ | ⟨e,f,cm,f1⟩
   ·refine .inl ⟨z4,z5,?_,fun b hb=>?_⟩
    ·rw[ck]
     exact HN rfl su hr f1
    ·rcases cg hb with rfl | hb
     ·exact e2
     ·exact f2 b hb
   ·refine .inr ⟨e,f,cm,?_⟩
    rw[ck];exact HN rfl su hr f1
  ·refine .inr ⟨e,f,cm,?_⟩
   have hr:aE (BW W Γ (n+1)) W bO (sT v (.aq (CW R) (DK R)) (J1 (ks.foldl FW [])) (bo hk g) (some (.str a)) x5) m=some (.rt (ng e f),m):=by
    show (ex (BW W Γ (n+1)) W (.fr (.nm 5) (.seq (.get (.var 2) (.var 4) (.lst false .nil))) eY) _ m).bind _=_;rw[yI,N6 Ak,bq];show (forL _ _ _ _ _ m).bind _=_;rw[e1];rfl
   rw[ck,forL,ag (show Walk.ok ⟨ys,none⟩ m=true from rfl),su,bq,hr];rfl
theorem Nr(H:YQ Γ)(fh:∀k∈ks,R8 k=true)(B:BI ks hk nm s0 R [])(hR:R.length≤4)(hW:100<W):(BW W Γ (n+2) "trail_down" [.int v,.aq (CW R) (DK R),J1 (ks.foldl FW []),bo hk g] m=some (.ao,m)∧∀a∈R.map (·.1),∀t∈KJ ks a,wF hk g v t=false)∨∃e f,(ng e f).clean=true∧BW W Γ (n+2) "trail_down" [.int v,.aq (CW R) (DK R),J1 (ks.foldl FW []),bo hk g] m=some (ng e f,m):=by
 have DC:(CW R).map dQ=(R.map (·.1)).map .str:=by
  unfold CW;rw[df,df];rfl
 have Ai:ei (BW W Γ (n+1)) (.keys (.var 1)) (sT v (.aq (CW R) (DK R)) (J1 (ks.foldl FW [])) (bo hk g) none none) m=some (⟨(R.map (·.1)).map .str,none⟩,m):=by
  rw[←DC];rfl
 rcases wY (W:=W) (n:=n) (m:=m) (g:=g) (v:=v) H fh B hR hW (ys:=(R.map (·.1)).map .str) (R.map (·.1)) none none (fun a h=>h) with ⟨y4,y5,e1,e2⟩ | ⟨e,f,cm,e1⟩
 ·exact .inl ⟨DN (n:=n+1) H.trail rfl rfl (NT (b:=bO) (w:=⟨(R.map fun p:Str×D=>p.1).map D.str,none⟩) (m1:=m) Ai e1 (CP rfl)),e2⟩
 ·refine .inr ⟨e,f,cm,DN (n:=n+1) H.trail rfl cm ?_⟩
  show (ex (BW W Γ (n+1)) W (.fr (.nm 4) (.keys (.var 1)) bO) (sT v (.aq (CW R) (DK R)) (J1 (ks.foldl FW [])) (bo hk g) none none) m).bind _=_;rw[yI,Ai,bq];show (forL _ _ _ _ _ m).bind _=_;rw[e1];rfl
end
theorem E2:∀l:List FK,VJ (l.map fD)=some l
 | []=>rfl
 | k::r=>by
  show ((nN (fD k)).bind fun k=>(VJ (r.map fD)).map fun ks=>k::ks)=_;rw[E5,E2 r];rfl
theorem wW:∀t:Tm Str,iX t+1≤2 ^ (t.dep+1)
 | .num _=>by simp[iX,Tm.dep]
 | .fi _=>by simp[iX,Tm.dep]
 | .bin _ a b=>by
  have h1:=wW a;have h2:=wW b;have h3:2 ^ (a.dep+1)≤2 ^ (max a.dep b.dep+1):=Nat.pow_le_pow_right (by lia) (by lia);have h4:2 ^ (b.dep+1)≤2 ^ (max a.dep b.dep+1):=Nat.pow_le_pow_right (by lia) (by lia);simp only[iX,Tm.dep];rw[Nat.pow_succ 2 (max a.dep b.dep+1)];lia
theorem qF{t:Tm Str}(h:t.dep≤4):iX t≤31:=by
 have h1:=wW t;have h2:2 ^ (t.dep+1)≤2 ^ 5:=Nat.pow_le_pow_right (by lia) (by lia);lia
mutual
theorem Qr:∀d:Dd Str,d.dep≤4→k5 d≤32*d.size
 | .put x e,h=>by
  have h1:=qF (t:=e) h;simp only[k5,Dd.size];lia
 | .cK k e,h=>by
  have h1:=qF (t:=e) h;simp only[k5,Dd.size];lia
 | .ite e b c,h=>by
  simp only[Dd.dep]at h;have h1:=qF (t:=e) (by lia);have h5:=mQ b (by lia);have h6:=mQ c (by lia);simp only[k5,Dd.size];lia
 | .bh e b,h=>by
  simp only[Dd.dep]at h;have h1:=qF (t:=e) (by lia);have h5:=mQ b (by lia);simp only[k5,Dd.size];lia
theorem mQ:∀b:Bl Str,b.dep≤4→ny b≤32*b.size
 | .nil,_=>eM _
 | .cons d b,h=>by
  simp only[Bl.dep]at h;have h1:=Qr d (by lia);have h2:=mQ b (by lia);simp only[ny,Bl.size];lia
end
section
variable{P:Str→Prop}{nk:List Str}
theorem WD:∀{t:Tm Str},t.Ok P→(∀x∈t.names,x∈nk)→t.Ok (·∈nk)
 | .num _,h,_=>h
 | .fi x,_,h=>h x bX
 | .bin _ a b,ho,h=>⟨WD ho.1 fun x hx=>h x (eP _ hx),WD ho.2 fun x hx=>h x (eQ _ hx)⟩
mutual
theorem Pl:∀{d:Dd Str},d.Ok P→(∀x∈qt d,x∈nk)→d.Ok (·∈nk)
 | .put y e,ho,h=>⟨h y bX,WD ho.2 fun x hx=>h x (b8 _ hx)⟩
 | .cK l e,ho,h=>⟨ho.1,WD ho.2 h⟩
 | .ite e b c,ho,h=>⟨WD ho.1 fun x hx=>h x (eP _ (eP _ hx)),bU ho.2.1 fun x hx=>h x (eP _ (eQ _ hx)),bU ho.2.2 fun x hx=>h x (eQ _ hx)⟩
 | .bh e b,ho,h=>⟨WD ho.1 fun x hx=>h x (eP _ hx),bU ho.2 fun x hx=>h x (eQ _ hx)⟩
theorem bU:∀{b:Bl Str},b.Ok P→(∀x∈nv b,x∈nk)→b.Ok (·∈nk)
 | .nil,_,_=>trivial
 | .cons d b,ho,h=>⟨Pl ho.1 fun x hx=>h x (eP _ hx),bU ho.2 fun x hx=>h x (eQ _ hx)⟩
end
mutual
theorem F3:∀{d:Dd Str},d.Ok P→∀x∈qt d,P x
 | .put y e,h,x,hx=>by
  rcases cg hx with rfl | hx
  ·exact h.1
  ·exact h.2.names x hx
 | .cK l e,h,x,hx=>h.2.names x hx
 | .ite e b c,h,x,hx=>by
  rcases de hx with hx | hx
  ·rcases de hx with hx | hx
   ·exact h.1.names x hx
   ·exact mO h.2.1 x hx
  ·exact mO h.2.2 x hx
 | .bh e b,h,x,hx=>by
  rcases de hx with hx | hx
  ·exact h.1.names x hx
  ·exact mO h.2 x hx
theorem mO:∀{b:Bl Str},b.Ok P→∀x∈nv b,P x
 | .nil,_,x,hx=>nomatch hx
 | .cons d b,h,x,hx=>by
  rcases de hx with hx | hx
  ·exact F3 h.1 x hx
  ·exact mO h.2 x hx
end
end
theorem fX{k:FK}(h:k∈univ nm):(∃j:Int,0≤j∧k.2=(LC,.inl j))∨∃b,b∈nm∧k.2=(J3,.inr b):=by
 obtain⟨y,_,h⟩:=List.mem_flatMap.mp h;rcases de h with h | h
 ·simp only[List.mem_cons,List.not_mem_nil,or_false]at h
  rcases h with rfl | rfl | rfl
  ·exact .inl ⟨0,by decide,rfl⟩
  ·exact .inl ⟨1,by decide,rfl⟩
  ·exact .inl ⟨2,by decide,rfl⟩
 ·obtain⟨x,hx,rfl⟩:=dg h
  exact .inr ⟨x,hx,rfl⟩
theorem vX(g:ik):(J1 g).clean=true:=by
 have h1:∀t:List (Str×Key),D.clean.cj (t.map fun t=>D.tup [.str t.1,dQ t.2])=true:=fun t=>by
  induction t with
  | nil=>rfl
  | cons a r ih=>
   show ((D.clean (dQ a.2)&&true)&&_)=true;rw[ih];rcases a.2 with z | z<;>rfl
 show D.clean.cj (g.map fun p=>D.lst (p.2.map fun t=>.tup [.str t.1,dQ t.2]))=true
 induction g with
 | nil=>rfl
 | cons a r ih=>
  show (D.clean.cj (a.2.map fun t=>D.tup [.str t.1,dQ t.2])&&_)=true;rw[h1,ih];rfl
theorem wA(H:YQ Γ){ks:List FK}(hl:ks.length≤1000):BW W Γ (n+1) "targets_by_name" [.tup (ks.map fD)] m=some (J1 (ks.foldl FW []),m):=by
 refine DN H.targets rfl (vX _) (CP (GD (d:=.tup (ks.map fD)) rfl ?_));show ((VJ (ks.map fD)).bind fun ks=>if ks.length≤1000 then some (J1 (ks.foldl FW []),m) else none)=_;rw[E2,bq,ag hl]
theorem Pj{a b:Ex}{ks ib:List Key}{ig:List D}(h1:ev C a σ m=some (.ak i,m))(hm:m[i]?=some (.aq ib ig))(h2:ev C b σ m=some (.aq ks vs,m))(hc:D.clean.cj vs=true)(hl:ib.length+ks.length≤1000):ev C (.upd a b) σ m=some (.ao,m.set i (.aq (FP ib ig ks vs).1 (FP ib ig ks vs).2)):=by
 show (ev C a σ m).bind _=_;rw[h1,bq];show (GX (.ak i) m).bind _=_;rw[sE hm,bq];show (ev C b σ m).bind _=_;rw[h2,bq];show (match m[i]? with
   | some (.aq ib ig)=>if D.clean.cj vs&&decide (ib.length+ks.length≤1000) then some (D.ao,m.set i (.aq (FP ib ig ks vs).1 (FP ib ig ks vs).2)) else none
   | _=>none)=_
 rw[hm];show (if (D.clean.cj vs&&decide (ib.length+ks.length≤1000))=true then _ else _)=_;rw[hc,dk hl];rfl
theorem vR(l:List Str)(f:Str→Int):D.clean.cj (G7 l f)=true:=by
 induction l with
 | nil=>rfl
 | cons a r ih=>exact ih
noncomputable def sS(b:Nat)(pd hs tl on:D)(x5 x6 x7 x8 x9:Option D):DS:=[some pd,some hs,some tl,some on,some (.ak b),x5,x6,x7,x8,x9]
noncomputable def mS(m0:Mem)(l:List Str)(f:Str→Int):Mem:=m0++[.aq (DG l) (G7 l f)]
theorem AK{l:List Str}:(mS m0 l f)[m0.length]?=some (.aq (DG l) (G7 l f)):=by simp[mS]
theorem U1{l j3:List Str}{dn:Str→Int}:(mS m0 l f).set m0.length (.aq (DG j3) (G7 j3 dn))=mS m0 j3 dn:=by simp[mS]
noncomputable def bQ:bp:=w9 (KD 4 NQ)
noncomputable def Bn:bp:=w9 (KD 4 bQ)
theorem wK{pd hs tl on:D}{v:Int}{x6 x7 x8:Option D}{l:List Str}{ys:List D}(DF:l.length≤1000):∀(as:List Str) (f:Str→Int) (x9:Option D),(∀a∈as,a∈l)→(∀a,f a≤v)→∃y9,forL ⟨ys,none⟩ (.nm 9) (fun σ m=>aE C W Bn σ m) (as.map .str) (sS m0.length pd hs tl on (some (.int v)) x6 x7 x8 x9) (mS m0 l f)=some (.nx (sS m0.length pd hs tl on (some (.int v)) x6 x7 x8 y9),mS m0 l fun a=>if a∈as then v else f a)
 | [],f,x9,_,_=>⟨x9,K7 rfl⟩
 | a::as,f,x9,jS,hf=>by
  have ha:=jS a bX;obtain⟨y9,e⟩:=wK (pd:=pd) (hs:=hs) (tl:=tl) (on:=on) (x6:=x6) (x7:=x7) (x8:=x8) (ys:=ys) DF as (JV f a v) (some (.str a)) (fun b hb=>jS b (b8 _ hb)) (fun b=>by
   unfold JV;split
   ·exact wy _
   ·exact hf b)
  have ef:(fun b=>if b∈as then v else JV f a v b)=fun b=>if b∈a::as then v else f b:=by
   funext b;unfold JV
   by_cases h1:b∈as
   ·rw[ag h1,ag (b8 _ h1)]
   ·rw[ai h1]
    by_cases h2:b=a
    ·rw[ag h2,ag (by rw[h2];exact bX)]
    ·rw[ai h2,ai fun q=>(cg q).elim h2 h1]
  rw[ef]at e;refine⟨y9,?_⟩;have hv:ev C (.max2 (.var 5) (.mM (.var 4) (.var 9))) (sS m0.length pd hs tl on (some (.int v)) x6 x7 x8 (some (.str a))) (mS m0 l f)=some (.int v,mS m0 l f):=by
   have:=rO (C:=C) (e:=.var 5) (σ:=sS m0.length pd hs tl on (some (.int v)) x6 x7 x8 (some (.str a))) (m:=mS m0 l f) (i:=v) (j:=f a) rfl (E7 (a:=.var 4) (b:=.var 9) (x:=.ak m0.length) (y:=.str a) rfl rfl (sE AK) rfl (T3 ha));rw[ai (by have:=hf a;lia)]at this;exact this
  have step:aE C W Bn (sS m0.length pd hs tl on (some (.int v)) x6 x7 x8 (some (.str a))) (mS m0 l f)=some (.nx (sS m0.length pd hs tl on (some (.int v)) x6 x7 x8 (some (.str a))),mS m0 l (JV f a v)):=by
   refine fV (z:=.int v) (y:=.str a) (i:=m0.length) hv rfl rfl AK rfl rfl (by unfold DG;rw[a9];lia) (RD ?_);rw[zA ha,U1]
  exact HN rfl rfl step e
theorem V5{l:List Str}(h4:nm.length=4)(hS:dw nm l f):∃hk,dw nm hk f∧cy (.AX false) (.ak m0.length) (mS m0 l f)=some (.lst (CN hk f),mS m0 l f):=by
 have xq:l.length≤4:=by rw[←h4];exact hS.nd.length_le_of_subset hS.sub
 have hz:l.zip (l.map f)=l.map fun a=>(a,f a):=by
  clear h4 hS xq
  induction l with
  | nil=>rfl
  | cons a r ih=>rw[ck,List.zip_cons_cons,ih];rfl
 have hp:(J0 (l.map fun a=>(a,f a))).Perm (l.map fun a=>(a,f a)):=ir _ _;have hm:(l.map fun a=>(a,f a)).map (·.1)=l:=by rw[df];exact List.map_id'' (fun _=>rfl) l
 have my:((J0 (l.map fun a=>(a,f a))).map (·.1)).Perm l:=by
  have:=hp.map (·.1);rw[hm]at this;exact this
 have e1:(DG l).map cy.kD=l.map .str:=by simp[DG,cy.kD]
 have e2:G7 l f=(l.map f).map .int:=by unfold G7;rw[df];rfl
 have e3:(J0 (l.map fun a=>(a,f a))).map QC=CN ((J0 (l.map fun a=>(a,f a))).map (·.1)) f:=by
  unfold CN;rw[df];refine jv fun p Av=>?_
  obtain⟨a,_,rfl⟩:=dg (hp.mem_iff.mp Av);rfl
 refine⟨(J0 (l.map fun a=>(a,f a))).map (·.1),⟨my.nodup_iff.mpr hS.nd,fun x hx=>hS.sub x (my.mem_iff.mp hx),fun x hx=>hS.zero x fun q=>hx (my.mem_iff.mpr q)⟩,?_⟩;show ((GX (.ak m0.length) (mS m0 l f)).bind fun q=>(strsOf (q.1.map cy.kD)).bind fun ss=>(intsOf q.2).bind fun ns=>if ss.length≤4∧ss.Nodup then some (bE false ((J0 (ss.zip ns)).map QC) (mS m0 l f)) else none)=_;rw[sE AK,bq];show ((strsOf ((DG l).map cy.kD)).bind fun ss=>(intsOf (G7 l f)).bind fun ns=>if ss.length≤4∧ss.Nodup then some (bE false ((J0 (ss.zip ns)).map QC) (mS m0 l f)) else none)=_;rw[e1,YW,bq,e2,ints_of,bq,ag ⟨xq,hS.nd⟩,hz,e3];rfl
noncomputable def QS(hk:List Str)(f:Str→Int):D:=.tup [.str "house",.tup (CN hk f)]
theorem GV(hk:List Str)(f:Str→Int):(QS hk f).clean=true:=by
 show (D.clean.cj (CN hk f)&&true)=true;rw[show D.clean.cj (CN hk f)=true from K8 hk f];rfl
theorem Oy{l:List Str}(h:dw nm l f)(hx:x∈nm)(v:Int):∃j3,putD (DG l) (G7 l f) (.inr x) (.int v)=(DG j3,G7 j3 (JV f x v))∧dw nm j3 (JV f x v)∧x∈j3∧∀a∈l,a∈j3:=by
 obtain⟨j3,e,hS⟩:=qR h hx v;have hk:∀(a:Str) (l:List Str),(.inr a:Key)∈DG l→a∈l:=fun a l ha=>by
  obtain⟨b,hb,e⟩:=dg ha;rw[←iF e];exact hb
 have jb:∀(a:Str) (l:List Str),a∈l→(.inr a:Key)∈DG l:=fun a l ha=>i6 ha
 have e1:(putD (DG l) (G7 l f) (.inr x) (.int v)).1=DG j3:=by rw[e]
 refine⟨j3,e,hS,?_⟩
 by_cases q:x∈l
 ·rw[putD,ag (jF q)]at e1
  have e1:DG l=DG j3:=e1;exact⟨hk _ _ (e1▸jb _ _ q),fun a ha=>hk _ _ (e1▸jb _ _ ha)⟩
 ·rw[putD,jG q]at e1
  have e1:DG l++[.inr x]=DG j3:=e1;exact⟨hk _ _ (e1▸eQ _ bX),fun a ha=>hk _ _ (e1▸eP _ (jb _ _ ha))⟩
theorem Fy(HT:YQ Γ)(HW:HasW Γ)(h4:nm.length=4)(hW:2100<W){p:Bl Str}(ho:p.Ok (·∈nm))(hd:p.dep≤4)(hz:p.size≤63):∃(ks:List FK) (l0:List Str),(∀k,k∈ks↔k∈gi [] p)∧ks.length≤28∧dw nm l0 (fun _=>0)∧(∀k∈gi [] p,∀b,k.2.2=.inr b→b∈l0)∧∀{hk:List Str} {g:Str→Int} {X},hk.Nodup→hk.length≤4→aE (BW W Γ (n+13)) W (KD 4 NQ) (sS m.length (.tup (dB p)) (.tup (CN hk g)) (bo hk g) (J1 (ks.foldl FW [])) none none none none none) (m++[.aq (FP (DG l0) (G7 l0 fun _=>0) (DG hk) (G7 hk g)).1 (FP (DG l0) (G7 l0 fun _=>0) (DG hk) (G7 hk g)).2])=X→aE (BW W Γ (n+13)) W NQ [some (.tup (dB p)),some (.tup (CN hk g)),none,none,none,none,none,none,none,none] m=X:=by
 obtain⟨fs,a1,a2,a3,a4⟩:=sW (W:=W) (n:=n) (m:=m) HW h4 (by lia) ho (by lia);have hw:=mQ p hd;obtain⟨nk,k1,k2,k3⟩:=bL (W:=W) (n:=n+11) (m0:=m) HW.parts HW.names (nm:=nm) (by lia) (ps:=p.list.map .dd) (by rw[YX];lia) (by rw[YX];lia) (fun pt sP x hx=>by
  obtain⟨d,fS,rfl⟩:=dg sP;exact F3 (ho.mem d fS) x hx)
 rw[Lf]at k3;have IB:∀x,x∈nk↔x∈nv p:=fun x=>by rw[k2,jD]
 have hp:=ir nk FT;have hp:(DQ nk).Perm nk:=hp;generalize DQ nk=l0 at k3 hp;have kB:∀x∈l0,x∈nm:=fun x hx=>mO ho x ((IB x).mp (hp.mem_iff.mp hx))
 have b9:l0.Nodup:=hp.nodup_iff.mpr k1;have Iv:l0.length≤4:=by rw[←h4];exact b9.length_le_of_subset kB
 have D1:(JG fs).Perm fs:=ir _ _;generalize JG fs=ks at a4 D1;have kx:ks.length≤28:=by rw[D1.length_eq];exact a3
 refine⟨ks,l0,fun k=>by rw[D1.mem_iff,a2],kx,⟨b9,kB,fun _ _=>rfl⟩,fun k hk b hb=>?_,fun {hk g X} h1 h2 h3=>?_⟩
 ·have:=N5 (nm:=l0) (bU ho fun x hx=>hp.mem_iff.mpr ((IB x).mpr hx)) (by simp) k hk
  rcases fX this with ⟨j,_,e⟩ | ⟨c,hc,e⟩
  ·rw[e]at hb;cases hb
  ·rw[e]at hb;cases hb;exact hc
 have Ij:=wA (W:=W) (n:=n+12) (m:=m) HT (ks:=ks) (by lia);have Dq:cy (.dict false) (.tup (CN hk g)) m=some (bo hk g,m):=VN h1 (by lia) false m;have comp:ev (BW W Γ (n+13)) (.comp false 1 (.nm 10) (.seq (.call "names_of" (.cons (.var 0) .nil))) .tt (.tup (.cons (.var 10) (.cons (.con (.int 0)) .nil)))) [some (.tup (dB p)),some (.tup (CN hk g)),some (bo hk g),some (J1 (ks.foldl FW [])),none,none,none,none,none,none] m=some (.lst (l0.map fun a=>.tup [.str a,.int 0]),m):=by
  rw[O4 (xs:=l0) (dd:=.str) (h:=fun a=>some (.tup [.str a,.int 0])) rfl (rQ (CG k3 rfl)) (by lia)]
  ·rw[qB]
  ·intro a _
   refine⟨[some (.tup (dB p)),some (.tup (CN hk g)),some (bo hk g),some (J1 (ks.foldl FW [])),none,none,none,none,none,none,some (.str a)],true,rfl,rfl,?_⟩;rw[ag rfl];exact⟨rfl,rfl⟩
 have e1:CW (l0.map fun a=>(a,D.int 0))=DG l0:=by unfold CW DG;rw[df];rfl
 have e2:DK (l0.map fun a=>(a,D.int 0))=G7 l0 fun _=>0:=by unfold DK G7;rw[df];rfl
 have pE:=lZ (z:=.int 0) b9 (by lia) true m;rw[e1,e2]at pE;refine CJ (GD rfl Dq) (CJ (CG Ij (BZ (CG a4 rfl) rfl)) (CJ (d:=.ak m.length) (m1:=mS m l0 fun _=>0) (GD comp pE) ?_));refine IW (Pj (i:=m.length) (ks:=DG hk) (vs:=G7 hk g) rfl AK rfl (vR hk g) (by unfold DG;rw[a9,a9];lia)) ?_;have:∀q:List Key×List D,(mS m l0 fun _=>0).set m.length (.aq q.1 q.2)=m++[.aq q.1 q.2]:=fun q=>by simp[mS]
 rw[this];exact h3
theorem pQ(HT:YQ Γ)(HW:HasW Γ)(h4:nm.length=4)(hW:2100<W){p:Bl Str}(ho:p.Ok (·∈nm))(hd:p.dep≤4)(hz:p.size≤63):∃hk,dw nm hk (fun _=>0)∧BW W Γ (n+14) "settled" [.tup (dB p),.tup []] m=some (QS hk fun _=>0,m):=by
 obtain⟨ks,l0,_,_,hS,_,pre⟩:=Fy (W:=W) (n:=n) (m:=m) HT HW h4 hW ho hd hz;obtain⟨hk,md,e⟩:=V5 (m0:=m) h4 hS;refine⟨hk,md,JR (q:=[.aq (DG l0) (G7 l0 fun _=>0)]) (n:=n+13) HT.settled rfl (GV _ _) ?_⟩;refine pre (hk:=[]) (g:=fun _=>0) nB (by simp) ?_;refine NT (w:=⟨[],none⟩) (m1:=mS m l0 fun _=>0) (N6 (xs:=[]) rfl) (K7 rfl) (CP (HB (BZ rfl (BZ (GD (GD rfl e) rfl) rfl)) (d6 rfl)))
theorem pP(HT:YQ Γ)(HW:HasW Γ)(h4:nm.length=4)(hW:2100<W){p:Bl Str}(ho:p.Ok (·∈nm))(hd:p.dep≤4)(hz:p.size≤63)(hx:x∈nm)(hv:0≤v):(∃hk f,dw nm hk f∧(∀k∈gi [] p,f k.1≤nc f k)∧BW W Γ (n+14) "settled" [.tup (dB p),.tup [.tup [.str x,.int v]]] m=some (QS hk f,m))∨∃e f,BW W Γ (n+14) "settled" [.tup (dB p),.tup [.tup [.str x,.int v]]] m=some (ng e f,m):=by
 obtain⟨ks,l0,a1,a2,hS,a3,pre⟩:=Fy (W:=W) (n:=n) (m:=m) HT HW h4 hW ho hd hz;have iP:∀k∈ks,k∈univ nm:=fun k hk=>N5 ho (by simp) k ((a1 k).mp hk)
 obtain⟨l1,e1,xg,Ea,Sk⟩:=Oy hS hx v;have Tb:∀a,JV (fun _=>0) x v a≤v:=fun a=>by
  unfold JV;split
  ·exact wy _
  ·exact hv
 have xp:∀a,a≠x→JV (fun _=>0) x v a=0:=fun a h=>ai h
 generalize JV (fun _=>0) x v=f1 at *;have pS:l1.length≤4:=by rw[←h4];exact xg.nd.length_le_of_subset xg.sub
 have pre:=pre (hk:=[x]) (g:=fun _=>v) (X:=aE (BW W Γ (n+13)) W (KD 4 NQ) (sS m.length (.tup (dB p)) (.tup [.tup [.str x,.int v]]) (bo [x] fun _=>v) (J1 (ks.foldl FW [])) none none none none none) (mS m l1 f1)) (by simp) (by simp) (by
  rw[show FP (DG l0) (G7 l0 fun _=>0) (DG [x]) (G7 [x] fun _=>v)=putD (DG l0) (G7 l0 fun _=>0) (.inr x) (.int v) from rfl,e1];rfl)
 obtain⟨R,B,er⟩:=wB (W:=W) (n:=n+12) (hk:=[x]) (g:=fun _=>v) HT h4 iP (by lia) (s0:=[x]) (by simp) (fun a ha=>by rw[fg ha];exact hx) (by lia) (mS m l1 f1);have HU:R.length≤4:=by
  have:=B.nd.length_le_of_subset B.sub;rw[a9]at this;lia
 have HV:∀a∈R.map (·.1),a∈l1:=fun a ha=>by
  rcases B.src a ha with h | ⟨_,c,h⟩
  ·rw[fg h];exact Ea
  ·exact Sk a (a3 _ ((a1 _).mp h) a rfl)
 have Hw:ev (BW W Γ (n+13)) (.comp false 2 (.tp [(.nm 10),(.nm 11)]) (.seq (.var 1)) .tt (.var 11)) (sS m.length (.tup (dB p)) (.tup [.tup [.str x,.int v]]) (bo [x] fun _=>v) (J1 (ks.foldl FW [])) none none none none none) (mS m l1 f1)=some (.lst [.int v],mS m l1 f1):=rfl;have Hx:ev (BW W Γ (n+13)) (.comp false 2 (.tp [(.nm 10),(.nm 11)]) (.seq (.var 1)) (.val (.cmp .eq (.var 11) (.var 5))) (.var 10)) (sS m.length (.tup (dB p)) (.tup [.tup [.str x,.int v]]) (bo [x] fun _=>v) (J1 (ks.foldl FW [])) (some (.int v)) none none none none) (mS m l1 f1)=some (.lst [.str x],mS m l1 f1):=by
  rw[O4 (xs:=[()]) (dd:=fun _=>.tup [.str x,.int v]) (h:=fun _=>some (.str x)) rfl rfl (by simp)]
  ·rfl
  ·intro a _
   refine⟨[some (.tup (dB p)),some (.tup [.tup [.str x,.int v]]),some (bo [x] fun _=>v),some (J1 (ks.foldl FW [])),some (.ak m.length),some (.int v),none,none,none,none,some (.str x),some (.int v)],true,rfl,JC (p:=v=v) rfl rfl,?_⟩;rw[ag rfl];exact⟨rfl,rfl⟩
 have DC:(CW R).map dQ=(R.map (·.1)).map .str:=by
  unfold CW;rw[df,df];rfl
 rcases Nr (W:=W) (n:=n+11) (v:=v) (g:=fun _=>v) (m:=mS m l1 f1) HT (fun k hk=>YS k (iP k hk)) B HU (by lia) with ⟨CI,DO⟩ | ⟨e,f,cm,CI⟩
 ·left
  obtain⟨y9,ez⟩:=wK (C:=BW W Γ (n+13)) (W:=W) (m0:=m) (pd:=.tup (dB p)) (hs:=.tup [.tup [.str x,.int v]]) (tl:=bo [x] fun _=>v) (on:=J1 (ks.foldl FW [])) (x6:=some (.lst [.str x])) (x7:=some (.aq (CW R) (DK R))) (x8:=some .ao) (ys:=(R.map (·.1)).map .str) (l:=l1) (by lia) (R.map (·.1)) f1 none HV Tb;have ur:dw nm l1 (fun a=>if a∈R.map (·.1) then v else f1 a):=⟨xg.nd,xg.sub,fun a ha=>by
   show (if a∈R.map (·.1) then v else f1 a)=0;rw[ai fun q=>ha (HV a q)];exact xg.zero a ha⟩
  have Eb:x∈R.map (·.1):=B.st x bX;have sF:∀k∈gi [] p,(fun a=>if a∈R.map (·.1) then v else f1 a) k.1≤nc (fun a=>if a∈R.map (·.1) then v else f1 a) k:=fun k hk=>by
   have Iu:=iP k ((a1 k).mpr hk);have jb:=(a1 k).mpr hk;obtain⟨a,t⟩:=k;show (if a∈R.map (·.1) then v else f1 a)≤_
   by_cases ha:a∈R.map (·.1)
   ·rw[ag ha]
    have hb:=DO a ha t (rV.mpr jb);rcases fX Iu with ⟨j,_,e⟩ | ⟨b,SO,e⟩
    ·obtain rfl:t=(LC,.inl j):=e
     have:=of_decide_eq_false (show decide (j<v)=false from hb);show v≤j;lia
    ·obtain rfl:t=(J3,.inr b):=e
     show v≤(if b∈R.map (·.1) then v else f1 b);have:b∈R.map (·.1):=by
      by_cases Ig:b=x
      ·rw[Ig];exact Eb
      ·exact B.cl a ha (by simp) b jb (by simpa using Ig)
     rw[ag this];exact wy _
   ·rw[ai ha,xp a fun q=>ha (q▸Eb)]
    rcases fX Iu with ⟨j,hj,e⟩ | ⟨b,SO,e⟩
    ·obtain rfl:t=(LC,.inl j):=e
     exact hj
    ·obtain rfl:t=(J3,.inr b):=e
     show 0≤(if b∈R.map (·.1) then v else f1 b)
     by_cases hb:b∈R.map (·.1)
     ·rw[ag hb];exact hv
     ·rw[ai hb,xp b fun q=>hb (q▸Eb)];exact wy _
  generalize (fun a=>if a∈R.map (·.1) then v else f1 a)=f2 at *;obtain⟨hk,md,e⟩:=V5 (m0:=m) h4 ur;refine⟨hk,f2,md,sF,JR (q:=[.aq (DG l1) (G7 l1 f2)]) (n:=n+13) HT.settled rfl (GV _ _) ?_⟩;refine pre.trans ?_;have Ai:ei (BW W Γ (n+13)) (.keys (.var 7)) (sS m.length (.tup (dB p)) (.tup [.tup [.str x,.int v]]) (bo [x] fun _=>v) (J1 (ks.foldl FW [])) (some (.int v)) (some (.lst [.str x])) (some (.aq (CW R) (DK R))) (some .ao) none) (mS m l1 f1)=some (⟨(R.map (·.1)).map .str,none⟩,mS m l1 f1):=by
   rw[←DC];rfl
  have me:aE (BW W Γ (n+13)) W bQ (sS m.length (.tup (dB p)) (.tup [.tup [.str x,.int v]]) (bo [x] fun _=>v) (J1 (ks.foldl FW [])) (some (.int v)) none none none none) (mS m l1 f1)=some (.nx (sS m.length (.tup (dB p)) (.tup [.tup [.str x,.int v]]) (bo [x] fun _=>v) (J1 (ks.foldl FW [])) (some (.int v)) (some (.lst [.str x])) (some (.aq (CW R) (DK R))) (some .ao) y9),mS m l1 f2):=
   CJ Hx (CJ (CG er rfl) (CJ (CG CI rfl) (FQ (G3 rfl rfl) (NT (b:=Bn) (w:=⟨(R.map fun p:Str×D=>p.1).map D.str,none⟩) (m1:=mS m l1 f1) Ai ez rfl))))
  exact NT (b:=bQ) (w:=⟨[.int v],none⟩) (m1:=mS m l1 f1) (N6 (xs:=[.int v]) (GD Hw rfl)) (HN rfl rfl me (K7 rfl)) (CP (HB (BZ rfl (BZ (GD (GD rfl e) rfl) rfl)) (d6 rfl)))
 ·right
  refine⟨e,f,JR (q:=[.aq (DG l1) (G7 l1 f1)]) (n:=n+13) HT.settled rfl cm ?_⟩;refine pre.trans ?_;have me:aE (BW W Γ (n+13)) W bQ (sS m.length (.tup (dB p)) (.tup [.tup [.str x,.int v]]) (bo [x] fun _=>v) (J1 (ks.foldl FW [])) (some (.int v)) none none none none) (mS m l1 f1)=some (.rt (ng e f),mS m l1 f1):=
   CJ Hx (CJ (CG er rfl) (CJ (CG CI rfl) (GJ (G3 rfl rfl) (CP rfl))))
  show (ex (BW W Γ (n+13)) W (.fr (.nm 5) (.seq (.b1 (.yt false) (.comp false 2 (.tp [(.nm 10),(.nm 11)]) (.seq (.var 1)) .tt (.var 11)))) bQ) _ _).bind _=_;rw[yI,N6 (xs:=[.int v]) (GD Hw rfl),bq];show (forL ⟨[.int v],none⟩ (.nm 5) (fun σ m=>aE (BW W Γ (n+13)) W bQ σ m) [.int v] _ _).bind _=_;rw[forL,ag (show Walk.ok ⟨[.int v],none⟩ (mS m l1 f1)=true from rfl)];show ((aE (BW W Γ (n+13)) W bQ (sS m.length (.tup (dB p)) (.tup [.tup [.str x,.int v]]) (bo [x] fun _=>v) (J1 (ks.foldl FW [])) (some (.int v)) none none none none) (mS m l1 f1)).bind _).bind _=_;rw[me];rfl
section
variable{m1 m2:Mem}{σ1 σ':DS}{e e2:Ex}{d:D}
theorem KS{xs:List D}(h:kM 60 (.tup xs)=true):jh (.lst xs) (.lst xs)=some true:=by
 obtain⟨p,e1,e2,e3⟩:=FF h;obtain⟨ps,e4,rfl⟩:=b5 (show (aB xs).map PyData.tuple=some p from e1);have q:oe (.lst xs)=some (.list ps):=by
  show (aB xs).map _=_;rw[e4];rfl
 have nL:(PyData.list ps).canLay0=true:=by rw[←e2];simp only[PyData.canLay0]
 have zw:(PyData.list ps).depth≤60:=by simpa only [PyData.depth] using e3
 show U8 _ _=_;unfold U8;rw[q,bq,bq,ag (by simp[nL];omega),SeqAt.eqv_refl _ nL]
end
section
variable{c:Int}
noncomputable def tH:bp:=ui (KD 1 O8)
noncomputable def sO(st hs:List D)(l c:Int)(b:Nat)(x5 x6 x7:Option D):DS:=[some (.tup st),some (.tup hs),some (.int l),some (.int c),some (.ak b),x5,x6,x7]
noncomputable def aK(g:Str→Int)(l c:Int)(i:Nat)(x:Str)(v:Int):Int:=if l<g x then G5 (c+17*i) 9817 997 else v
theorem Ml(Hm:Γ "_law_mix" = some KR)(hS:dw nm hk g)(kx:hk.length≤1000){st acc:List D}(ha:acc.length<100000):aE (BW W Γ (n+1)) W tH (sO st (CN hk g) l c m0.length (some (.int i)) (some (.str x)) (some (.int v))) (m0++[.lst acc])=some (.nx (sO st (CN hk g) l c m0.length (some (.int i)) (some (.str x)) (some (.int (aK g l c i x v)))),m0++[.lst (acc++[.tup [.str x,.int (aK g l c i x v)]])]):=by
 have hd:cy (.dict false) (.tup (CN hk g)) (m0++[.lst acc])=some (bo hk g,m0++[.lst acc]):=VN hS.nd kx false _;have ht:∀x7,et (BW W Γ (n+1)) (.val (.cmp .gt (.get (.b1 (.dict false) (.var 1)) (.var 6) (.con (.int 0))) (.var 2))) (sO st (CN hk g) l c m0.length (some (.int i)) (some (.str x)) x7) (m0++[.lst acc])=some (decide (l<g x),m0++[.lst acc]):=fun x7=>G3 (HD (iV hS (GD rfl hd) rfl rfl) rfl rfl) rfl
 have ap:∀u:Int,aE (BW W Γ (n+1)) W (KD 1 tH) (sO st (CN hk g) l c m0.length (some (.int i)) (some (.str x)) (some (.int u))) (m0++[.lst acc])=some (.nx (sO st (CN hk g) l c m0.length (some (.int i)) (some (.str x)) (some (.int u))),m0++[.lst (acc++[.tup [.str x,.int u]])]):=fun u=>by
  have:=U6 (C:=BW W Γ (n+1)) (e:=.var 4) (e2:=.tup (.cons (.var 6) (.cons (.var 7) .nil))) (σ:=sO st (CN hk g) l c m0.length (some (.int i)) (some (.str x)) (some (.int u))) (m:=m0++[.lst acc]) (i:=m0.length) (xs:=acc) (d:=.tup [.str x,.int u]) rfl rfl (by simp) rfl ha;rw[show (m0++[MO.lst acc]).set m0.length (.lst (acc++[.tup [.str x,.int u]]))=m0++[.lst (acc++[.tup [.str x,.int u]])] by simp]at this;exact IW this rfl
 by_cases h:l<g x
 ·rw[aK,ag h]
  exact JQ (JC (ht _) h) (CJ (CG (K9 Hm (by decide) (by decide)) (BZ (EY rfl (EY rfl rfl (QG (by decide))) rfl) rfl)) rfl) (ap _)
 ·rw[aK,ai h]
  exact FQ (HS (ht _) h) (ap _)
theorem rB(Hm:Γ "_law_mix" = some KR)(hS:dw nm hk g)(kx:hk.length≤1000){st ys:List D}:∀(r:List Str) (i:Nat) (acc:List D) (x5 x6 x7:Option D),r.Nodup→acc.length+r.length≤1000→∃(dn:Str→Int) (y5 y6 y7:Option D),(∀x,x∉r→dn x=f x)∧(∀x,g x≤l→dn x=f x)∧((∀x,0≤f x∧f x<997)→∀x,0≤dn x∧dn x<997)∧forL ⟨ys,none⟩ (.tp [.nm 5,.tp [.nm 6,.nm 7]]) (fun σ m=>aE (BW W Γ (n+1)) W tH σ m) (O6 (CN r f) i) (sO st (CN hk g) l c m0.length x5 x6 x7) (m0++[.lst acc])=some (.nx (sO st (CN hk g) l c m0.length y5 y6 y7),m0++[.lst (acc++CN r dn)])
 | [],i,acc,x5,x6,x7,_,_=>⟨f,x5,x6,x7,fun _ _=>rfl,fun _ _=>rfl,id,by rw[show CN [] f=[] from rfl,pw];exact K7 rfl⟩
 | x::r,i,acc,x5,x6,x7,hn,hl=>by
  rw[kn]at hl;obtain⟨hx,hn⟩:=nu hn;obtain⟨dn,y5,y6,y7,a1,a2,a3,a4⟩:=rB Hm hS kx (st:=st) (ys:=ys) r (i+1) (acc++[.tup [.str x,.int (aK g l c i x (f x))]]) (some (.int i)) (some (.str x)) (some (.int (aK g l c i x (f x)))) hn (by rw[fN,l9];lia);refine⟨fun y=>if y=x then aK g l c i x (f x) else dn y,y5,y6,y7,fun y hy=>?_,fun y hy=>?_,fun h y=>?_,?_⟩
  ·show (if y=x then _ else _)=_
   rw[ai fun z=>hy (by rw[z];exact bX)];exact a1 y fun z=>hy (b8 _ z)
  ·show (if y=x then _ else _)=_
   by_cases q:y=x
   ·subst q
    rw[ag rfl,aK,ai (by lia)]
   ·rw[ai q];exact a2 y hy
  ·by_cases q:y=x
   ·simp only[ag q,aK]
    split
    ·exact IV _ _ (by lia)
    ·exact h x
   ·simp only[ai q];exact a3 h y
  ·have e:CN (x::r) (fun y=>if y=x then aK g l c i x (f x) else dn y)=.tup [.str x,.int (aK g l c i x (f x))]::CN r dn:=by
    show D.tup [.str x,.int (if x=x then _ else _)]::_=_;rw[ag rfl];congr 1;exact jv fun y hy=>by
     show D.tup [.str y,.int (if y=x then _ else _)]=_;rw[ai fun z=>hx (by rw[←z];exact hy)]
   rw[e,List.append_cons acc];exact HN rfl rfl (Ml Hm hS kx (by lia)) a4
theorem Nv(Hm:Γ "_law_mix" = some KR)(Ho:Γ "_law_other_store" = some KC)(hS:dw nm hk g)(kx:hk.length≤1000)(hF:dw nm ks f)(hf:∀x,0≤f x∧f x<997)(hl:ks.length≤1000):∃dn:Str→Int,dw nm ks dn∧(∀x,g x≤l→dn x=f x)∧(∀x,0≤dn x∧dn x<997)∧BW W Γ (n+2) "_law_other_store" [.tup (CN ks f),.tup (CN hk g),.int l,.int c] m=some (.tup (CN ks dn),m):=by
 obtain⟨dn,y5,y6,y7,a1,a2,a3,a4⟩:=rB (W:=W) (n:=n) (f:=f) (l:=l) (c:=c) (m0:=m) Hm hS kx (st:=CN ks f) (ys:=O6 (CN ks f) 0) ks 0 [] none none none hF.nd (by simpa using hl);refine⟨dn,⟨hF.nd,hF.sub,fun x hx=>(a1 x hx).trans (hF.zero x hx)⟩,a2,a3 hf,JR (q:=[.lst (CN ks dn)]) (n:=n+1) Ho rfl (K8 ks dn) ?_⟩;refine CJ (d:=.ak m.length) (m1:=m++[MO.lst []]) rfl (NT (b:=tH) (w:=⟨O6 (CN ks f) 0,none⟩) (m1:=m++[MO.lst []]) (σ:=sO (CN ks f) (CN hk g) l c m.length none none none) rfl a4 (CP (GD (d:=.ak m.length) rfl ?_)));show (FJ (.ak m.length) (m++[.lst ([]++CN ks dn)])).map _=_;rw[show FJ (.ak m.length) (m++[.lst ([]++CN ks dn)])=some (CN ks dn) by simp[FJ]];rfl
noncomputable def R0(nm:List Str)(g:Str→Int)(l:Int)(f:Str→Int):List D:=CN (((DQ nm).filter fun x=>f x≠0).filter fun x=>decide (g x≤l)) f
theorem MD{f2:Str→Int}(h:∀x,g x≤l→f x=f2 x):R0 nm g l f=R0 nm g l f2:=by
 unfold R0 CN;rw[List.filter_filter,List.filter_filter];have e:((DQ nm).filter fun x=>decide (g x≤l)&&decide (f x≠0))=(DQ nm).filter fun x=>decide (g x≤l)&&decide (f2 x≠0):=by
  refine List.filter_congr fun x _=>?_
  by_cases q:g x≤l
  ·rw[h x q]
  ·rw[dm q,Bool.false_and,Bool.false_and]
 rw[e];refine jv fun x hx=>?_
 have hx:=(oS hx).2;rw[gh]at hx;rw[h x (gq hx.1)]
theorem KO(hS:dw nm hk g)(uC:nm.length≤1000){r:R Str}{a0 a1 a2 a5:Option D}:ev C (.comp false 1 (.nm 7) (.seq (.ix (.var 6) (.con (.int 1)))) (.val (.cmp .le (.get (.var 4) (.ix (.var 7) (.con (.int 0))) (.con (.int 0))) (.var 3))) (.var 7)) [a0,a1,a2,some (.int l),some (bo hk g),a5,some (WR nm r)] m=some (.lst (R0 nm g l r.f),m):=by
 rw[O4 (xs:=(DQ nm).filter fun x=>r.f x≠0) (dd:=fun x=>.tup [.str x,.int (r.f x)]) (h:=fun x=>if g x≤l then some (.tup [.str x,.int (r.f x)]) else none) rfl rfl (eR (List.length_filter_le _ _) (by rw[show (DQ nm).length=nm.length from (ir nm FT).length_eq];exact uC))]
 ·unfold R0 CN
  generalize (List.filter (fun x=>decide (r.f x≠0)) (DQ nm))=L;rw[←qB,List.filterMap_filter];simp only[decide_eq_true_eq]
 ·intro x _
  refine⟨[a0,a1,a2,some (.int l),some (bo hk g),a5,some (WR nm r),some (.tup [.str x,.int (r.f x)])],decide (g x≤l),rfl,G3 (HD (iV (x:=x) hS rfl rfl rfl) rfl rfl) rfl,?_⟩
  by_cases h:g x≤l
  ·rw[ag (dk h),ag h];exact⟨rfl,rfl⟩
  ·rw[dm h,ai (by decide),ai h]
theorem Nc(t:Option Int):jh (sa t) (sa t)=some true:=by
 cases t with
 | none=>exact eq_self rfl
 | some T=>exact(rP T T).trans (by rw[dk rfl])
theorem Mu(q5:∀x∈nm,(PyData.str x).canLay0=true):kM 60 (.tup (R0 nm g l f))=true:=by
 show (R0 nm g l f).all (kM 59)=true;rw[um];intro d hd;obtain⟨x,hx,rfl⟩:=dg hd;have hx:=(ir nm FT).mem_iff.mp (oS (oS hx).1).1;show (kM 58 (.str x)&&(kM 58 (.int _)&&true))=true;rw[show kM 58 (.str x)=true from q5 x hx];rfl
theorem ne_self{a:D}(h:jh a a=some true):LQ .ne a a=some false:=by
 rw[Fi,h];rfl
theorem Nz(Ha:Γ "_law_alike" = some W8)(hS:dw nm hk g)(kx:hk.length≤1000)(uC:nm.length≤1000)(q5:∀x∈nm,(PyData.str x).canLay0=true){r1 r2:R Str}{j:Nat}(hj:j=0∨j=1)(ht:r1.t=r2.t)(hf:∀x,g x≤j→r1.f x=r2.f x)(hp:∀k:Int,k≤j→gT r1.sh k=gT r2.sh k):BW W Γ (n+1) "_law_alike" [WR nm r1,WR nm r2,.tup (CN hk g),.int j] m=some (.bl true,m):=by
 refine DN Ha rfl rfl ?_;have hd:cy (.dict false) (.tup (CN hk g)) m=some (bo hk g,m):=VN hS.nd kx false _;have IF:∀ps:List (List Int),ps.length≤10→jh (.tup (ps.map fun q=>.tup (q.map .int))) (.tup (ps.map fun q=>.tup (q.map .int)))=some true:=fun ps _=>eq_self (by
  show (ps.map fun q=>D.tup (q.map .int)).all (kM 59)=true;rw[um];intro d hd;obtain⟨q,_,rfl⟩:=dg hd;exact Mv 58 q)
 refine FQ (lX (G3 (HD (d:=sa r1.t) (d2:=sa r2.t) rfl rfl (by rw[ht];exact ne_self (Nc _))) rfl) ?_) (CJ (GD (d:=.tup (CN hk g)) rfl hd) (CJ (d:=.lst [.lst (R0 nm g j r1.f),.lst (R0 nm g j r2.f)]) ?_ (CP (HD (d:=.lst (R0 nm g j r1.f)) (d2:=.lst (R0 nm g j r2.f)) rfl rfl (by rw[MD hf];exact KS (Mu q5))))))
 ·rcases hj with rfl | rfl
  ·refine G3 (HD (d:=.tup ([gT r1.sh 0].map fun q=>.tup (q.map .int))) (d2:=.tup ([gT r2.sh 0].map fun q=>.tup (q.map .int))) rfl rfl ?_) rfl
   rw[hp 0 (by decide)];exact ne_self (IF _ (d6 rfl))
  ·refine G3 (HD (d:=.tup ([gT r1.sh 0,gT r1.sh 1].map fun q=>.tup (q.map .int))) (d2:=.tup ([gT r2.sh 0,gT r2.sh 1].map fun q=>.tup (q.map .int))) rfl rfl ?_) rfl
   rw[hp 0 (by decide),hp 1 (by decide)];exact ne_self (IF _ (d6 rfl))
 ·have:=O4 (C:=BW W Γ n) (k:=1) (g:=.nm 6) (i:=.seq (.lst false (.cons (.var 0) (.cons (.var 1) .nil)))) (t:=.tt) (e:=.comp false 1 (.nm 7) (.seq (.ix (.var 6) (.con (.int 1)))) (.val (.cmp .le (.get (.var 4) (.ix (.var 7) (.con (.int 0))) (.con (.int 0))) (.var 3))) (.var 7)) (σ:=[some (WR nm r1),some (WR nm r2),some (.tup (CN hk g)),some (.int j),some (bo hk g),none]) (m:=m) (xs:=[r1,r2]) (dd:=WR nm) (h:=fun r=>some (.lst (R0 nm g j r.f))) rfl rfl (d6 rfl) (fun r _=>⟨[some (WR nm r1),some (WR nm r2),some (.tup (CN hk g)),some (.int j),some (bo hk g),none,some (WR nm r)],true,rfl,rfl,by rw[ag rfl];exact⟨rfl,KO hS uC⟩⟩)
  exact this
end
noncomputable def tG:bp:=ui (KD 4 Bq)
noncomputable def sQ(ns:List Int)(p nm fr:D)(x4 x5 x6 x7 x8:Option D):DS:=[some (.b6 ns),some p,some nm,some fr,x4,x5,x6,x7,x8]
theorem Ov(HG:BF Γ)(HR:BE Γ)(HF:zb Γ)(HT:YQ Γ)(Ho:Γ "_law_other_store" = some KC)(Ha:Γ "_law_alike" = some W8)(hW:2500≤W)(h4:nm.length=4)(b9:nm.Nodup)(q5:∀x∈nm,(PyData.str x).canLay0=true)(hF:dw nm ks f)(hf:∀x,0≤f x∧f x<997){p:Bl Str}(ho:p.Ok (·∈nm))(hd:p.dep≤4)(hz:p.size≤63)(es:BW W Γ (n+19) "_law_store" [.b6 ns,.int 5] []=some (.tup (CN ks f),[])){fr:D}{c:Int}{x5 x6 x7 x8:Option D}:∃y5 y6 y7 y8,aE (BW W Γ (n+19)) W tG (sQ ns (.tup (dB p)) (.lst (nm.map .str)) fr (some (.int c)) x5 x6 x7 x8) []=some (.nx (sQ ns (.tup (dB p)) (.lst (nm.map .str)) fr (some (.int c)) y5 y6 y7 y8),[]):=by
 have ei:=K9 (W:=W) (n:=n+18) (m:=[]) HG.mix (c:=c) (p:=9781) (k:=4) (by lia) (by lia);have ri:=IV c 9781 (k:=4) (by lia);have ev:=K9 (W:=W) (n:=n+18) (m:=[]) HG.mix (c:=c) (p:=9769) (k:=2) (by lia) (by lia);have rv:=IV c 9769 (k:=2) (by lia);generalize G5 c 9781 4=i at ei ri;generalize G5 c 9769 2=v at ev rv;obtain⟨x,hx,ex⟩:=UJ (l:=nm) (i:=i) ri.1 (by lia);have Hu:gf (BW W Γ (n+19)) (.cons (.var 1) (.cons (.tup (.cons (.tup (.cons (.ix (.var 2) (.call "_law_mix" (.cons (.var 4) (.cons (.con (.int 9781)) (.cons (.con (.int 4)) .nil))))) (.cons (.bin .add (.con (.int 1)) (.call "_law_mix" (.cons (.var 4) (.cons (.con (.int 9769)) (.cons (.con (.int 2)) .nil))))) .nil))) .nil)) .nil)) (sQ ns (.tup (dB p)) (.lst (nm.map .str)) fr (some (.int c)) x5 x6 x7 x8) []=some ([.tup (dB p),.tup [.tup [.str x,.int (1+v)]]],[]):=
  BZ rfl (BZ (HB (BZ (HB (BZ (LK (d:=.lst (nm.map .str)) rfl (CG ei rfl) (PN ex)) (BZ (EY rfl (CG ev rfl) rfl) rfl)) (d6 rfl)) rfl) (d6 rfl)) rfl)
 rcases pP (W:=W) (n:=n+5) (m:=[]) HT HF.toHasW h4 (by lia) ho hd hz hx (v:=1+v) (by lia) with ⟨hk,g,hS,sF,e⟩ | ⟨a,b,e⟩
 ·have rj:=IV c 9791 (k:=2) (by lia)
  have ej:=K9 (W:=W) (n:=n+18) (m:=[]) HG.mix (c:=c) (p:=9791) (k:=2) (by lia) (by lia);obtain⟨j,hj⟩:=w4 rj.1;rw[hj]at ej rj;have Tu:j=0∨j=1:=by lia
  have kx:ks.length≤4:=by have:=hF.nd.length_le_of_subset fun x hx=>hF.sub x hx;lia
  have Ye:hk.length≤4:=by have:=hS.nd.length_le_of_subset fun x hx=>hS.sub x hx;lia
  obtain⟨w,_,w2,w3⟩:=Pr (W:=W) (n:=n+5) (m:=[]) HF h4 (by lia) hS ho (by lia);have hw:w=true:=by
   cases w with
   | true=>rfl
   | false=>obtain⟨k,jb,hn⟩:=w2 rfl;exact absurd (sF k jb) hn
  subst hw;have Iw:ow g [] p:=bB sF;obtain⟨dn,u1,u2,u3,u4⟩:=Nv (W:=W) (n:=n+17) (m:=[]) (l:=j) (c:=c) HG.mix Ho hS (by lia) hF hf (by lia);obtain⟨f2,s1,s2,s3,s4,s5⟩:=oG (g:=g) (l:=j) hF;obtain⟨c1,c2,c3⟩:=bK (g:=g) (l:=j) p ho;have Yo:((5:Int)-0).toNat*63=315:=rfl;obtain⟨r,_,r1,_,_,_,r5⟩:=z_run (W:=W) (n:=n+17) (m0:=[]) HR b9 (by lia) (K:=4) (M:=63) (by lia) (most:=5) (pg:=p) hF ⟨bT ho hd hz,hf⟩ (by simp only[f7,HY];lia) (by simp only[f7,HY];lia);obtain⟨t,_,v1,_,_,_,v5⟩:=z_run (W:=W) (n:=n+17) (m0:=[]) HR b9 (by lia) (K:=4) (M:=63) (by lia) (most:=5) (pg:=p) u1 ⟨bT ho hd hz,u3⟩ (by simp only[f7,HY];lia) (by simp only[f7,HY];lia);obtain⟨q,_,q1,_⟩:=z_run (W:=W) (n:=n+17) (m0:=[]) HR b9 (by lia) (K:=4) (M:=63) (by lia) (most:=5) (pg:=je g j p) s1 ⟨bT c1 (by lia) (by lia),s5 hf⟩ (by simp only[f7,HY];lia) (by simp only[f7,HY];lia);rw[VR]at q1;obtain⟨a1,a2,_,a4⟩:=rE (g:=g) (l:=j) (by lia) Iw s2 r1 q1;obtain⟨b1,b2,_,b4⟩:=rE (g:=g) (l:=j) (by lia) Iw (fun x hx=>(u2 x hx).trans (s2 x hx)) v1 q1;have al:=Nz (W:=W) (n:=n+18) (m:=[]) Ha hS (by lia) (by lia) q5 (r1:=r) (r2:=t) Tu (a1.trans b1.symm) (fun x hx=>(a2 x hx).trans (b2 x hx).symm) fun k hk=>by rw[←kW hk,←a4,b4,kW hk]
  refine⟨some (QS hk g),some (.tup (CN ks f)),some (.int j),some (.tup (CN ks dn)),?_⟩;have T2:et (BW W Γ (n+19)) (.not (.val (.call "_law_alike" (.cons (.call "run" (.cons (.var 1) (.cons (.var 6) (.cons (.con (.int 5)) .nil)))) (.cons (.call "run" (.cons (.var 1) (.cons (.var 8) (.cons (.con (.int 5)) .nil)))) (.cons (.ix (.var 5) (.con (.int 1))) (.cons (.var 7) .nil))))))) (sQ ns (.tup (dB p)) (.lst (nm.map .str)) fr (some (.int c)) (some (QS hk g)) (some (.tup (CN ks f))) (some (.int j)) (some (.tup (CN ks dn)))) []=some (false,[]):=by
   show (et (BW W Γ (n+19)) (.val (.call "_law_alike" _)) _ _).map _=_;rw[G3 (CG al (BZ (CG r5 rfl) (BZ (CG v5 rfl) rfl))) rfl];rfl
  exact CJ (CG e Hu) (JQ (JC (p:=Str.ofString "house" = Str.ofString "house") rfl rfl) (FQ (G3 (HD (CG w3 rfl) rfl rfl) rfl) (CJ (CG es rfl) (CJ (CG ej rfl) (CJ (CG u4 rfl) (FQ T2 rfl))))) rfl)
 ·exact⟨some (ng a b),x6,x7,x8,CJ (CG e Hu) (FQ (HS (p:=Str.ofString "trail" = Str.ofString "house") rfl (by decide +kernel)) rfl)⟩
theorem yZ{ns:List Int}{p nm fr:D}{ys:List D}(h:∀c x5 x6 x7 x8,∃y5 y6 y7 y8,aE (BW W Γ (n+19)) W tG (sQ ns p nm fr (some (.int c)) x5 x6 x7 x8) []=some (.nx (sQ ns p nm fr (some (.int c)) y5 y6 y7 y8),[])):∀(cs:List Int) (x4 x5 x6 x7 x8:Option D),∃y4 y5 y6 y7 y8,forL ⟨ys,none⟩ (.nm 4) (fun σ m=>aE (BW W Γ (n+19)) W tG σ m) (cs.map .int) (sQ ns p nm fr x4 x5 x6 x7 x8) []=some (.nx (sQ ns p nm fr y4 y5 y6 y7 y8),[])
 | [],x4,x5,x6,x7,x8=>⟨x4,x5,x6,x7,x8,K7 rfl⟩
 | c::r,x4,x5,x6,x7,x8=>by
  obtain⟨y5,y6,y7,y8,e1⟩:=h c x5 x6 x7 x8;obtain⟨z4,z5,z6,z7,z8,e2⟩:=yZ h r (some (.int c)) y5 y6 y7 y8;exact⟨z4,z5,z6,z7,z8,HN rfl rfl e1 e2⟩
theorem MG(HG:BF Γ)(HR:BE Γ)(HF:zb Γ)(HT:YQ Γ)(Ho:Γ "_law_other_store" = some KC)(Ha:Γ "_law_alike" = some W8)(HW:Γ "law" = some Br)(hW:2500≤W):BW W Γ (n+20) "law" [.b6 ns] []=some (.bl true,[]):=by
 refine DN (n:=n+19) HW rfl rfl ?_;obtain⟨p,ho,hd,hz,e1⟩:=wC (W:=W) HG.toHasP (ns:=ns) (k:=2);have e1:=e1 (n+9) [];have en:=jC (W:=W) (n:=n+16) (m:=[]) HG.mix HG.cell HG.name HG.names (ns:=ns);have es:=Nt (W:=W) (n:=n+9) HG (ns:=ns) (k:=5);have q5:∀x∈JT (DY ns 0),(PyData.str x).canLay0=true:=fun x this=>by
  simp only[JT,List.mem_cons,List.not_mem_nil,or_false]at this;rcases this with rfl | rfl | rfl | rfl<;>exact Ky _ _
 have fe:=names_nodup (DY ns 0);generalize hq:DY ns 0=q at *;have uC:(JT q).length=4:=rfl;have hp:=LB q (DY ns 5)
 let f0:Str→Int:=fun x=>if x∈lh q (DY ns 5) then gL q (DY ns 5) x else 0
 have xp:∀x,0≤f0 x∧f0 x<997:=fun x=>by
  by_cases h:x∈lh q (DY ns 5)
  ·simp only[f0,ag h];exact QY q _ x
  ·simp only[f0,ai h];lia
 have Ui:CN (lh q (DY ns 5)) (gL q (DY ns 5))=CN (lh q (DY ns 5)) f0:=jv fun x hx=>by simp only[f0,ag hx]
 rw[Ui]at es;have hF:dw (JT q) (lh q (DY ns 5)) f0:=⟨hp.nodup_iff.mpr fe,fun x hx=>hp.mem_iff.mp hx,fun x hx=>ai hx⟩
 generalize f0=f at es hF xp;generalize lh q (DY ns 5)=ks at es hF;generalize JT q=nm at *;obtain⟨h0,HZ,e0⟩:=pQ (W:=W) (n:=n+5) (m:=[]) HT HF.toHasW uC (by lia) ho hd hz;have Iv:h0.length≤4:=by have:=HZ.nd.length_le_of_subset fun x hx=>HZ.sub x hx;lia
 have comp:ev (BW W Γ (n+19)) (.comp false 1 (.nm 9) (.seq (.ix (.var 3) (.con (.int 1)))) (.val (.cmp .ne (.ix (.var 9) (.con (.int 1))) (.con (.int 0)))) (.var 9)) (sQ ns (.tup (dB p)) (.lst (nm.map .str)) (QS h0 fun _=>0) none none none none none) []=some (.lst [],[]):=by
  rw[O4 (xs:=h0) (dd:=fun x=>.tup [.str x,.int 0]) (h:=fun _=>none) rfl rfl (by lia)]
  ·rw[List.filterMap_eq_nil_iff.mpr fun _ _=>rfl]
  ·intro a _
   exact⟨sQ ns (.tup (dB p)) (.lst (nm.map .str)) (QS h0 fun _=>0) none none none none none++[some (.tup [.str a,.int 0])],false,rfl,rfl,rfl⟩
 have uw:qf (.b6 ns) (some 6) (some 10)=some (.lst ((S7 ns (some 6) (some 10)).map .int)):=by
  rw[←sH];rfl
 have cm:=sI ns (a:=6) (b:=10) (by decide) (by decide);have SU:ev (BW W Γ (n+19)) (.cat false (.lst false (.cons (.call "_law_cell" (.cons (.var 0) (.cons (.con (.int 5)) .nil))) .nil)) (.b1 (.list false) (.sl (.var 0) (.pt (.con (.int 6))) (.pt (.con (.int 10)))))) (sQ ns (.tup (dB p)) (.lst (nm.map .str)) (QS h0 fun _=>0) none none none none none) []=some (.lst ([.int (DY ns 5)]++(S7 ns (some 6) (some 10)).map .int),[]):=by
  refine pH (E6 (BZ (CG (bM (n:=n+18) (k:=5) HG.cell) rfl) rfl) (d6 rfl)) (GD (d:=.lst ((S7 ns (some 6) (some 10)).map .int)) (rM rfl rfl rfl uw) rfl) ?_;rw[a9];show 1+_≤10000;have:(10-6:Int).toNat=4:=rfl;lia
 obtain⟨y4,y5,y6,y7,y8,l1⟩:=yZ (W:=W) (Γ:=Γ) (n:=n) (ns:=ns) (p:=.tup (dB p)) (nm:=.lst (nm.map .str)) (fr:=QS h0 fun _=>0) (ys:=(DY ns 5::S7 ns (some 6) (some 10)).map .int) (fun c x5 x6 x7 x8=>Ov HG HR HF HT Ho Ha hW uC fe q5 hF xp ho hd hz es) (DY ns 5::S7 ns (some 6) (some 10)) none none none none none;exact CJ (CG e1 rfl) (CJ (CG en rfl) (CJ (CG e0 rfl) (FQ (lX (FR (p:=Str.ofString "house" = Str.ofString "house") rfl rfl) (G3 comp rfl)) (NT (b:=tG) (w:=⟨(DY ns 5::S7 ns (some 6) (some 10)).map .int,none⟩) (N6 SU) l1 (CP rfl)))))
end T
end
section
namespace T
open PySem L2 WL PySem.Spec PyProof.Rows
theorem law_true:∀ns:List Int,ns.length≤63→BW 100000 Γ 60 "law" [.b6 ns] []=some (.bl true,[]):=fun ns _=>MG (n:=40) ⟨⟨rfl,rfl,rfl,rfl,rfl,rfl,rfl,rfl,rfl,rfl⟩,rfl⟩ ⟨rfl,rfl,rfl,rfl,rfl⟩ ⟨⟨rfl,rfl,rfl,rfl,rfl,rfl⟩,rfl,rfl⟩ ⟨rfl,rfl,rfl,rfl,rfl,rfl⟩ rfl rfl rfl (by lia)
theorem ED:W9 (Cr Γ) qz:=by
 refine⟨?_,?_,?_,?_,?_,?_,?_,?_,?_,?_,?_,?_,?_,?_,?_,?_,?_,?_,?_,?_,?_,?_,?_,?_,?_,?_,?_,?_,?_,?_,?_,?_,?_,trivial⟩
 all_goals refine⟨⟨rfl,rfl,rfl,by decide +kernel,rfl,by decide +kernel,by decide +kernel⟩,rfl,rfl,rfl,fun _ _ _ _ _ _ us hl=>?_⟩
 all_goals first | (obtain⟨_,rfl⟩:=Jb hl;rfl) | (obtain⟨_,_,rfl⟩:=Jc hl;rfl) | (obtain⟨_,_,_,rfl⟩:=Gp hl;rfl) | (obtain⟨_,_,_,_,rfl⟩:=QQ hl;rfl)
theorem ds{P:Program}{w:World}{K:p4}{mg:Str→Option Value}{base:Heap}{W:Nat}(T:Tp K mg)(H:W9 (v3 K mg) qz):∀n,Ds P w K mg base W n
 | 0=>FY H
 | _+1=>FX H ED (Vy T (ds T H _))
noncomputable def kC(f:Str)(a t l n u:Nat)(b:Bool):PySem.Obj:={ cls:=.type "code",data:=.fields #[.str f t,.str f (t+1),.str "/claim/cut.py" (t+2),.int l 0,.int n 0,.int 0 0,.int 0 0,.int 3 0,.ref (a-cond b 5 3),.bool true,.int 181 0,.ref (a-cond b 4 2),.none,cond b (.ref (a-3)) .none,cond b (.ref (a-2)) .none,.ref (a-1),.int u 0,.int l 0,.str "/claim/cut.py" (u+1)] }
noncomputable def kF(f:Str)(st:Stmt)(m:Value)(c:Nat):PySem.Obj:={ cls:=.type "function",data:=.func (PySem.W.fnOf f f (N7 st) (JZ st) (GQ st) .none .none .none m none (.ref c) .none) }
noncomputable def kG(P:Params)(k:Str)(t:Nat)(v:Value):DictEntry:=⟨PyData.keyHash P k,.str k t,v⟩
noncomputable def Ei:Value:=.str "whisperwall.things" 187
noncomputable def yc:Value:=.str "whisperwall.flowing" 222
noncomputable def vh:Value:=.str "whisperwall.settling" 268
noncomputable def yd:Value:=.str "whisperwall.running" 323
noncomputable def j2:Value:=.str "law_whisperwall_k08_whole_settled_levels_kee" 369
noncomputable def KK(P:Params):PySem.W.Frag:=[(3,{ cls:=.type "dict",data:=.dict #[kG P "__name__" 165 (.str "law_whisperwall_k08_whole_settled_levels_kee" 369),kG P "__doc__" 166 (.none),kG P "__package__" 167 (.none),kG P "__loader__" 168 (.builtin "__main__.__loader__#opaque"),kG P "__spec__" 169 (.none),kG P "__annotations__" 170 (.ref 6),kG P "__builtins__" 171 (.ref 4),kG P "__file__" 173 (.str "/claim/cut.py" 172),kG P "__cached__" 174 (.none),kG P "NUMBERS" 190 (.int 997 189),kG P "LEVELS" 192 (.int 3 191),kG P "PAIRING" 196 (.ref 15),kG P "names_of" 206 (.ref 22),kG P "names_in_term" 213 (.ref 29),kG P "parts_of" 221 (.ref 36),kG P "flows" 231 (.ref 43),kG P "lets" 237 (.ref 48),kG P "gather_flows" 249 (.ref 55),kG P "add_flows" 259 (.ref 62),kG P "level_of" 267 (.ref 69),kG P "settled" 275 (.ref 74),kG P "targets_by_name" 285 (.ref 81),kG P "names_reached" 291 (.ref 86),kG P "trail_down" 303 (.ref 93),kG P "is_below" 312 (.ref 100),kG P "way_to" 322 (.ref 107),kG P "run" 330 (.ref 112),kG P "number_of" 341 (.ref 119),kG P "do_deeds" 356 (.ref 126),kG P "page_of" 362 (.ref 131),kG P "store_of" 368 (.ref 136),kG P "_law_cell" 378 (.ref 143),kG P "_law_mix" 387 (.ref 150),kG P "_law_name" 393 (.ref 155),kG P "_law_names" 399 (.ref 160),kG P "_law_levels" 406 (.ref 167),kG P "_law_house" 412 (.ref 172),kG P "_law_term" 423 (.ref 179),kG P "_law_names_in" 430 (.ref 186),kG P "_law_deed" 436 (.ref 191),kG P "_law_block" 442 (.ref 196),kG P "_law_program" 448 (.ref 201),kG P "_law_store" 460 (.ref 208),kG P "_law_other_store" 474 (.ref 215),kG P "_law_alike" 480 (.ref 220),kG P "law" 486 (.ref 225)] 46 }),(15,{ cls:=.type "tuple",data:=.seq #[.str "sum" 193,.str "times" 194,.str "less" 195] }),(21,kC "names_of" 21 197 5 1 204 true),(22,kF "names_of" (top 4) Ei 21),(28,kC "names_in_term" 28 207 14 1 211 true),(29,kF "names_in_term" (top 5) Ei 28),(35,kC "parts_of" 35 214 16 1 219 true),(36,kF "parts_of" (top 6) Ei 35),(42,kC "flows" 42 224 28 1 229 true),(43,kF "flows" (top 8) yc 42),(47,kC "lets" 47 232 32 2 235 false),(48,kF "lets" (top 9) yc 47),(54,kC "gather_flows" 54 238 35 3 247 true),(55,kF "gather_flows" (top 10) yc 54),(61,kC "add_flows" 61 250 49 3 257 true),(62,kF "add_flows" (top 11) yc 61),(68,kC "level_of" 68 260 52 2 265 true),(69,kF "level_of" (top 12) yc 68),(73,kC "settled" 73 270 57 2 273 false),(74,kF "settled" (top 14) vh 73),(80,kC "targets_by_name" 80 276 71 1 283 true),(81,kF "targets_by_name" (top 15) vh 80),(85,kC "names_reached" 85 286 78 3 289 false),(86,kF "names_reached" (top 16) vh 85),(92,kC "trail_down" 92 292 88 4 301 true),(93,kF "trail_down" (top 17) vh 92),(99,kC "is_below" 99 304 94 3 310 true),(100,kF "is_below" (top 18) vh 99),(106,kC "way_to" 106 313 98 2 320 true),(107,kF "way_to" (top 19) vh 106),(111,kC "run" 111 325 106 3 328 false),(112,kF "run" (top 21) yd 111),(118,kC "number_of" 118 331 112 2 339 true),(119,kF "number_of" (top 22) yd 118),(125,kC "do_deeds" 125 342 125 4 354 true),(126,kF "do_deeds" (top 23) yd 125),(130,kC "page_of" 130 357 145 2 360 false),(131,kF "page_of" (top 24) yd 130),(135,kC "store_of" 135 363 147 1 366 false),(136,kF "store_of" (top 25) yd 135),(142,kC "_law_cell" 142 371 150 2 376 true),(143,kF "_law_cell" (top 27) j2 142),(149,kC "_law_mix" 149 379 154 3 385 true),(150,kF "_law_mix" (top 28) j2 149),(154,kC "_law_name" 154 388 156 2 391 false),(155,kF "_law_name" (top 29) j2 154),(159,kC "_law_names" 159 394 163 1 397 false),(160,kF "_law_names" (top 30) j2 159),(166,kC "_law_levels" 166 400 165 1 404 true),(167,kF "_law_levels" (top 31) j2 166),(178,kC "_law_term" 178 413 172 3 421 true),(179,kF "_law_term" (top 33) j2 178),(185,kC "_law_names_in" 185 424 180 1 428 true),(186,kF "_law_names_in" (top 34) j2 185),(190,kC "_law_deed" 190 431 186 4 434 false),(191,kF "_law_deed" (top 35) j2 190),(195,kC "_law_block" 195 437 204 4 440 false),(196,kF "_law_block" (top 36) j2 195),(200,kC "_law_program" 200 443 207 2 446 false),(201,kF "_law_program" (top 37) j2 200),(207,kC "_law_store" 207 449 212 2 458 true),(208,kF "_law_store" (top 38) j2 207),(214,kC "_law_other_store" 214 461 220 4 472 true),(215,kF "_law_other_store" (top 39) j2 214),(219,kC "_law_alike" 219 475 227 4 478 false),(220,kF "_law_alike" (top 40) j2 219),(224,kC "law" 224 481 233 1 484 false),(225,kF "law" (top 41) j2 224)]
noncomputable def kA:List Addr:=[3,15,21,22,28,29,35,36,42,43,47,48,54,55,61,62,68,69,73,74,80,81,85,86,92,93,99,100,106,107,111,112,118,119,125,126,130,131,135,136,142,143,149,150,154,155,159,160,166,167,178,179,185,186,190,191,195,196,200,201,207,208,214,215,219,220,224,225]
theorem fk{K:p4}{f:Str}{st:Stmt}{x c:Nat}{m:Value}{a t l n u:Nat}{b:Bool}(h:PySem.W.nsIn K mainGlobals f=some (some (.ref x)))(e:K.lookup x=some (kF f st m c))(d:K.lookup c=some (kC f a t l n u b)):FA K f st:=
 RO h e (by unfold PySem.W.codeIn;dsimp only;rw[d];exact beq_self_eq_true f) (by unfold PySem.W.keepIn;dsimp only;rw[e];rfl)
theorem fas(P:Params):W9 (fun e=>FA (KK P) (Str.ofString e.f) e.st) qz:=⟨fk (x:=22) (c:=21) (by kernel_rfl) rfl rfl,fk (x:=29) (c:=28) (by kernel_rfl) rfl rfl,fk (x:=36) (c:=35) (by kernel_rfl) rfl rfl,fk (x:=43) (c:=42) (by kernel_rfl) rfl rfl,fk (x:=48) (c:=47) (by kernel_rfl) rfl rfl,fk (x:=55) (c:=54) (by kernel_rfl) rfl rfl,fk (x:=62) (c:=61) (by kernel_rfl) rfl rfl,fk (x:=69) (c:=68) (by kernel_rfl) rfl rfl,fk (x:=74) (c:=73) (by kernel_rfl) rfl rfl,fk (x:=81) (c:=80) (by kernel_rfl) rfl rfl,fk (x:=86) (c:=85) (by kernel_rfl) rfl rfl,fk (x:=93) (c:=92) (by kernel_rfl) rfl rfl,fk (x:=100) (c:=99) (by kernel_rfl) rfl rfl,fk (x:=107) (c:=106) (by kernel_rfl) rfl rfl,fk (x:=112) (c:=111) (by kernel_rfl) rfl rfl,fk (x:=119) (c:=118) (by kernel_rfl) rfl rfl,fk (x:=126) (c:=125) (by kernel_rfl) rfl rfl,fk (x:=131) (c:=130) (by kernel_rfl) rfl rfl,fk (x:=136) (c:=135) (by kernel_rfl) rfl rfl,fk (x:=143) (c:=142) (by kernel_rfl) rfl rfl,fk (x:=150) (c:=149) (by kernel_rfl) rfl rfl,fk (x:=155) (c:=154) (by kernel_rfl) rfl rfl,fk (x:=160) (c:=159) (by kernel_rfl) rfl rfl,fk (x:=167) (c:=166) (by kernel_rfl) rfl rfl,fk (x:=179) (c:=178) (by kernel_rfl) rfl rfl,fk (x:=186) (c:=185) (by kernel_rfl) rfl rfl,fk (x:=191) (c:=190) (by kernel_rfl) rfl rfl,fk (x:=196) (c:=195) (by kernel_rfl) rfl rfl,fk (x:=201) (c:=200) (by kernel_rfl) rfl rfl,fk (x:=208) (c:=207) (by kernel_rfl) rfl rfl,fk (x:=215) (c:=214) (by kernel_rfl) rfl rfl,fk (x:=220) (c:=219) (by kernel_rfl) rfl rfl,fk (x:=225) (c:=224) (by kernel_rfl) rfl rfl,trivial⟩
set_option maxHeartbeats 0 in
theorem all_mk{l:PySem.W.OpenLaw}{w:World}{K:p4}{h:Heap}{mg:Str→Option Value}{fa:Addr}(TC:∀ns:List Int,ns.length≤63→BW 100000 Γ 60 "law" [.b6 ns] []=some (.bl true,[]))(X:K.In h)(G:h.Ns mainGlobals mg)(Tc:mg "law" = some (.ref fa)){tk0:Tok}{tk1:Tok}{ga2:Addr}{Sg:Nat}{Sh:Tok}{Si:Tok}{Sj:Tok}(fs:W9 (fun e=>FA K (Str.ofString e.f) e.st) qz)(z0:PySem.W.nsIn K mainGlobals "all" = some none)(z1:PySem.W.nsIn K mainGlobals "dict" = some none)(z2:PySem.W.nsIn K mainGlobals "enumerate" = some none)(z3:PySem.W.nsIn K mainGlobals "int" = some none)(z4:PySem.W.nsIn K mainGlobals "len" = some none)(z5:PySem.W.nsIn K mainGlobals "list" = some none)(z6:PySem.W.nsIn K mainGlobals "max" = some none)(z7:PySem.W.nsIn K mainGlobals "range" = some none)(z8:PySem.W.nsIn K mainGlobals "reversed" = some none)(z9:PySem.W.nsIn K mainGlobals "set" = some none)(WS:PySem.W.nsIn K mainGlobals "sorted" = some none)(WU:PySem.W.nsIn K mainGlobals "tuple" = some none)(Sa:PySem.W.nsIn K mainGlobals "NUMBERS" = some (some (.int 997 tk0)))(Sb:PySem.W.nsIn K mainGlobals "LEVELS" = some (some (.int 3 tk1)))(Sd:PySem.W.nsIn K mainGlobals "PAIRING" = some (some (.ref ga2)))(Sf:K.lookup ga2=some { cls:=.type "tuple",data:=.seq #[.str "sum" Sh,.str "times" Si,.str "less" Sj] Sg })
  : ∃fd:FuncData,(∀(s:Shared) (v:Value),BindsTo s fd ⟨[v],[]⟩ [("_law_script",v)])∧∀base:Heap,K.In base→base.Ns mainGlobals mg→iA l.prog w K mg base jo 60 fa fd ["_law_script"] (qI K):=by
 have T:Tp K mg:=⟨PySem.W.mg_none_of X G z0,PySem.W.mg_none_of X G z1,PySem.W.mg_none_of X G z2,PySem.W.mg_none_of X G z3,PySem.W.mg_none_of X G z4,PySem.W.mg_none_of X G z5,PySem.W.mg_none_of X G z6,PySem.W.mg_none_of X G z7,PySem.W.mg_none_of X G z8,PySem.W.mg_none_of X G z9,PySem.W.mg_none_of X G WS,PySem.W.mg_none_of X G WU,.int (PySem.W.mg_of X G Sa),.int (PySem.W.mg_of X G Sb),oz.strs (PySem.W.mg_of X G Sd) Sf rfl⟩
 have H:W9 (v3 K mg) qz:=Ki X G fs ED;obtain⟨x,oc,od,an,sl,kV,dc,pm,cd,ct,a,l,c,k⟩:=fs.2.2.2.2.2.2.2.2.2.2.2.2.2.2.2.2.2.2.2.2.2.2.2.2.2.2.2.2.2.2.2.2.1;have e:=Tc.symm.trans (PySem.W.mg_of X G a);cases e;refine⟨PySem.W.fnOf "law" "law" (N7 (top 41)) (JZ (top 41)) (GQ (top 41)) .none kV dc pm an cd ct,fun s v=>.of_eq rfl,fun base _ _=>?_⟩;exact ME (lU (pF l c k) ED.2.2.2.2.2.2.2.2.2.2.2.2.2.2.2.2.2.2.2.2.2.2.2.2.2.2.2.2.2.2.2.2.1.1 (F:=Br) rfl rfl rfl (fun dz A outer s Hh E hr=>ER T (ds (W:=100000) T H 59) hr)) TC
noncomputable def qv:Program:={ PySem.Challenge.pw_whisperwall_k08_whole_settled_levels_kee with main:={ PySem.Challenge.pw_whisperwall_k08_whole_settled_levels_kee.main with body:=[top 1,top 2,top 3,top 4,top 5,top 6,top 8,top 9,top 10,top 11,top 12,top 14,top 15,top 16,top 17,top 18,top 19,top 21,top 22,top 23,top 24,top 25,top 27,top 28,top 29,top 30,top 31,top 32,top 33,top 34,top 35,top 36,top 37,top 38,top 39,top 40,top 41] } }
noncomputable def hk:PySem.W.Hook:=PySem.W.kHook KK kA (fun _=>by kernel_rfl)
noncomputable def xt(s:Shared):Bool:=PySem.W.xlAt qv [] s&&PySem.W.recOk (PySem.W.RowW.records (PySem.W.OpenRow.toRowW (PySem.W.OpenLaw.row PySem.Challenge.rw_whisperwall_k08_whole_settled_levels_kee))) s
noncomputable def bl(w:World):=(PySem.W.openEnds treeTable PySem.Challenge.pw_whisperwall_k08_whole_settled_levels_kee w 2282).map fun s=>(PySem.W.openSeen qv [] (importedModules PySem.Challenge.pw_whisperwall_k08_whole_settled_levels_kee.main.body) xt true s,kA.map s.heap.get?)
noncomputable def br(w:World):=some (PySem.W.openGood qv [],(KK w.params).map fun p=>some p.2)
theorem bl_r:bl=bl:=rfl
theorem br_r:br=br:=rfl
name_quick ql for bl by bl_r
name_quick qr for br by br_r
theorem left(w:World):bl w=br w:=(congrFun PySem.W.Fast.ql_eq w).trans (Eq.trans (by kernel_rfl) (congrFun PySem.W.Fast.qr_eq w).symm)
end T
open PySem PySem.W PyProof.Rows
set_option maxRecDepth 100000 in
set_option maxHeartbeats 0 in
theorem PySem.Challenge.cw_whisperwall_k08_whole_settled_levels_kee_holds : PySem.Challenge.rw_whisperwall_k08_whole_settled_levels_kee.Holds := by
 w_on;o_law
 refine PySem.W.holds_open (q:=T.qv) (loose:=[]) (Xt:=T.xt) (XP:=PySem.W.XL T.qv []) (Yf:=T.hk.obs) (Ya:=T.hk.val) (YP:=T.hk.says) (N:=2282) T.left T.hk.of T.hk.keeps (fun s e=>xl_of s (Bool.and_eq_true_iff.mp e).1) XL.keeps (by rfl) (by rfl) (by rfl)
  (fun s e=>recFacts_of (Bool.and_eq_true_iff.mp e).2) (by rfl) (by assumption) (by decide +kernel) ⟨rfl,rfl,rfl,rfl,rfl,by decide +kernel⟩ ?hw ?hc
 (case hw=>w_witness2)
 refine WL.walk_law (l:=PySem.Challenge.rw_whisperwall_k08_whole_settled_levels_kee) rfl rfl (fun w h Y=>PySem.W.kIn_of Y) ?F
 case F=>
  intro w mg fa h KX G hmg;exact T.all_mk (ga2:=15) (tk0:=189) (tk1:=191) T.law_true KX G hmg (T.fas _) (by kernel_rfl) (by kernel_rfl) (by kernel_rfl) (by kernel_rfl) (by kernel_rfl) (by kernel_rfl) (by kernel_rfl) (by kernel_rfl) (by kernel_rfl) (by kernel_rfl) (by kernel_rfl) (by kernel_rfl) (by kernel_rfl) (by kernel_rfl) (by kernel_rfl) rfl
end
