import PyProof.Rows.All
import Wide.All
import OpenK.AllK
import Lean
import PyProof.EqAt
import PyProof.EqKinds
import PyProof.TupleCall
import PyProof.CompFree
import PyProof.CompUse
import PyProof.P3Eq
import PyProof.NeData
import PyProof.ZipIter
import PyProof.WalksMore
import KE.LcSums
import PyProof.Rows.CallKwBuiltin
import PyProof.SetRoads
import PyProof.Rows.SetFrom
import PyProof.StrWalks
import PyProof.Draws
import PyProof.EnumMake
import PySem.Challenge.RW_whisperwall_k13_whole_other_names
set_option Elab.async false
set_option linter.all false
set_option maxRecDepth 100000
set_option maxHeartbeats 4000000
set_option genSizeOfSpec false
abbrev p4:=PySem.W.Frag
abbrev p5:List PySem.Str:=["program","house","told","onward","levels","level","starts","came_from","trail","9"]
abbrev p6:List PySem.Str:=["_law_script","_law_k"]
theorem aT{x:Option α}{f:α->Option β}(h:x.bind f=some b):∃a,x=some a/\f a=some b:=Option.bind_eq_some_iff.mp h
theorem cj{x:Option α}{f:α->β}(h:x.map f=some b):∃a,x=some a/\f a=b:=Option.map_eq_some_iff.mp h
theorem ck{a b:α}(h:a∈b::l):a=b\/a∈l:=List.mem_cons.mp h
theorem cz{l r:List α}(h:a∈l++r):a∈l\/a∈r:=List.mem_append.mp h
theorem cw{l:List α}{f:α->β}(h:b∈l.map f):∃a,a∈l/\f a=b:=List.mem_map.mp h
theorem eR{a b:α}(h:a∈[b]):a=b:=List.mem_singleton.mp h
theorem j3{p:α->Bool}{l:List α}(h:a∈l.filter p):a∈l/\p a=true:=List.mem_filter.mp h
theorem k0{a:α}{l:List α}(h:(a::l).Nodup):a∉l/\l.Nodup:=List.nodup_cons.mp h
theorem k6{l:List α}{p:α->Bool}(h:l.all p=true):∀x∈l,p x=true:=List.all_eq_true.mp h
open PySem in
abbrev ae:=@wpAny_bind
open PySem in
abbrev ai:=@wpAny_pure
open PySem in
abbrev ff:=@wpAny_mono
open PySem in
abbrev f6:=@wpAny_holding
open PySem in
abbrev ir:=@wpAny_call_entry
abbrev b7:=@List.mem_cons_of_mem
abbrev b0:=@List.mem_cons_self
abbrev iu:=@List.mem_append_left
abbrev hJ:=@List.mem_append_right
abbrev gh:=@List.mem_map_of_mem
abbrev a0:=@Nat.le_refl
abbrev eJ:=@Nat.le_trans
abbrev ri:=@Nat.lt_of_le_of_lt
abbrev hV:=@Nat.lt_of_lt_of_le
abbrev rj:=@Nat.lt_succ_self
abbrev mh:=@Nat.lt_succ_of_lt
abbrev ua:=@Nat.le_succ
abbrev eS:=@Nat.zero_le
abbrev cm:=@Nat.ne_of_lt
abbrev iS:=@Nat.ne_of_gt
abbrev di:=@Nat.le_of_ble_eq_true
abbrev ml:=@Nat.le_of_lt
abbrev hZ:=@Nat.lt_irrefl
abbrev dm:=@decide_eq_true
abbrev dn:=@decide_eq_false
abbrev f7:=@of_decide_eq_true
open PySem in
abbrev dg:=@Heap.get?_push_of_some
open PySem in
abbrev dj:=@Heap.get?_push_size
open PySem in
abbrev bh:=@Heap.lt_size
open PySem in
abbrev k7:=@Heap.get?_update_self
abbrev ke:=@List.map_congr_left
abbrev fb:=@List.mergeSort_perm
abbrev mq:=@List.nodup_nil
abbrev oC:=@Nat.not_lt_zero
abbrev nz:=@List.getElem_of_mem
abbrev jg:=@List.mem_of_getElem?
abbrev fo:=@List.getElem?_eq_getElem
open PySem in
abbrev wb:=@Heap.SameBut.update
open PySem in
abbrev oI:=@Calls.spliced_cons
open PySem in
abbrev qe:=@Calls.spliced_nil
open PySem in
abbrev jo:=@codeAny_builtin
open PySem in
abbrev wc:=@codeAny_mono
abbrev d5:=@Bool.false_ne_true
abbrev iw:=@Sum.inr.inj
abbrev we:=@Int.eq_ofNat_of_zero_le
abbrev wg:=@Nat.le_add_right
abbrev cq:=@Option.some.inj
abbrev ag:=@if_pos
abbrev ak:=@if_neg
abbrev bu:=@Option.bind_some
abbrev a8:=@List.length_map
abbrev jh:=@Option.map_some
abbrev bS:=@List.map_map
abbrev cn:=@List.map_cons
abbrev gc:=@List.length_append
abbrev kg:=@List.length_cons
abbrev dv:=@List.size_toArray
abbrev gi:=@List.getElem?_map
abbrev gp:=@Bool.and_eq_true
abbrev kh:=@List.getElem?_append_left
abbrev rS:=@List.getElem?_append_right
abbrev oQ:=@List.length_singleton
abbrev eK:=@Array.length_toList
open PySem in
abbrev fq:=@sizeLine_eq
open PySem in
abbrev ji:=@typeLookup_type
open PySem in
abbrev jj:=@builtinLookup_eq_fast
abbrev B6:=@List.any_eq_true
abbrev dt:=@List.map_append
abbrev wm:=@List.append_assoc
abbrev ki:=@List.filterMap_eq_map'
abbrev rV:=@List.take_of_length_le
abbrev ue:=@List.append_nil
open PySem in
abbrev zo:=@entryFor_of_tree
open PySem in
abbrev mE:=@Heap.size_push
abbrev rX:=@List.all_eq_true
abbrev zq:=@List.perm_ext_iff_of_nodup
open PySem in
abbrev wu:=@Calls.call_function_entry
open PySem in
abbrev kj:=@Around.under_plainId
open PySem in
abbrev ug:=@wpAny_newList
abbrev jk:=@PyProof.Rows.IsTup
open PySem in
abbrev jr:=@wpAny_newObj_type
open PySem in
abbrev jy:=@wpAny_rule
section
variable{A:PySem.Around}{E Q:PySem.Value->PySem.Shared->Prop}{I a f i1 i2 it z:PySem.Addr}{K:p4}{M N loose own ps:List PySem.Str}{P prog:PySem.Program}{R:PySem.Result->PySem.Shared->Prop}{RR:PySem.Value->PySem.Addr->PySem.Result->PySem.Shared->Prop}{T:String}{W i j n t':Nat}{XP:(PySem.Str->Option PySem.Value)->PySem.Heap->Prop}{YP:PySem.World->PySem.Heap->Prop}{apos b8 p p1 p2 pos pos' q1:PySem.Pos}{b c e elt iter o tg:PySem.Expr}{base h h':PySem.Heap}{body:List PySem.Stmt}{ch fp ρ ρ':List PySem.Addr}{elts es ifs:List PySem.Expr}{fd:PySem.FuncData}{items:Array PySem.Value}{its l us:List PySem.Value}{mg:PySem.Str->Option PySem.Value}{mu:Bool}{name qual x:PySem.Str}{ns:List Int}{ob:PySem.Obj}{op:PySem.CmpOp}{pq:Array (Option PySem.Value)}{pi:List (PySem.Addr×PySem.Obj)}{s:PySem.Shared}{scope:PySem.Scope}{st:PySem.Stmt}{u:PySem.Value}{w:PySem.World}
namespace L2
open PySem PySem.Spec PyProof.Rows
abbrev Key:=Sum Int Str
noncomputable def JV:Key->Value->Bool
 | .inl k,v=>Value.isInt k v
 | .inr x,v=>Value.isStrOf x v
noncomputable def ZX(w:World):Key->Int
 | .inl k=>hashInt k
 | .inr x=>hashStr w x
theorem FW:∀{k:Key} {v:Value},JV k v=true->(∃i t,k=Sum.inl i/\v=Value.int i t)\/(∃x t,k=Sum.inr x/\v=Value.str x t)
 | .inl i,v,h=>by
  obtain⟨t,e⟩:=Value.isInt_shape (k:=i) (v:=v) h;exact .inl ⟨i,t,rfl,e⟩
 | .inr x,v,h=>by
  obtain⟨t,e⟩:=Value.isStrOf_shape (x:=x) (v:=v) h;exact .inr ⟨x,t,rfl,e⟩
theorem yI(i:Int)(t:Tok):JV (.inl i) (.int i t)=true:=by simp[JV,Value.isInt]
theorem yH(x:Str)(t:Tok):JV (.inr x) (.str x t)=true:=by simp[JV,Value.isStrOf]
theorem Qj(a b:Int):decide ((Sum.inl a:Key)=Sum.inl b)=(a==b):=by
 by_cases e:a=b
 .subst e;simp
 .have h:¬(Sum.inl a:Key)=Sum.inl b:=λq=>e (Sum.inl.inj q)
  rw[dn h];exact(beq_eq_false_iff_ne.mpr e).symm
theorem Qg(a b:Str):decide ((Sum.inr a:Key)=Sum.inr b)=decide (a=b):=by
 by_cases e:a=b
 .subst e;simp
 .have h:¬(Sum.inr a:Key)=Sum.inr b:=λq=>e (iw q)
  rw[dn h,dn e]
theorem Qi(a:Int)(b:Str):decide ((Sum.inl a:Key)=Sum.inr b)=false:=dn (λq=>nomatch q)
theorem Qh(a:Str)(b:Int):decide ((Sum.inr a:Key)=Sum.inl b)=false:=dn (λq=>nomatch q)
noncomputable def CZ(prog:Program)(w:World):PySem.KeyKind prog w Key where
 is:=JV
 hash:=ZX w
 inj:=λv a b ha hb=>by
  rcases FW ha with ⟨i,t,rfl,rfl⟩ | ⟨x,t,rfl,rfl⟩
  .rcases FW hb with ⟨j,u,rfl,e⟩ | ⟨y,u,rfl,e⟩
   .injection e with e1 _;rw[e1]
   .exact nomatch e
  .rcases FW hb with ⟨j,u,rfl,e⟩ | ⟨y,u,rfl,e⟩
   .exact nomatch e
   .injection e with e1 _;rw[e1]
 byValue:=λk v h=>by
  rcases FW h with ⟨i,t,rfl,rfl⟩ | ⟨x,t,rfl,rfl⟩<;>rfl
 pyHash:=λhv h=>by
  rcases FW hv with ⟨i,t,rfl,rfl⟩ | ⟨x,t,rfl,rfl⟩
  .exact wpAny_pyHash_int h
  .exact wpAny_pyHash_str h
 eqBool:=λhu hv h=>by
  rcases FW hu with ⟨i,t,rfl,rfl⟩ | ⟨x,t,rfl,rfl⟩
  .rcases FW hv with ⟨j,u,rfl,rfl⟩ | ⟨y,u,rfl,rfl⟩
   .rw[Qj]at h;exact wpAny_eqBool_int h
   .rw[Qi]at h;exact SeqAt.EqAt.int_str i t y u _ _ _ _ h
  .rcases FW hv with ⟨j,u,rfl,rfl⟩ | ⟨y,u,rfl,rfl⟩
   .rw[Qh]at h;exact SeqAt.EqAt.str_int x t j u _ _ _ _ h
   .rw[Qg]at h;exact wpAny_eqBool_str h
 «strs»:=λk x t v h=>by
  rcases FW h with ⟨i,u,rfl,e⟩ | ⟨y,u,rfl,e⟩
  .exact nomatch e
  .injection e with e1 _
   subst e1;cases v<;>rfl
theorem oV(prog:Program)(w:World)(i:Int)(t:Tok):(CZ prog w).is (.inl i) (.int i t)=true:=yI i t
theorem oU(prog:Program)(w:World)(x:Str)(t:Tok):(CZ prog w).is (.inr x) (.str x t)=true:=yH x t
end L2
variable{ks:List L2.Key}{xs:List (List L2.Key×PySem.Addr×PySem.Value)}
namespace L2
open PySem PySem.Spec PyProof.Rows
inductive V where
 | au | bl (b:Bool) | int (i:Int) | str (x:Str) | jn (b:Array UInt8) | B2 (b:UInt64) | ref (a:Addr) | ty (n:String)
 deriving DecidableEq
def RelV:V->Value->Prop
 | .au,u=>u=Value.none
 | .bl b,u=>u=Value.bool b
 | .int i,u=>∃t,u=Value.int i t
 | .str x,u=>∃t,u=Value.str x t
 | .jn b,u=>∃t,u=Value.bytes b t
 | .B2 b,u=>∃t,u=Value.float b t
 | .ref a,u=>u=Value.ref a
 | .ty n,u=>u=Value.type n
abbrev Vals:List V->List Value->Prop:=Paired RelV
theorem Vals.length{xs:List V}(r:Vals xs us):xs.length=us.length:=Paired.length r
theorem Vals.get:∀{xs:List V} {us:List Value} {i:Nat} {x:V},Vals xs us->xs[i]?=some x->∃u,us[i]?=some u/\RelV x u
 | _,_,_,_,.nil,e=>by simp at e
 | _,_,0,_,.cons r _,e=>by simp at e;subst e;exact⟨_,rfl,r⟩
 | _,_,i+1,x,.cons _ t,e=>by
  obtain⟨u,h1,h2⟩:=Vals.get (i:=i) (x:=x) t (by simpa using e);exact⟨u,by simpa using h1,h2⟩
theorem Vals.set{x:V}(r:RelV x u):∀{xs:List V} {us:List Value} (i:Nat),Vals xs us->Vals (xs.set i x) (us.set i u)
 | _,_,_,.nil=>.nil
 | _,_,0,.cons _ t=>.cons r t
 | _,_,i+1,.cons q t=>.cons q (Vals.set r i t)
theorem Vals.append{xs ys:List V}(h:Vals xs us)(g:Vals ys ws):Vals (xs++ys) (us++ws):=by
 induction h with
 | nil=>exact g
 | cons r t ih=>exact .cons r ih
theorem Vals.take:∀{xs:List V} {us:List Value} (n:Nat),Vals xs us->Vals (xs.take n) (us.take n)
 | _,_,0,_=>.nil
 | _,_,_+1,.nil=>.nil
 | _,_,n+1,.cons r t=>.cons r (Vals.take n t)
theorem Vals.drop:∀{xs:List V} {us:List Value} (n:Nat),Vals xs us->Vals (xs.drop n) (us.drop n)
 | _,_,0,r=>r
 | _,_,_+1,.nil=>.nil
 | _,_,n+1,.cons _ t=>Vals.drop n t
def nu:Option V->Option Value->Prop
 | some v,some u=>RelV v u
 | none,none=>True
 | _,_=>False
def KV{da:Type}:List (da×V)->List (da×Value)->Prop:=Paired λ(p:da×V) (q:da×Value)=>p.1=q.1/\RelV p.2 q.2
noncomputable def kV:Key->V
 | .inl i=>.int i
 | .inr x=>.str x
end L2
variable{kvs:List (L2.Key×L2.V)}{vs ys:List L2.V}{y:L2.V}
namespace PySem
open Sem (wp)
open L2
abbrev FK:=Str×Str×(Int ⊕ Str)
noncomputable def fN(k:FK):List (Int ⊕ Str):=[.inr k.2.1,k.2.2]
def gk(prog:Program)(w:World)(h:Heap)(k:FK)(a:Addr):Prop:=∃o items n t b,h.get? a=some o/\o.cls=.type "tuple"/\o.data=.seq items n/\items.toList=[.str k.1 t,.ref b]/\IsTupleKey (CZ prog w) h (fN k) b
theorem gk.typeIs{k:FK}(x:gk prog w s.heap k a):s.TypeIs (.ref a) "tuple":=by
 obtain⟨o,_,_,_,_,ho,hc,_⟩:=x;exact⟨o,ho,hc⟩
theorem E8{x y:FK}(h1:x.1=y.1)(h2:fN x=fN y):x=y:=by
 obtain⟨a,b,c⟩:=x;obtain⟨i9,mf,df⟩:=y;simp only[fN,List.cons.injEq,Sum.inr.injEq,and_true]at h1 h2;rw[h1,h2.1,h2.2]
theorem gk.inj{h:Heap}{a:Addr}{x y:FK}(hx:gk prog w h x a)(hy:gk prog w h y a):x=y:=by
 obtain⟨o,items,n,t,b,ho,_,hd,hi,hb⟩:=hx;obtain⟨b5,Jk,mT,t',mf,gV,_,d6,kL,gu⟩:=hy;obtain rfl:o=b5:=cq (ho.symm.trans gV);rw[hd]at d6;injection d6 with h1 _;subst h1;rw[hi]at kL;simp only[List.cons.injEq,Value.str.injEq,Value.ref.injEq,and_true]at kL;obtain⟨⟨e1,_⟩,rfl⟩:=kL;exact E8 e1 (hb.inj gu)
theorem gk.keeps{k:FK}{a d:Addr}{o:Obj}{es ep}(x:gk prog w h k a)(ho:h.get? d=some o)(hd:o.data=.dict es ep)(hs:Heap.SameBut d h h'):gk prog w h' k a:=by
 obtain⟨b5,items,n,t,b,gV,hc,d6,hi,hb⟩:=x;have eL:a≠d:=by
  rintro rfl;obtain rfl:b5=o:=cq (gV.symm.trans ho);rw[hd]at d6;exact nomatch d6
 exact⟨b5,items,n,t,b,(hs.2 a eL).trans gV,hc,d6,hi,hb.keeps ho hd hs⟩
noncomputable def cZ(prog:Program)(w:World)(k:FK):Int:=reduceHash (Builtin.Tuple.tupleHashOf [(CZ prog w).hash (.inr k.1),tupleKeyHash (CZ prog w) (fN k)])
theorem T3{t:Tok}:(CZ prog w).is (.inr x) (.str x t)=true:=by
 show JV (.inr x) (.str x t)=true;simp[JV,Value.isStrOf]
theorem W2{k:FK}{Q:Int->Shared->Prop}(hu:A.units+10<cLine)(hk:gk prog w s.heap k a)(h:Q (cZ prog w k) { s with toks:=s.toks+5 }):
  wpAny (model prog w) A (pyHash (.ref a)) Q E s:=by
 have hT:=hk.typeIs;obtain⟨o,items,n,t,b,ho,_,hd,hi,hb⟩:=hk;unfold pyHash
 first | unfold pyHashByItsType | skip
 first | refine ae (wpAny_cRoomFor_or (.inr (by lia)) ?_) | skip
 refine ae (wpAny_specialOf hT F.slot_tuple_hash.lookup ?_);show wpAny _ _ (if (some (Value.builtin "tuple.__hash__")==some Value.none)=true then _ else _) Q E s;rw[ak (by rw[beq_builtin_none];exact d5)];refine ae (wpAny_specialOf hT F.slot_tuple_hash.lookup ?_);show wpAny _ _ (callSpecialIfBoundUnlessNone? (.ref a) "__hash__" _ >>= _) Q E s;refine ae (wpAny_callSpecialIfBoundUnlessNone?_slot hT F.slot_tuple_hash (ir F.slot_tuple_hash hT F.entry_tuple_hash ?_ (F.args_tuple_hash_1 _)));show wpAny _ _ (Builtin.Tuple.tupleItemsOf (.ref a) >>= _) _ _ s;refine ae (wpAny_tupleItemsOf ho hd ?_);refine ae ?_;rw[<-Array.forIn_toList,hi];rw[List.forIn_cons];refine ae ?_;refine ae ((CZ prog w).pyHash (k:=.inr k.1) T3 ?_);refine ai ?_;show wpAny _ _ (forIn [Value.ref b] _ _) _ _ _;rw[List.forIn_cons];refine ae ?_;refine ae (wpAny_pyHash_tuple (ks:=fN k) (show A.units+1<cLine by lia) hb ?_);refine ai ?_;show wpAny _ _ (forIn ([]:List Value) _ _) _ _ _;rw[List.forIn_nil];refine ai ?_;show wpAny _ _ (retInt (Builtin.Tuple.tupleHashOf [(CZ prog w).hash (.inr k.1),tupleKeyHash (CZ prog w) (fN k)])) _ _ _;refine wpAny_ret_mkInt ?_;show wpAny _ _ (if (decide (-(2:Int) ^ 63<=Builtin.Tuple.tupleHashOf [(CZ prog w).hash (.inr k.1),tupleKeyHash (CZ prog w) (fN k)])&&decide (Builtin.Tuple.tupleHashOf [(CZ prog w).hash (.inr k.1),tupleKeyHash (CZ prog w) (fN k)]<2 ^ 63))=true then _ else _) Q E _;unfold cZ reduceHash at h
 by_cases hr:(decide (-(2:Int) ^ 63<=Builtin.Tuple.tupleHashOf [(CZ prog w).hash (.inr k.1),tupleKeyHash (CZ prog w) (fN k)])&&decide (Builtin.Tuple.tupleHashOf [(CZ prog w).hash (.inr k.1),tupleKeyHash (CZ prog w) (fN k)]<2 ^ 63))=true
 .rw[ag hr]
  rw[ag hr]at h;exact ai (by simpa[Nat.add_assoc,fN] using h)
 .rw[ak hr]
  rw[ak hr]at h;exact ae (jy (ai (by simpa[Nat.add_assoc,fN] using h)))
theorem lG{x y:FK}{b:Addr}{P:Fin->Shared->Prop}(hu:A.units+5<cLine)(hx:gk prog w s.heap x a)(hy:gk prog w s.heap y b)(h:P (.done (.ret (.bool (decide (x=y))))) s):
  wpAny (model prog w) A (Builtin.«tuple.__eq__» ⟨[.ref a,.ref b],[]⟩) P E s:=by
 have Cj:=hy.typeIs;obtain⟨oa,xs,na,ta,ba,C4,_,Cr,Iu,zS⟩:=hx;obtain⟨ob,ys,nb,tb,bb,nT,_,jc,Iv,Aa⟩:=hy;show wpAny _ _ (isInstance (.ref b) (.type "tuple") >>= _) _ _ s;refine ae (wpAny_isInstance Cj isSubtype_tuple_tuple ?_);simp only[Bool.not_true,Bool.false_eq_true,if_false];refine ae (wpAny_tupleItemsOf C4 Cr ?_);refine ae (wpAny_tupleItemsOf nT jc ?_);refine ae ?_;have hsz:xs.size==ys.size:=by
  have h1:xs.size=2:=by rw[<-eK,Iu];rfl
  have h2:ys.size=2:=by rw[<-eK,Iv];rfl
  simp[h1,h2]
 rw[Iu,Iv];show wpAny _ _ (forIn [(Value.str x.1 ta,Value.str y.1 tb),(Value.ref ba,Value.ref bb)] _ _) _ _ _;rw[List.forIn_cons];refine ae ?_;refine ae ((CZ prog w).eqBool (a:=.inr x.1) (b:=.inr y.1) T3 T3 ?_)
 by_cases h1:x.1=y.1
 .rw[dm (show (Sum.inr x.1:Key)=.inr y.1 by rw[h1])]
  simp only[Bool.not_true,Bool.false_eq_true,if_false];refine ai ?_;show wpAny _ _ (forIn [(Value.ref ba,Value.ref bb)] _ _) _ _ _;rw[List.forIn_cons];refine ae ?_;refine ae (wpAny_eqBool_tuple (x:=fN x) (y:=fN y) (by lia) zS Aa ?_)
  by_cases h2:fN x=fN y
  .rw[dm h2]
   simp only[Bool.not_true,Bool.false_eq_true,if_false];refine ai ?_;show wpAny _ _ (forIn ([]:List (Value×Value)) _ _) _ _ _;rw[List.forIn_nil];refine ai (ai ?_);rw[dm (E8 h1 h2)]at h;show P (.done (.ret (.bool (xs.size==ys.size)))) s;rw[hsz];exact h
  .rw[dn h2]
   simp only[Bool.not_false,if_true];rw[dn λe=>h2 (by rw[e])]at h;exact ae (ai (ai (ai (ai h))))
 .rw[dn (show ¬(Sum.inr x.1:Key)=.inr y.1 from λe=>h1 (iw e))]
  simp only[Bool.not_false,if_true];rw[dn λe=>h1 (by rw[e])]at h;exact ae (ai (ai (ai (ai h))))
theorem W4{x y:FK}{b:Addr}{Q:Bool->Shared->Prop}(hu:A.units+10<cLine)(hx:gk prog w s.heap x a)(hy:gk prog w s.heap y b)(h:Q (decide (x=y)) s):
  wpAny (model prog w) A (eqBool (.ref a) (.ref b)) Q E s:=by
 unfold eqBool
 try with_reducible refine f6 ?_
 show wpAny _ _ (if (Value.ref a==Value.ref b)=true then _ else _) Q E s
 by_cases fg:(Value.ref a==Value.ref b)=true
 .rw[ag fg]
  have e:a=b:=by have:=eq_of_beq fg;injection this
  subst e;obtain rfl:=hx.inj hy;exact ae (jy (ai (by simpa using h)))
 .rw[ak fg]
  exact ae (wpAny_richCompare_same_room (op:=.Eq) hx.typeIs hy.typeIs F.slot_tuple_eq
   (ir F.slot_tuple_eq hx.typeIs F.entry_tuple_eq (lG (by show A.units+1+5<cLine;lia) hx hy ⟨_,rfl,(λe=>nomatch e),wpAny_truthy_bool h⟩) (F.args_tuple_eq_2 _ _)) (by lia))
theorem o8{Q:Bool->Shared->Prop}(hk:IsTupleKey (CZ prog w) s.heap ks a)(h:Q true s):wpAny (model prog w) A (eqIsQuiet (n+1) (.ref a)) Q E s:=by
 have hT:=hk.typeIs;obtain⟨o,items,n,ho,_,hd,hi⟩:=hk;unfold eqIsQuiet;refine ae (wpAny_specialOf hT F.slot_tuple_eq.lookup ?_);show wpAny _ _ (isInstance (.ref a) (.type "tuple") >>= _) _ _ s;refine ae (wpAny_isInstance hT isSubtype_tuple_tuple ?_);simp only[Bool.not_true,Bool.false_eq_true,if_false];refine ae (wpAny_seqItems ho hd ?_);refine ae ?_;show wpAny _ _ (forIn items _ _) _ _ s;rw[<-Array.forIn_toList];refine wpAny_forIn_list _ (λrest r s'=>r.1=none/\s'=s/\∀v∈rest,carriedByValue v=true) _ ?_ ?_ _ _ ⟨rfl,rfl,hi.byValue⟩
 .rintro v rest r s' ⟨hr,rfl,um⟩
  rw[eqIsQuiet_byValue _ (um v b0)];refine ae (ai ?_);simp only[Bool.not_true,Bool.false_eq_true,if_false];exact ai ⟨rfl,rfl,λu Wg=>um u (b7 _ Wg)⟩
 .rintro ⟨r1,r2⟩ s' ⟨hr,rfl,_⟩
  simp only at hr;subst hr;exact ai h
theorem RX{k:FK}{Q:Bool->Shared->Prop}(hk:gk prog w s.heap k a)(h:Q true s):wpAny (model prog w) A (eqIsQuiet 8 (.ref a)) Q E s:=by
 have hT:=hk.typeIs;obtain⟨o,items,n,t,b,ho,_,hd,hi,hb⟩:=hk;unfold eqIsQuiet;refine ae (wpAny_specialOf hT F.slot_tuple_eq.lookup ?_);show wpAny _ _ (isInstance (.ref a) (.type "tuple") >>= _) _ _ s;refine ae (wpAny_isInstance hT isSubtype_tuple_tuple ?_);simp only[Bool.not_true,Bool.false_eq_true,if_false];refine ae (wpAny_seqItems ho hd ?_);refine ae ?_;show wpAny _ _ (forIn items _ _) _ _ s;rw[<-Array.forIn_toList,hi,List.forIn_cons];refine ae ?_;rw[eqIsQuiet_byValue _ rfl];refine ae (ai ?_);simp only[Bool.not_true,Bool.false_eq_true,if_false];refine ai ?_;show wpAny _ _ (forIn [Value.ref b] _ _) _ _ _;rw[List.forIn_cons];refine ae ?_;refine ae (o8 (n:=6) hb ?_);simp only[Bool.not_true,Bool.false_eq_true,if_false];refine ai ?_;show wpAny _ _ (forIn ([]:List Value) _ _) _ _ _;rw[List.forIn_nil];exact ai (ai h)
noncomputable def cY(prog:Program)(w:World):HeapKind prog w FK where
 is:=gk prog w
 hash:=cZ prog w
 draws:=λ_=>5
 room:=λA=>A.units+10<cLine
 inj:=λhx hy=>hx.inj hy
 keeps:=λx ho hd hs=>x.keeps ho hd hs
 pyHash:=λhu hk h=>W2 hu hk (by simpa using h)
 eqBool:=λhu hx hy h=>W4 hu hx hy h
 quiet:=λhk h=>RX hk h
end PySem
namespace L2
open PySem PySem.Spec PyProof.Rows
inductive HO where
  | dF (xs:List (FK×Addr))
  | lst (xs:List V)
  | tup (xs:List V)
  | dK (kvs:List (Key×V)) | dT (kvs:List (List Key×V))
  | set (S:Int->Bool) (n:Nat)
  | own (x:Addr)
  | kQ (lo hi:Int)
  | bq (o:Obj) (u:HO)
  | qE (ps:Array Value)
  | ext (tN:Heap->Prop)
abbrev Hp:=Addr->Option HO
noncomputable def upd(H:Hp)(a:Addr)(o:HO):Hp:=λb=>if b=a then some o else H b
theorem DP{o:HO}:upd H a o a=some o:=by unfold upd;rw[ag rfl]
theorem CK{H:Hp}{b:Addr}{o:HO}(h:b≠a):upd H a o b=H b:=by unfold upd;rw[ak h]
theorem u9{H:Hp}{o u:HO}:upd (upd H a o) a u=upd H a u:=by
 funext b;unfold upd;split<;>rfl
theorem RE{H:Hp}{b:Addr}{o u:HO}(h:H a=some o)(h':H b=some u)(d:o≠u):a≠b:=by
 intro e;subst e;rw[h]at h';exact d (cq h')
theorem G4{H:Hp}{b:Addr}{o:HO}(h:H a=some o)(h':H b=none):a≠b:=by
 intro e;subst e;rw[h]at h';cases h'
section
variable(P:Program)(w:World)
def dw(H:Hp)(h:Heap)(a:Addr):HO->Prop
 | .lst xs=>xs.length<=sizeLine/\∃(its:List Value) (n:Nat),Vals xs its/\h.get? a=some { cls:=.type "list",data:=.seq its.toArray n }
 | .tup xs=>xs.length<=sizeLine/\∃its:List Value,Vals xs its/\IsTup h a its.toArray
 | .dK kvs=>kvs.length<=sizeLine/\(a==sysModules)=false/\∃vs,KV kvs vs/\h.DictOf (CZ P w) a vs
 | .dT kvs=>kvs.length<=sizeLine/\(a==sysModules)=false/\∃xs:List (List Key×Addr×Value),
   Paired (λ(p:List Key×V) (q:List Key×Addr×Value)=>p.1=q.1/\H q.2.1=some (.tup (p.1.map kV))/\RelV p.2 q.2.2) kvs xs/\
   ∃o es ep,h.get? a=some o/\o.ExactDict/\o.data=.dict es ep/\es.toList=xs.map (entryOfKey (tupleKind (CZ P w)))/\(xs.map (·.1)).Nodup
 | .dF xs=>xs.length<=sizeLine/\(a==sysModules)=false/\∃o es ep,h.get? a=some o/\o.ExactDict/\o.data=.dict es ep/\es.toList=xs.map (λx=>entryOfKey (cY P w) (x.1,x.2,.bool true))/\(xs.map (·.1)).Nodup
 | .set S n=>h.SetOf (intKind P w) a S n
 | .own _=>∃o,h.get? a=some o
 | .kQ lo hi=>∃t u v,h.get? a=some { cls:=.type "range",data:=.fields #[.int lo t,.int hi u,.int 1 v] }
 | .bq o u=>h.get? a=some o/\dw H h a u
 | .qE ps=>h.get? a=some { cls:=.none,data:=.fields ps }
 | .ext tN=>tN h/\(∃o,h.get? a=some o)/\∀h1 h2:Heap,tN h1->(∀o,h1.get? a=some o->h2.get? a=some o)->tN h2
def eM(H:Hp)(h:Heap):Prop:=∀a o,H a=some o->dw P w H h a o
end
section
variable{H aa:Hp}{o:HO}
theorem dw.lt(x:dw P w H h a o):a<h.objs.size:=by
 cases o with
 | lst xs=>obtain⟨_,_,_,_,e⟩:=x;exact bh e
 | tup xs=>obtain⟨_,_,_,p⟩:=x;exact p.lt
 | dK kvs=>obtain⟨_,_,_,_,o,_,_,e,_⟩:=x;exact bh e
 | dT kvs=>obtain⟨_,_,_,_,o,_,_,e,_⟩:=x;exact bh e
 | dF kvs=>obtain⟨_,_,o,_,_,e,_⟩:=x;exact bh e
 | set S n=>obtain⟨o,_,_,_,e,_⟩:=x;exact bh e
 | own y=>obtain⟨_,e⟩:=x;exact bh e
 | kQ lo hi=>obtain⟨_,_,_,e⟩:=x;exact bh e
 | bq ob u=>obtain⟨e,_⟩:=x;exact bh e
 | qE ps=>exact bh (show h.get? a=some _ from x)
 | ext tN=>obtain⟨_,⟨_,e⟩,_⟩:=x;exact bh e
theorem Paired.Jw{F G:α->β->Prop}{Ju:List α}(h:Paired F Ju l₂)(f:∀a b,F a b->G a b):Paired G Ju l₂:=by
 induction h with
 | nil=>exact .nil
 | cons r t ih=>exact .cons (f _ _ r) ih
theorem dw.ku(x:dw P w H h a o)(k:∀b u,(b=a\/H b=some (.own a))->h.get? b=some u->h'.get? b=some u)(ho:∀b,H b=some (.own a)->aa b=some (.own a))(ht:∀b xs,H b=some (.tup xs)->aa b=some (.tup xs)):dw P w aa h' a o:=by
 induction o with
 | lst xs=>obtain⟨z,its,n,r,e⟩:=x;exact⟨z,its,n,r,k _ _ (.inl rfl) e⟩
 | tup xs=>obtain⟨z,its,r,ob,e,c⟩:=x;exact⟨z,its,r,ob,k _ _ (.inl rfl) e,c⟩
 | dK kvs=>obtain⟨z,y,vs,r,ob,es,ep,e,c⟩:=x;exact⟨z,y,vs,r,ob,es,ep,k _ _ (.inl rfl) e,c⟩
 | dT kvs=>
  obtain⟨z,y,xs,r,ob,es,ep,e,c⟩:=x;exact⟨z,y,xs,Paired.Jw r λp q z=>⟨z.1,ht _ _ z.2.1,z.2.2⟩,ob,es,ep,k _ _ (.inl rfl) e,c⟩
 | dF kvs=>obtain⟨z,y,ob,es,ep,e,c⟩:=x;exact⟨z,y,ob,es,ep,k _ _ (.inl rfl) e,c⟩
 | set S n=>obtain⟨ob,es,ep,t,e,c⟩:=x;exact⟨ob,es,ep,t,k _ _ (.inl rfl) e,c⟩
 | own y=>obtain⟨ob,e⟩:=x;exact⟨ob,k _ _ (.inl rfl) e⟩
 | kQ lo hi=>obtain⟨t,u,v,e⟩:=x;exact⟨t,u,v,k _ _ (.inl rfl) e⟩
 | bq ob u ih=>obtain⟨e,q⟩:=x;exact⟨k _ _ (.inl rfl) e,ih q⟩
 | qE ps=>
  have e:h.get? a=some { cls:=.none,data:=.fields ps }:=x;show h'.get? a=some { cls:=.none,data:=.fields ps };exact k a _ (.inl rfl) e
 | ext tN=>obtain⟨p,⟨o,e⟩,st⟩:=x;exact⟨st _ _ p λo q=>k _ _ (.inl rfl) q,⟨o,k _ _ (.inl rfl) e⟩,st⟩
theorem eM.lt(x:eM P w H h)(e:H a=some o):a<h.objs.size:=(x a o e).lt
theorem eM.fresh(x:eM P w H h)(e:h.objs.size<=a):H a=none:=by
 cases q:H a with
 | none=>rfl
 | some u=>exact absurd (hV (x.lt q) e) (hZ _)
theorem eM.kept(x:eM P w H h)(k:∀b u,h.get? b=some u->h'.get? b=some u):eM P w H h':=λa o e=>
 (x a o e).ku (λb u _ q=>k b u q) (λ_ q=>q) λ_ _ q=>q
theorem eM.laid(x:eM P w H h)(k:∀b u,h.get? b=some u->h'.get? b=some u)(hp:h.objs.size<=a)(new:dw P w (upd H a o) h' a o):eM P w (upd H a o) h':=λb u e=>by
 have hn:=x.fresh hp
 by_cases hb:b=a
 .subst hb;rw[DP]at e;cases e;exact new
 .rw[CK hb]at e
  exact(x b u e).ku (λc v _ q=>k c v q) (λc q=>by rw[CK (G4 q hn)];exact q) λc xs q=>by rw[CK (G4 q hn)];exact q
end
def Rd(H:Hp)(a:Addr)(u:HO):Prop:=H a=some u\/∃o,H a=some (.bq o u)
theorem Rd.ok{H:Hp}{u:HO}(r:Rd H a u)(x:eM P w H h):dw P w H h a u:=by
 rcases r with r | ⟨o,r⟩
 .exact x a u r
 .obtain⟨_,q⟩:=x a _ r
  exact q
def vz:Option HO->Prop
 | some (.lst _)=>True
 | some (.dK _)=>True
 | some (.dT _)=>True
 | some (.dF _)=>True
 | some (.set _ _)=>True
 | some (.ext _)=>True
 | _=>False
section
variable{H:Hp}{x e:Addr}{b5:HO}
theorem eM.write(ok:eM P w H h)(mu:vz (H x))(he:e=x\/H e=some (.own x))(k:∀b u,b≠e->h.get? b=some u->h'.get? b=some u)(ur:∃u,h'.get? e=some u)(new:dw P w (upd H x b5) h' x b5):eM P w (upd H x b5) h':=λb u q=>by
 have JU:∀c y,H c=some (.own y)->c≠x:=λc y r z=>by subst z;rw[r]at mu;exact mu
 have Xs:∀c xs,H c=some (.tup xs)->c≠x:=λc xs r z=>by subst z;rw[r]at mu;exact mu
 by_cases hb:b=x
 .subst hb;rw[DP]at q;cases q;exact new
 .rw[CK hb]at q
  by_cases sf:b=e
  .have cg:H b=some (.own x):=by
    rcases he with z | z
    .exact absurd (sf.trans z) hb
    .rw[sf];exact z
   rw[q]at cg;cases cg;obtain⟨v,hv⟩:=ur;exact⟨v,by rw[sf];exact hv⟩
  .refine(ok b u q).ku (λc v hc r=>k c v ?_ r) (λc r=>by rw[CK (JU c b r)];exact r) λc xs r=>by rw[CK (Xs c xs r)];exact r
   rcases hc with rfl | hc
   .exact sf
   .rintro rfl
    rcases he with z | z
    .exact JU c b hc z
    .rw[hc]at z;cases z;exact hb rfl
end
structure Un(fs ex:List Addr)(H aa:Hp)(h h':Heap):Prop where
 keep:∀b o,h.get? b=some o->H b=none->b∉fs->b∉ex->h'.get? b=some o
 slot:∀b o,h.get? b=some o->H b=none->b∈fs->b∉ex->∃sl,h'.get? b=some { o with slots:=sl }
 free:∀b o,h.get? b=some o->H b=none->b∉ex->aa b=none
 there:∀b o,h.get? b=some o->b∉ex->∃b5,h'.get? b=some b5
 l5:∀b xs,H b=some (.tup xs)->aa b=some (.tup xs)
 mv:∀b o u,H b=some (.bq o u)->aa b=some (.bq o u)
 og:∀b ps,H b=some (.qE ps)->∃more,aa b=some (.qE (ps++more))
section
variable{fs ud ex aae:List Addr}{H H1 H2:Hp}{h1 h2:Heap}{x e:Addr}{o:HO}
theorem Un.any(u:Un fs ex H H1 h h1){b:Addr}(q:h.get? b=some ob)(n:H b=none)(hx:b∉ex):∃sl,h1.get? b=some { ob with slots:=sl }:=by
 by_cases hb:b∈fs
 .exact u.slot b ob q n hb hx
 .exact⟨ob.slots,u.keep b ob q n hb hx⟩
theorem Un.kept(k:∀b u,h.get? b=some u->h'.get? b=some u):Un fs ex H H h h':=
 ⟨λb ob q _ _ _=>k b ob q,λb ob q _ _ _=>⟨ob.slots,k b ob q⟩,λ_ _ _ n _=>n,λb ob q _=>⟨ob,k b ob q⟩,λ_ _ q=>q,λ_ _ _ q=>q,λ_ ps q=>⟨#[],by rw[q];simp⟩⟩
theorem Un.refl:Un fs ex H H h h:=Un.kept λ_ _ q=>q
theorem Un.laid(k:∀b u,h.get? b=some u->h'.get? b=some u)(hp:h.objs.size<=a)(hn:H a=none):Un fs ex H (upd H a o) h h' where
 keep:=λb u q _ _ _=>k b u q
 slot:=λb u q _ _ _=>⟨u.slots,k b u q⟩
 free:=λb u q n _=>by rw[CK (cm (hV (bh q) hp))];exact n
 there:=λb u q _=>⟨u,k b u q⟩
 l5:=λb xs q=>by rw[CK (G4 q hn)];exact q
 mv:=λb u xs q=>by rw[CK (G4 q hn)];exact q
 og:=λb ps q=>⟨#[],by rw[CK (G4 q hn),q];simp⟩
theorem Un.write(mu:vz (H x))(he:e=x\/H e=some (.own x))(k:∀b u,b≠e->h.get? b=some u->h'.get? b=some u)(ur:∃u,h'.get? e=some u):Un fs ex H (upd H x o) h h':=by
 have hx:∀b,H b=none->b≠x:=λb n z=>by subst z;rw[n]at mu;exact mu
 have hb:∀b,H b=none->b≠e:=λb n z=>by
  subst z;rcases he with r | r
  .exact hx b n r
  .rw[n]at r;cases r
 have hm:∀b u,H b=some u->¬vz (some u)->b≠x:=λb u q nm z=>by subst z;rw[q]at mu;exact nm mu
 refine⟨λb u q n _ _=>k b u (hb b n) q,λb u q n _ _=>⟨u.slots,k b u (hb b n) q⟩,λb u q n _=>by rw[CK (hx b n)];exact n,λb u q _=>?_,
  λb xs q=>by rw[CK (hm b _ q λz=>z)];exact q,λb u xs q=>by rw[CK (hm b _ q λz=>z)];exact q,λb ps q=>⟨#[],by rw[CK (hm b _ q λz=>z),q];simp⟩⟩
 by_cases sf:b=e
 .subst sf;exact ur
 .exact⟨u,k b u sf q⟩
end
noncomputable def AK(h:Heap)(H:Hp):List Addr:=(List.range h.objs.size).filter λa=>(H a).isSome
noncomputable def lE(h:Heap)(H:Hp):Heap:=PySem.W.hideAll h (AK h H)
theorem yL(h:Heap)(H:Hp):(lE h H).objs.size=h.objs.size:=PySem.W.hideAll_size _ _
theorem LA{H:Hp}{b:Addr}{o:Obj}(e:h.get? b=some o)(n:H b=none):(lE h H).get? b=some o:=
 PySem.W.hideAll_get _ e λhm=>by
  have q:(H b).isSome=true:=(j3 hm).2;rw[n]at q;simp at q
theorem Nu{H:Hp}{b:Addr}{o:Obj}(e:(lE h H).get? b=some o):h.get? b=some o/\H b=none:=by
 have aE:h.get? b=some o:=PySem.W.of_hideAll (AK h H) e;refine⟨aE,?_⟩;cases q:H b with
 | none=>rfl
 | some x=>
  have hm:b∈AK h H:=List.mem_filter.mpr ⟨List.mem_range.mpr (bh aE),by simp[q]⟩;have z:(lE h H).get? b=none:=PySem.W.hideAll_none (AK h H) hm;rw[z]at e;cases e
noncomputable def UJ(g h:Heap)(L:Addr):List (Addr×Obj):=(List.range h.objs.size).filterMap λa=>if a=L\/(g.get? a).isSome=true then none else (h.get? a).map λo=>(a,o)
theorem ZC{g:Heap}{o:Obj}(h1:a≠L)(h2:g.get? a=none)(h3:h.get? a=some o):(a,o)∈UJ g h L:=
 List.mem_filterMap.mpr ⟨a,List.mem_range.mpr (bh h3),by simp[h1,h2,h3]⟩
theorem cM{g:Heap}{p:Addr×Obj}(hp:p∈UJ g h L):p.1≠L/\g.get? p.1=none/\h.get? p.1=some p.2:=by
 obtain⟨b,_,e⟩:=List.mem_filterMap.mp hp;split at e
 .cases e
 .rename_i hn
  cases q:h.get? b with
  | none=>rw[q]at e;simp at e
  | some u=>
   rw[q]at e;simp only[jh,Option.some.injEq]at e;subst e;refine⟨λz=>hn (.inl z),?_,q⟩;show g.get? b=none;cases r:g.get? b with
   | none=>rfl
   | some v=>exact(hn (.inr (by simp[r]))).elim
noncomputable def rest(g h:Heap)(L d:Addr):List (Addr×Obj):=(UJ g h L).filter λp=>decide (p.1≠d)
theorem Ls{g:Heap}{L:Addr}:News g L h (UJ g h L):=λp hp=>let ⟨a,b,c⟩:=cM hp;⟨c,a,b⟩
end L2
variable{H aa:L2.Hp}
namespace L2
open PySem PySem.Spec PyProof.Rows
structure Mod(K:p4)(mg:Str->Option Value)(base:Heap):Prop where
 Dx:K.In base
 glob:base.Ns mainGlobals mg
 blt:∃mb,base.Ns builtinsNs mb/\∀x:Str,x≠"__name__"->mb x=bootBuiltins x
 nolimit:base.NoLimit
structure Cx where
 prog:Program
 w:World
 K:p4
 mg:Str->Option Value
 base:Heap
 A:Around
 N:List Str
 bx:Shared
 cx:Hp
 env:Env
 outer:List Env
 stack:List Env
 ex:List Addr
 fn:Str->Bool
 calm:Bool
 pn:List (Addr×Obj)
 xe:Value->Shared->Prop
noncomputable def mr(l:List Env):List Addr:=l.filterMap (·.frame)
noncomputable abbrev Cx.fs (X:Cx):List Addr:=mr X.outer
def zf(sc:Scope)(x:Str):Prop:=sc.names.lookup x=some .local\/sc.names.lookup x=some .cell\/sc.names.lookup x=some .free
def Loc(sc:Scope)(x:Str):Prop:=sc.names.lookup x=some .local\/sc.names.lookup x=some .cell
def Look(env:Env)(h:Heap)(m:Str->Option Value)(x:Str)(u:Value):Prop:=
 (env.kindOf x=some .local/\m x=some u)\/((env.kindOf x=some .cell\/env.kindOf x=some .free)/\∃c,env.cells.lookup x=some c/\h.IsCell c (some u))
structure Cx.Ok(X:Cx):Prop where
 mod:Mod X.K X.mg X.base
 kind:X.env.scope.kind=.function
 glob:X.env.globals=mainGlobals
 blt:X.env.builtins=builtinsNs
 above:X.bx.heap.objs.size<=X.env.locals
 inj:∀x y c,X.env.cells.lookup x=some c->X.env.cells.lookup y=some c->x=y
 has:∀x,(X.env.kindOf x=some .cell\/X.env.kindOf x=some .free)->∃c,X.env.cells.lookup x=some c
 v5:∀x c,X.fn x=true->X.env.cells.lookup x=some c->X.bx.heap.objs.size<=c
 hd:X.calm=true->X.A.handled=none
 frames:X.A.frames=some X.stack
 AF:X.stack=X.outer\/(X.stack=X.env::X.outer/\X.env.frame=some X.env.locals)
 Hy:∀b∈X.ex,b≠X.env.locals/\∀x c,X.env.cells.lookup x=some c->c≠b
 bs:∀b o,X.base.get? b=some o->X.bx.heap.get? b=some o/\X.cx b=none
 qb:X.base.objs.size<=X.bx.heap.objs.size
 yb:∀b o,X.base.get? b=some o->b∉X.ex
 zj:∀b∈X.ex,b∉X.fs
 mA:X.bx.heap.FunFrames X.base X.outer
 uc:∀b∈X.fs,X.cx b=none
structure Inv(X:Cx)(pi:List (Addr×Obj))(σ:List (Option V))(H:Hp)(s:Shared):Prop where
 ok:X.Ok
 os:s.os=X.bx.os
 bare:AllBare s.gens
 base:Un X.fs X.ex X.cx H X.bx.heap s.heap
 loc:∃m,s.heap.Ns X.env.locals m/\∀(i:Nat) (x:Str) (v:V),X.N[i]?=some x->σ[i]?=some (some v)->zf X.env.scope x->∃u,RelV v u/\Look X.env s.heap m x u
 cell:∀x c,X.env.cells.lookup x=some c->∃v,s.heap.IsCell c v
 free:H X.env.locals=none
 lg:∀x c,X.env.cells.lookup x=some c->H c=none
 pin:∀p∈X.pn++pi,s.heap.get? p.1=some p.2/\H p.1=none/\p.1≠X.env.locals/\p.1∉X.fs/\∀v,p.2.data≠.cell v
 aS:eM X.prog X.w H s.heap
 len:σ.length=X.N.length
section
variable{X:Cx}{σ:List (Option V)}
theorem Cx.Ok.Xn(ok:X.Ok){b:Addr}{o:Obj}(e:X.base.get? b=some o):b∉X.fs:=λhb=>by
 have:=(ok.mA.mem hb).1;rw[e]at this;cases this
theorem Inv.bs(I:Inv X pi σ H s):∀b o,X.base.get? b=some o->s.heap.get? b=some o/\H b=none:=λb o e=>
 ⟨I.base.keep b o (I.ok.bs b o e).1 (I.ok.bs b o e).2 (I.ok.Xn e) (I.ok.yb b o e),I.base.free b o (I.ok.bs b o e).1 (I.ok.bs b o e).2 (I.ok.yb b o e)⟩
theorem Inv.bk(I:Inv X pi σ H s):∀b o,X.base.get? b=some o->s.heap.get? b=some o:=λb o e=>(I.bs b o e).1
theorem Inv.mod(I:Inv X pi σ H s):Mod X.K X.mg X.base:=I.ok.mod
theorem Inv.sL(I:Inv X pi σ H s):X.K.In s.heap:=I.ok.mod.Dx.keeps I.bk
theorem Inv.lt(I:Inv X pi σ H s):X.env.locals<s.heap.objs.size:=by
 obtain⟨_,hn,_⟩:=I.loc;exact hn.lt
theorem Inv.sz(I:Inv X pi σ H s):X.bx.heap.objs.size<=s.heap.objs.size:=eJ I.ok.above (ml I.lt)
theorem Inv.Xp(I:Inv X pi σ H s)(h:s.heap.objs.size<=a):a∉X.fs:=λhb=>by
 obtain⟨_,o,ho,_⟩:=I.ok.mA.mem hb;exact absurd (hV (bh ho) (eJ I.sz h)) (hZ _)
theorem Inv.rk(I:Inv X pi σ H s):∀x c,X.env.cells.lookup x=some c->c≠X.env.locals:=λx c e z=>by
 obtain⟨v,o,ho,hd⟩:=I.cell x c e;obtain⟨m,⟨b5,es,ep,gV,d6,_⟩,_⟩:=I.loc;rw[z,gV]at ho;cases ho;rw[d6]at hd;cases hd
theorem Inv.mA(I:Inv X pi σ H s):s.heap.FunFrames X.base X.outer:=by
 have all:∀(l:List Env),(∀b∈mr l,b∈X.fs)->X.bx.heap.FunFrames X.base l->s.heap.FunFrames X.base l:=by
  intro l
  induction l with
  | nil=>intro _ _;trivial
  | cons env r ih=>
   intro hs hl;obtain⟨hk,⟨L,o,hf,hn,ho,hd⟩,hr⟩:=hl;have hL:L∈X.fs:=hs L (by unfold mr;rw[List.filterMap_cons,hf];exact b0);obtain⟨sl,e⟩:=I.base.slot L o ho (I.ok.uc L hL) hL λz=>I.ok.zj L z hL
   exact⟨hk,⟨L,_,hf,hn,e,hd⟩,ih (λb hb=>hs b (by unfold mr;rw[List.filterMap_cons,hf];exact b7 _ hb)) hr⟩
 exact all X.outer (λ_ hb=>hb) I.ok.mA
theorem Inv.stack(I:Inv X pi σ H s):s.heap.FunFrames X.base X.stack:=by
 rcases I.ok.AF with e | ⟨e,hf⟩
 .rw[e];exact I.mA
 .rw[e]
  obtain⟨m,hn,_⟩:=I.loc;refine .cons (by rw[I.ok.kind];decide) hf hn ?_ I.mA;exact Heap.get?_none_of_le (eJ I.ok.qb I.ok.above)
theorem Inv.AG(I:Inv X pi σ H s):∀b∈mr X.stack,b∈X.env.locals::X.fs:=λb hb=>by
 rcases I.ok.AF with e | ⟨e,hf⟩
 .rw[e]at hb;exact b7 _ hb
 .rw[e]at hb
  unfold mr at hb;rw[List.filterMap_cons,hf]at hb;exact hb
theorem Inv.Kq(I:Inv X pi σ H s):∀b∈mr X.stack,H b=none:=λb hb=>by
 rcases ck (I.AG b hb) with e | hb
 .rw[e];exact I.free
 .obtain⟨_,o,ho,_⟩:=I.ok.mA.mem hb
  exact I.base.free b o ho (I.ok.uc b hb) λz=>I.ok.zj b z hb
theorem Inv.step{g':Array GenState}{d':Drawn}(I:Inv X pi σ H s)(nN:∀b∈ch,(b∈X.ex\/X.bx.heap.objs.size<=b)/\b≠X.env.locals/\(∀x c,X.env.cells.lookup x=some c->c≠b)/\∀p∈X.pn++pi,p.1≠b)(keep:∀b o,b≠X.env.locals->b∉X.fs->b∉ch->s.heap.get? b=some o->H b=none->h'.get? b=some o)(slot:∀b o,b≠X.env.locals->b∈X.fs->b∉ch->s.heap.get? b=some o->H b=none->∃sl,h'.get? b=some { o with slots:=sl })(free:∀b o,b∉ch->s.heap.get? b=some o->H b=none->aa b=none)(there:∀b o,b∉ch->s.heap.get? b=some o->∃b5,h'.get? b=some b5)(l5:∀b xs,H b=some (.tup xs)->aa b=some (.tup xs))(mv:∀b o u,H b=some (.bq o u)->aa b=some (.bq o u))(og:∀b ps,H b=some (.qE ps)->∃more,aa b=some (.qE (ps++more)))(ns:∀m,s.heap.Ns X.env.locals m->h'.Ns X.env.locals m)(aS:eM X.prog X.w aa h')(hg:AllBare g') :
  Inv X pi σ aa { s with heap:=h',gens:=g',drawn:=d',toks:=t' }:=by
 have JO:∀b o,X.bx.heap.get? b=some o->b≠X.env.locals:=λb o e=>cm (hV (bh e) I.ok.above)
 have Aw:∀b o,X.bx.heap.get? b=some o->b∉X.ex->b∉ch:=λb o e hx hb=>by
  rcases(nN b hb).1 with z | z
  .exact hx z
  .exact absurd (hV (bh e) z) (hZ _)
 have cellK:∀x c,X.env.cells.lookup x=some c->∀v,s.heap.IsCell c v->h'.IsCell c v:=λx c e v ah=>by
  obtain⟨o,ho,hd⟩:=ah;have xN:c∉ch:=λz=>(nN c z).2.2.1 x c e rfl
  by_cases hc:c∈X.fs
  .obtain⟨sl,q⟩:=slot c o (I.rk x c e) hc xN ho (I.lg x c e)
   exact⟨_,q,hd⟩
  .exact⟨o,keep c o (I.rk x c e) hc xN ho (I.lg x c e),hd⟩
 refine⟨I.ok,I.os,hg,⟨λb o e n hb hx=>?_,λb o e n hb hx=>?_,λb o e n hx=>?_,λb o e hx=>?_,λb xs e=>l5 b xs (I.base.l5 b xs e),λb o xs e=>mv b o xs (I.base.mv b o xs e),λb ps e=>?_⟩,?_,λx c e=>?_,?_,λx c e=>?_,λp hp=>?_,aS,I.len⟩
 .exact keep b o (JO b o e) hb (Aw b o e hx) (I.base.keep b o e n hb hx) (I.base.free b o e n hx)
 .obtain⟨sl,e1⟩:=I.base.slot b o e n hb hx
  obtain⟨Ys,e2⟩:=slot b _ (JO b o e) hb (Aw b o e hx) e1 (I.base.free b o e n hx);exact⟨Ys,e2⟩
 .obtain⟨b5,e1⟩:=I.base.there b o e hx
  exact free b b5 (Aw b o e hx) e1 (I.base.free b o e n hx)
 .obtain⟨b5,e1⟩:=I.base.there b o e hx
  exact there b b5 (Aw b o e hx) e1
 .obtain⟨m1,e1⟩:=I.base.og b ps e
  obtain⟨m2,e2⟩:=og b _ e1;exact⟨m1++m2,by rw[e2,Array.append_assoc]⟩
 .obtain⟨m,hn,hl⟩:=I.loc
  refine⟨m,ns m hn,λi x v e1 e2 e3=>?_⟩;obtain⟨u,r,l⟩:=hl i x v e1 e2 e3;refine⟨u,r,?_⟩;rcases l with l | ⟨k,c,e,z⟩
  .exact .inl l
  .exact .inr ⟨k,c,e,cellK x c e _ z⟩
 .obtain⟨v,z⟩:=I.cell x c e
  exact⟨v,cellK x c e v z⟩
 .obtain⟨m,⟨o,_,_,ho,_⟩,_⟩:=I.loc
  exact free _ o (λz=>(nN _ z).2.1 rfl) ho I.free
 .obtain⟨v,o,ho,hd⟩:=I.cell x c e
  exact free c o (λz=>(nN c z).2.2.1 x c e rfl) ho (I.lg x c e)
 .obtain⟨e,n,ne,nf,d⟩:=I.pin p hp
  have xN:p.1∉ch:=λz=>(nN p.1 z).2.2.2 p hp rfl
  exact⟨keep p.1 p.2 ne nf xN e n,free p.1 p.2 xN e n,ne,nf,d⟩
theorem Inv.un(I:Inv X pi σ H s)(u:Un X.fs [] H aa s.heap h')(aS:eM X.prog X.w aa h'):Inv X pi σ aa { s with heap:=h',toks:=t' }:=by
 obtain⟨m,⟨o,es,ep,ho,r⟩,_⟩:=id I.loc;obtain⟨sl,hL⟩:=u.any ho I.free (by simp);exact I.step (g':=s.gens) (d':=s.drawn) (ch:=[]) (λ_ z=>nomatch z) (λb o _ hb _ e n=>u.keep b o e n hb (by simp)) (λb o _ hb _ e n=>u.slot b o e n hb (by simp)) (λb o _ e n=>u.free b o e n (by simp)) (λb o _ e=>u.there b o e (by simp)) u.l5 u.mv u.og (λaf hm=>by
  obtain⟨b5,iX,jq,gV,bE⟩:=hm;rw[ho]at gV;cases gV;exact⟨_,iX,jq,hL,bE⟩) aS I.bare
theorem Inv.call{g':Array GenState}{d':Drawn}(I:Inv X pi σ H s)(u:Un (mr X.stack) ch H aa s.heap h')(aS:eM X.prog X.w aa h')(hg:AllBare g')(nN:∀b∈ch,(b∈X.ex\/X.bx.heap.objs.size<=b)/\b≠X.env.locals/\(∀x c,X.env.cells.lookup x=some c->c≠b)/\∀p∈X.pn++pi,p.1≠b) :
  Inv X pi σ aa { s with heap:=h',gens:=g',drawn:=d',toks:=t' }:=by
 obtain⟨m,⟨o,es,ep,ho,r⟩,_⟩:=id I.loc;obtain⟨sl,hL⟩:=u.any ho I.free λz=>(nN _ z).2.1 rfl
 exact I.step (ch:=ch) nN (λb o hL hb hc e n=>u.keep b o e n (λz=>(ck (I.AG b z)).elim hL hb) hc) (λb o _ _ hc e n=>u.any e n hc) (λb o hc e n=>u.free b o e n hc) (λb o hc e=>u.there b o e hc) u.l5 u.mv u.og (λaf hm=>by
  obtain⟨b5,iX,jq,gV,bE⟩:=hm;rw[ho]at gV;cases gV;exact⟨_,iX,jq,hL,bE⟩) aS hg
theorem Inv.turned(I:Inv X pi σ H s)(k:∀b o,b≠it->s.heap.get? b=some o->h'.get? b=some o)(hn:H it=none)(hL:it≠X.env.locals)(h1:it∈X.ex\/X.bx.heap.objs.size<=it)(h2:∀x c,X.env.cells.lookup x=some c->c≠it)(h3:∀p∈X.pn++pi,p.1≠it):Inv X pi σ H { s with heap:=h',toks:=t' }:=by
 have JP:∀b u,H b=some u->b≠it:=λb u e z=>by rw[z,hn]at e;cases e
 refine I.step (g':=s.gens) (d':=s.drawn) (ch:=[it]) (λb hb=>?_) (λb o _ _ hc e _=>k b o (λz=>hc (by simp[z])) e) (λb o _ _ hc e _=>⟨o.slots,k b o (λz=>hc (by simp[z])) e⟩) (λ_ _ _ _ n=>n)
  (λb o hc e=>⟨o,k b o (λz=>hc (by simp[z])) e⟩) (λ_ _ e=>e) (λ_ _ _ e=>e) (λb ps e=>⟨#[],by rw[e];simp⟩) (λm hm=>?_) (λb u e=>?_) I.bare
 .have e:b=it:=by simpa using hb
  subst e;exact⟨h1,hL,h2,h3⟩
 .obtain⟨o,es,ep,ho,r⟩:=hm
  exact⟨o,es,ep,k _ o (Ne.symm hL) ho,r⟩
 .refine(I.aS b u e).ku (λc v hc q=>k c v ?_ q) (λ_ q=>q) λ_ _ q=>q
  rcases hc with z | z
  .rw[z];exact JP b u e
  .exact JP c _ z
theorem Inv.tok(I:Inv X pi σ H s)(t:Nat):Inv X pi σ H { s with toks:=t }:=I.un (h':=s.heap) (t':=t) Un.refl I.aS
theorem Inv.kept{t':Nat}(I:Inv X pi σ H s)(k:∀b u,s.heap.get? b=some u->h'.get? b=some u):Inv X pi σ H { s with heap:=h',toks:=t' }:=I.un (Un.kept k) (I.aS.kept k)
theorem Inv.laid{a:Addr}{o:HO}{t':Nat}(I:Inv X pi σ H s)(k:∀b u,s.heap.get? b=some u->h'.get? b=some u)(hp:s.heap.objs.size<=a)(new:dw X.prog X.w (upd H a o) h' a o):
  Inv X pi σ (upd H a o) { s with heap:=h',toks:=t' }:=I.un (Un.laid k hp (I.aS.fresh hp)) (I.aS.laid k hp new)
theorem Inv.write{x e:Addr}{o:HO}(I:Inv X pi σ H s)(mu:vz (H x))(he:e=x\/H e=some (.own x))(k:∀b u,b≠e->s.heap.get? b=some u->h'.get? b=some u)(ur:∃u,h'.get? e=some u)(new:dw X.prog X.w (upd H x o) h' x o):Inv X pi σ (upd H x o) { s with heap:=h',toks:=t' }:=I.un (Un.write mu he k ur) (I.aS.write mu he k ur new)
theorem Inv.Kb(I:Inv X pi σ H s)(h:∀p∈Ka,s.heap.get? p.1=some p.2/\H p.1=none/\p.1≠X.env.locals/\p.1∉X.fs/\∀v,p.2.data≠.cell v):Inv X Ka σ H s:=
 ⟨I.ok,I.os,I.bare,I.base,I.loc,I.cell,I.free,I.lg,λp hp=>(cz hp).elim (λz=>I.pin p (iu _ z)) (h p),I.aS,I.len⟩
theorem oN(hN:N.Nodup)(a:N[i]?=some x)(b:N[j]?=some x):i=j:=by
 obtain⟨h1,e1⟩:=List.getElem?_eq_some_iff.mp a;obtain⟨h2,e2⟩:=List.getElem?_eq_some_iff.mp b;exact(List.getElem_inj hN).mp (e1.trans e2.symm)
theorem gG{M:Model}{v:V}{Q:Unit->Shared->Prop}(I:Inv X pi σ H s)(hN:X.N.Nodup)(hi:X.N[i]?=some x)(hx:Loc X.env.scope x)(r:RelV v u)(h:∀s',Inv X pi (σ.set i (some v)) H s'->(∃a,Heap.SameBut a s.heap s'.heap/\(a=X.env.locals\/X.env.cells.lookup x=some a))->Q () s')(hf:X.fn x=true\/X.env.scope.names.lookup x=some .local:=by first | exact .inl rfl | exact .inr rfl | assumption):wpAny M A (storeName X.env x u) Q E s:=by
 obtain⟨m,hn,hl⟩:=id I.loc;have UN:(X.env.scope.kind==.class||(X.env.scope.kind==.module&&X.env.locals != X.env.globals))=false:=by rw[I.ok.kind];rfl
 have Iz:i<σ.length:=by rw[I.len];exact(List.getElem?_eq_some_iff.mp hi).1
 have rk:=I.rk;have tracked:∀{a:Addr} {h':Heap},(∃o,s.heap.get? a=some o/\H a=none)->Heap.SameBut a s.heap h'->eM X.prog X.w H h':=λ {a h'} ha hs b ob e=>by
  obtain⟨_,_,uu⟩:=ha;refine(I.aS b ob e).ku (λc gj hc q=>(hs.2 c ?_).trans q) (λ_ q=>q) λ_ _ q=>q
  rintro rfl;rcases hc with rfl | hc
  .rw[uu]at e;cases e
  .rw[uu]at hc;cases hc
 rcases hx with hk | hk
 .refine wpAny_storeName_local hk hn (λh' lu hs=>?_) UN
  obtain⟨oL,_,_,xj,_⟩:=id hn;refine h _ ⟨I.ok,I.os,I.bare,⟨λb o e n hb hx=>?_,λb o e n hb hx=>?_,I.base.free,λb o e hx=>?_,I.base.l5,I.base.mv,I.base.og⟩,⟨_,lu,λj y yk e1 e2 e3=>?_⟩,λy c e=>?_,I.free,I.lg,λp hp=>?_,tracked ⟨oL,xj,I.free⟩ hs,by simpa using I.len⟩ ⟨_,hs,.inl rfl⟩
  .exact(hs.2 b (cm (hV (bh e) I.ok.above))).trans (I.base.keep b o e n hb hx)
  .obtain⟨sl,e1⟩:=I.base.slot b o e n hb hx
   exact⟨sl,(hs.2 b (cm (hV (bh e) I.ok.above))).trans e1⟩
  .obtain⟨b5,e1⟩:=I.base.there b o e hx
   exact⟨b5,(hs.2 b (cm (hV (bh e) I.ok.above))).trans e1⟩
  .by_cases hj:j=i
   .subst hj
    rw[hi]at e1;cases e1;rw[List.getElem?_set_self Iz]at e2;cases e2;exact⟨u,r,.inl ⟨hk,by simp⟩⟩
   .rw[List.getElem?_set_ne (Ne.symm hj)]at e2
    obtain⟨g9,bE,q⟩:=hl j y yk e1 e2 e3;refine⟨g9,bE,?_⟩;rcases q with ⟨k,e⟩ | ⟨k,c,e,z⟩
    .refine .inl ⟨k,?_⟩
     have:y≠x:=λe=>hj (oN hN e1 (e▸hi))
     simp[this,e]
    .exact .inr ⟨k,c,e,z.sameBut hs (rk y c e)⟩
  .obtain⟨gj,z⟩:=I.cell y c e
   exact⟨gj,z.sameBut hs (rk y c e)⟩
  .obtain⟨e,n,ne,nf,d⟩:=I.pin p hp
   exact⟨(hs.2 p.1 ne).trans e,n,ne,nf,d⟩
 .have Cy:X.fn x=true:=by
   rcases hf with z | z
   .exact z
   .rw[z]at hk;cases hk
  obtain⟨c,hc⟩:=I.ok.has x (.inl hk);obtain⟨gj,z⟩:=I.cell x c hc;refine wpAny_storeName_cell I.ok.kind hk hc z (λh' sg hs=>?_);obtain⟨oc,IL,Vx⟩:=id z;refine h { s with heap:=h' } ⟨I.ok,I.os,I.bare,⟨λb o e n hb hx=>?_,λb o e n hb hx=>?_,I.base.free,λb o e hx=>?_,I.base.l5,I.base.mv,I.base.og⟩,⟨m,hn.sameBut hs (Ne.symm (rk x c hc)),λj y yk e1 e2 e3=>?_⟩,λy df e=>?_,I.free,I.lg,λp hp=>?_,tracked ⟨oc,IL,I.lg x c hc⟩ hs,by simpa using I.len⟩ ⟨c,hs,.inr hc⟩
  .exact(hs.2 b (cm (hV (bh e) (I.ok.v5 x c Cy hc)))).trans (I.base.keep b o e n hb hx)
  .obtain⟨sl,e1⟩:=I.base.slot b o e n hb hx
   exact⟨sl,(hs.2 b (cm (hV (bh e) (I.ok.v5 x c Cy hc)))).trans e1⟩
  .obtain⟨b5,e1⟩:=I.base.there b o e hx
   exact⟨b5,(hs.2 b (cm (hV (bh e) (I.ok.v5 x c Cy hc)))).trans e1⟩
  .by_cases hj:j=i
   .subst hj
    rw[hi]at e1;cases e1;rw[List.getElem?_set_self Iz]at e2;cases e2;exact⟨u,r,.inr ⟨.inl hk,c,hc,sg⟩⟩
   .rw[List.getElem?_set_ne (Ne.symm hj)]at e2
    obtain⟨g9,bE,q⟩:=hl j y yk e1 e2 e3;refine⟨g9,bE,?_⟩;rcases q with q | ⟨k,df,e,c6⟩
    .exact .inl q
    .refine .inr ⟨k,df,e,c6.sameBut hs ?_⟩
     rintro rfl;exact hj (oN hN e1 (I.ok.inj _ _ _ e hc▸hi))
  .by_cases km:df=c
   .subst km;exact⟨_,sg⟩
   .obtain⟨w2,z2⟩:=I.cell y df e
    exact⟨w2,z2.sameBut hs km⟩
  .obtain⟨e,n,ne,nf,d⟩:=I.pin p hp
   refine⟨(hs.2 p.1 ?_).trans e,n,ne,nf,d⟩;intro q;rw[q,IL]at e;have cg:oc=p.2:=cq e;exact d gj (by rw[<-cg];exact Vx)
theorem nG{M:Model}{v:V}{Q:Unit->Shared->Prop}(I:Inv X pi σ H s)(hN:X.N.Nodup)(hi:X.N[i]?=some x)(hx:Loc X.env.scope x)(r:RelV v u)(h:∀s',Inv X pi (σ.set i (some v)) H s'->Q () s')(hf:X.fn x=true\/X.env.scope.names.lookup x=some .local:=by first | exact .inl rfl | exact .inr rfl | assumption):wpAny M A (storeName X.env x u) Q E s:=
 gG I hN hi hx r (λs' iq _=>h s' iq) hf
theorem Inv.Tq{s':Shared}(I:Inv X pi σ H s)(ho:s'.os=s.os)(u:Un (mr X.stack) ch H aa s.heap s'.heap)(aS:eM X.prog X.w aa s'.heap)(hg:AllBare s'.gens)(nN:∀b∈ch,(b∈X.ex\/X.bx.heap.objs.size<=b)/\b≠X.env.locals/\(∀x c,X.env.cells.lookup x=some c->c≠b)/\∀p∈X.pn++pi,p.1≠b):Inv X pi σ aa s':=by
 obtain⟨h',g',d',t',b5⟩:=s';have e:b5=s.os:=ho;subst e;exact I.call (g':=g') (t':=t') (d':=d') u aS hg nN
end
abbrev XK:=Value->Option Addr->Hp->Prop
abbrev St:=List (Option V)
abbrev VK:=V->Hp->Prop
abbrev TE:=St->Hp->VK->Prop
abbrev TT:=St->Hp->(Bool->Hp->Prop)->Prop
abbrev TA:=St->Hp->(List V->Hp->Prop)->Prop
structure Ends where
 nx:St->Hp->Prop
 rt:VK
 bk:St->Hp->Prop:=λ_ _=>False
 ct:St->Hp->Prop:=λ_ _=>False
abbrev TS:=Ends->St->Hp->Prop
def EP(X:Cx)(pi:List (Addr×Obj))(σ:St)(Q:VK)(u:Value)(s':Shared):Prop:=∃v aa,Inv X pi σ aa s'/\RelV v u/\Q v aa
def TP(X:Cx)(pi:List (Addr×Obj))(σ:St)(Q:Bool->Hp->Prop)(b:Bool)(s':Shared):Prop:=∃aa,Inv X pi σ aa s'/\Q b aa
def AP(X:Cx)(pi:List (Addr×Obj))(σ:St)(Q:List V->Hp->Prop)(us:List Value)(s':Shared):Prop:=∃vs aa,Inv X pi σ aa s'/\Vals vs us/\Q vs aa
def SP(X:Cx)(pi:List (Addr×Obj))(D:Ends)(f:Flow)(s':Shared):Prop:=
 match f with
 | .next=>∃σ' aa,Inv X pi σ' aa s'/\D.nx σ' aa
 | .brk=>∃σ' aa,Inv X pi σ' aa s'/\D.bk σ' aa
 | .cont=>∃σ' aa,Inv X pi σ' aa s'/\D.ct σ' aa
 | .ret u=>∃v σ' aa,Inv X pi σ' aa s'/\RelV v u/\D.rt v aa
def PE(X:Cx)(e:Expr)(t:TE):Prop:=
 ∀(pi:List (Addr×Obj)) (s:Shared) (σ:St) (H:Hp) (Q:VK),Inv X pi σ H s->t σ H Q->wpAny (model X.prog X.w) X.A (eval e X.env) (EP X pi σ Q) X.xe s
def PT(X:Cx)(e:Expr)(t:TT):Prop:=
 ∀(pi:List (Addr×Obj)) (s:Shared) (σ:St) (H:Hp) (Q:Bool->Hp->Prop),Inv X pi σ H s->t σ H Q->wpAny (model X.prog X.w) X.A (isTrue e X.env (eval e X.env)) (TP X pi σ Q) X.xe s
def PW(X:Cx)(e:Expr)(t:TT):Prop:=
 ∀(whole:Sem Value) (pi:List (Addr×Obj)) (s:Shared) (σ:St) (H:Hp) (Q:Bool->Hp->Prop),Inv X pi σ H s->t σ H Q->wpAny (model X.prog X.w) X.A (isTrue e X.env whole) (TP X pi σ Q) X.xe s
theorem PW.pt(h:PW X e t):PT X e t:=h _
def PA(X:Cx)(es:List Expr)(t:TA):Prop:=
 ∀(pos:Pos) (pi:List (Addr×Obj)) (s:Shared) (σ:St) (H:Hp) (Q:List V->Hp->Prop),Inv X pi σ H s->t σ H Q->wpAny (model X.prog X.w) X.A (spliced (backTo pos (starEach es X.env))) (AP X pi σ Q) X.xe s
def PS(X:Cx)(st:Stmt)(t:TS):Prop:=
 ∀(pi:List (Addr×Obj)) (s:Shared) (σ:St) (H:Hp) (D:Ends),Inv X pi σ H s->t D σ H->wpAny (model X.prog X.w) X.A (exec st X.env) (SP X pi D) X.xe s
def eP(X:Cx)(st:List Stmt)(t:TS):Prop:=
 ∀(pi:List (Addr×Obj)) (s:Shared) (σ:St) (H:Hp) (D:Ends),Inv X pi σ H s->t D σ H->wpAny (model X.prog X.w) X.A (execs st X.env) (SP X pi D) X.xe s
theorem a9{t:Sem α}{Q nj:α->Shared->Prop}{M:Model}(h:wpAny M A t Q E s)(hQ:∀a s,Q a s->nj a s):wpAny M A t nj E s:=ff h hQ λ_ _ x=>x
end L2
variable{X:L2.Cx}{r:List L2.V->L2.Hp->L2.VK->Prop}{ta tb td te:L2.TE}{σ:L2.St}
namespace L2
open PySem PySem.Spec PyProof.Rows
section
theorem bin{a:Expr}(ha:PE X a ta)(hb:PE X b tb){R:V->V->Hp->Prop}(I:Inv X pi σ H s)(h:ta σ H λx H1=>tb σ H1 λy H2=>R x y H2){Q:α->Shared->Prop}{f:Value->Value->Sem α}(hf:∀v u s2 x y H2,Inv X pi σ H2 s2->RelV x v->RelV y u->R x y H2->wpAny (model X.prog X.w) X.A (f v u) Q X.xe s2) :
  wpAny (model X.prog X.w) X.A (eval a X.env) (λv bc=>wpAny (model X.prog X.w) X.A (eval b X.env) (λu cS=>wpAny (model X.prog X.w) X.A (f v u) Q X.xe cS) X.xe bc) X.xe s:=by
 refine a9 (ha pi s σ H _ I h) λv s1 ah=>?_
 obtain⟨x,H1,I1,r1,q1⟩:=ah;refine a9 (hb pi s1 σ H1 _ I1 q1) λu s2 ah=>?_
 obtain⟨y,H2,I2,r2,q2⟩:=ah;exact hf v u s2 x y H2 I2 r1 r2 q2
def RV(i:Nat):TE:=λ σ H Q=>∃v,σ[i]?=some (some v)/\Q v H
def tC(v:V):TE:=λ_ H Q=>Q v H
theorem P0(hN:X.N[i]?=some x)(hv:zf X.env.scope x)(hd:(x==("__debug__" : Str))=false:=by decide)(jt:(x==("__classdict__" : Str))=false:=by decide):PE X (.Name x pos) (RV i):=by
 intro pi s σ H Q I h;obtain⟨v,e,h⟩:=h;obtain⟨m,hn,hl⟩:=I.loc;obtain⟨u,r,l⟩:=hl i x v hN e hv;have fin:EP X pi σ Q u s:=⟨v,H,I,r,h⟩
 rcases l with ⟨hk,hm⟩ | ⟨hk,c,hc,Il⟩
 .exact wpAny_Name (wpAny_loadName_local I.ok.kind hk hn hm fin) hd
 .rcases hk with hk | hk
  .exact wpAny_Name (wpAny_loadName_cell I.ok.kind hk hc Il fin) hd
  .exact wpAny_Name (wpAny_loadName_free I.ok.kind hk hc Il fin jt) hd
theorem EU{i j pos}:PE X (.Constant (.int i) j pos) (tC (.int i)):=λ_ _ _ H _ I h=>wpAny_Constant_int ⟨.int i,H,I.tok _,⟨_,rfl⟩,h⟩
theorem F3{b j pos}:PE X (.Constant (.bool b) j pos) (tC (.bl b)):=λ_ _ _ H _ I h=>Constant_bool ⟨.bl b,H,I,rfl,h⟩
theorem P1{j pos}:PE X (.Constant .none j pos) (tC .au):=λ_ _ _ H _ I h=>Constant_none ⟨.au,H,I,rfl,h⟩
theorem PZ{x j pos}:PE X (.Constant (.str x) j pos) (tC (.str x)):=λ_ _ _ H _ I h=>Calls.Constant_str ⟨.str x,H,I.tok _,⟨_,rfl⟩,h⟩
abbrev Gl (X:Cx) (x:Str):Prop:=X.env.kindOf x=some .globalImplicit
theorem vG(I:Inv X pi σ H s)(hg:Gl X x)(hm:X.mg x=some u)(h:Q u s)(hd:(x==("__debug__" : Str))=false:=by decide):wpAny (model X.prog X.w) X.A (eval (.Name x pos) X.env) Q E s:=
 Calls.Name_function_global I.ok.kind hg (Calls.loadGlobal_global (by rw[I.ok.glob];exact I.mod.glob.keeps I.bk) hm h) hd
theorem LQ(I:Inv X pi σ H s)(hg:Gl X x)(hm:X.mg x=none)(hv:bootBuiltins x=some u)(h:Q u s)(hn:x≠"__name__":=by decide)(hd:(x==("__debug__" : Str))=false:=by decide):wpAny (model X.prog X.w) X.A (eval (.Name x pos) X.env) Q E s:=by
 obtain⟨mb,h1,h2⟩:=I.mod.blt;exact Calls.Name_function_global I.ok.kind hg (Calls.loadGlobal_builtin (by rw[I.ok.glob];exact I.mod.glob.keeps I.bk) hm (by rw[I.ok.blt];exact h1.keeps I.bk) ((h2 x hn).trans hv) h) hd
theorem Nc(hg:Gl X x)(hm:X.mg x=some u)(r:RelV v u)(hd:(x==("__debug__" : Str))=false:=by decide):PE X (.Name x pos) (tC v):=
 λ_ _ _ H _ I h=>vG I hg hm ⟨v,H,I,r,h⟩ hd
variable{a:Expr}
def PC(X:Cx)(op:CmpOp)(a b:Expr)(t:TE):Prop:=
 ∀(pi:List (Addr×Obj)) (s:Shared) (σ:St) (H:Hp) (Q:VK),Inv X pi σ H s->t σ H Q->
  wpAny (model X.prog X.w) X.A (eval a X.env) (λv bc=>wpAny (model X.prog X.w) X.A (eval b X.env) (λu cS=>wpAny (model X.prog X.w) X.A (compareOp op v u) (EP X pi σ Q) X.xe cS) X.xe bc) X.xe s
theorem Lq(b:Expr)(h:op≠.In)(h2:op≠.NotIn):behindInMarks op b=false:=by
 have e1:(op==CmpOp.In)=false:=by cases op<;>first | rfl | exact absurd rfl h
 have e2:(op==CmpOp.NotIn)=false:=by cases op<;>first | rfl | exact absurd rfl h2
 cases b<;>simp[behindInMarks,e1,e2]
def tB(t:TE):TT:=λ σ H Q=>t σ H λx H1=>∃c,x=.bl c/\Q c H1
theorem EL(h:PC X op a b t)(h1:behindInMarks op b=false:=by first | exact Lq _ (by decide) (by decide) | rfl):PT X (.Compare a [op] [b] pos) (tB t):=by
 intro pi s σ H Q I hw;refine wpAny_isTrue_Compare1 (a9 (h pi s σ H _ I hw) λv s1 h1=>a9 h1 λu s2 h2=>a9 h2 λc s3 ah=>?_) h1;obtain⟨x,H1,I1,r1,q1⟩:=ah;obtain⟨d,rfl,q⟩:=q1;cases r1;exact wpAny_truthy_bool ⟨H1,I1,q⟩
variable{tA AI:TT}{rest:List Expr}
def Ss(t u:TT):TT:=λ σ H Q=>t σ H λc H1=>if c=true then u σ H1 Q else Q false H1
def YA(t u:TT):TT:=λ σ H Q=>t σ H λc H1=>if c=true then Q true H1 else u σ H1 Q
def Sq(t:TT):TT:=λ σ H Q=>t σ H λc H1=>Q (!c) H1
theorem MI(ha:PT X a tA):PW X (.BoolOp .And [a] pos) tA:=by
 intro wh pi s σ H Q I h;refine isTrue_and (a9 (ha pi s σ H Q I h) λc s1 e=>?_);cases c with
 | true=>exact isTrue_and_nil e
 | false=>exact e
theorem Pz(ha:PT X a tA):PW X (.BoolOp .Or [a] pos) tA:=by
 intro wh pi s σ H Q I h;refine isTrue_or (a9 (ha pi s σ H Q I h) λc s1 e=>?_);cases c with
 | false=>exact isTrue_or_nil e
 | true=>exact e
theorem PD(ha:PT X a tA)(hb:PW X (.BoolOp .And (b::rest) pos) AI):PW X (.BoolOp .And (a::b::rest) pos) (Ss tA AI):=by
 intro wh pi s σ H Q I h;refine isTrue_and (a9 (ha pi s σ H _ I h) λc s1 ah=>?_);obtain⟨H1,I1,q1⟩:=ah;cases c with
 | true=>exact hb wh pi s1 σ H1 Q I1 q1
 | false=>exact⟨H1,I1,q1⟩
theorem Ru(ha:PT X a tA)(hb:PW X (.BoolOp .Or (b::rest) pos) AI):PW X (.BoolOp .Or (a::b::rest) pos) (YA tA AI):=by
 intro wh pi s σ H Q I h;refine isTrue_or (a9 (ha pi s σ H _ I h) λc s1 ah=>?_);obtain⟨H1,I1,q1⟩:=ah;cases c with
 | true=>exact⟨H1,I1,q1⟩
 | false=>exact hb wh pi s1 σ H1 Q I1 q1
theorem PH(ha:PT X a tA):PT X (.UnaryOp .Not a pos) (Sq tA):=by
 intro pi s σ H Q I h;exact isTrue_not (ha pi s σ H (λc H1=>Q (!c) H1) I h)
def Yz(t:TT)(ta tb:TE):TE:=λ σ H Q=>t σ H λc H1=>if c=true then ta σ H1 Q else tb σ H1 Q
theorem Ll(hc:PT X c tA)(ha:PE X a ta)(hb:PE X b tb):PE X (.IfExp c a b pos) (Yz tA ta tb):=by
 intro pi s σ H Q I h;refine wpAny_IfExp (a9 (hc pi s σ H _ I h) λd s1 ah=>?_);obtain⟨H1,I1,q1⟩:=ah;cases d with
 | true=>exact ha pi s1 σ H1 Q I1 q1
 | false=>exact hb pi s1 σ H1 Q I1 q1
end
end L2
namespace L2
open PySem PySem.Spec PyProof.Rows
def b9(K:p4)(H:Hp)(a:Addr)(xs:List V):Prop:=
 Rd H a (.lst xs)\/
  ∃(o:Obj) (its:Array Value) (n:Nat),K.lookup a=some o/\o.cls=.type "list"/\o.dict=none/\o.data=.seq its n/\its.size<=sizeLine/\Vals xs its.toList
def dS(K:p4)(H:Hp)(a:Addr)(xs:List V):Prop:=
 Rd H a (.tup xs)\/
  ∃(o:Obj) (its:Array Value) (n:Nat),K.lookup a=some o/\o.cls=.type "tuple"/\o.data=.seq its n/\its.size<=sizeLine/\Vals xs its.toList
noncomputable def SK:Value->Option V
 | .none=>some .au
 | .bool b=>some (.bl b)
 | .int i _=>some (.int i)
 | .str x _=>some (.str x)
 | .bytes b _=>some (.jn b)
 | .float b _=>some (.B2 b)
 | .ref a=>some (.ref a)
 | .type n=>some (.ty n)
 | _=>none
theorem RelV.abs{x:V}(r:RelV x u):SK u=some x:=by
 cases x with
 | au=>cases r;rfl
 | bl _=>cases r;rfl
 | int _=>obtain⟨t,rfl⟩:=r;rfl
 | str _=>obtain⟨t,rfl⟩:=r;rfl
 | jn _=>obtain⟨t,rfl⟩:=r;rfl
 | B2 _=>obtain⟨t,rfl⟩:=r;rfl
 | ref _=>cases r;rfl
 | ty _=>cases r;rfl
theorem RelV.inj{x:V}(r:RelV x u)(q:RelV y u):x=y:=cq (r.abs.symm.trans q.abs)
theorem Vals.inj{xs ys:List V}{us:List Value}(h:Vals xs us)(g:Vals ys us):xs=ys:=by
 induction h generalizing ys with
 | nil=>cases g;rfl
 | cons r t ih=>cases g with
  | cons bE t'=>rw[r.inj bE,ih t']
section
variable{xs:List V}
theorem b9.of(h:H a=some (.lst xs)):b9 K H a xs:=.inl (.inl h)
theorem Inv.list(I:Inv X pi σ H s)(h:b9 X.K H a xs):∃its:List Value,Vals xs its/\PlainL s.heap a its.toArray/\xs.length<=sizeLine:=by
 rcases h with h | ⟨o,its,n,hk,hc,hd,hs,hz,r⟩
 .obtain⟨z,its,n,r,e⟩:=h.ok I.aS
  exact⟨its,r,⟨_,n,e,rfl,rfl,rfl⟩,z⟩
 .refine⟨its.toList,r,⟨o,n,I.sL a o hk,hc,hd,by simpa using hs⟩,?_⟩
  have e:=r.length;simp only[eK]at e;lia
theorem Inv.tuple(I:Inv X pi σ H s)(h:dS X.K H a xs):∃its:List Value,Vals xs its/\IsTup s.heap a its.toArray/\xs.length<=sizeLine:=by
 rcases h with h | ⟨o,its,n,hk,hc,hs,hz,r⟩
 .obtain⟨z,its,r,p⟩:=h.ok I.aS
  exact⟨its,r,p,z⟩
 .refine⟨its.toList,r,⟨o,I.sL a o hk,hc,n,by simpa using hs⟩,?_⟩
  have e:=r.length;simp only[eK]at e;lia
theorem Inv.Jr(I:Inv X pi σ H s)(h:b9 X.K H a xs)(h':b9 X.K H a ys):xs=ys:=by
 obtain⟨its,r,⟨o,n,e,_,_,d⟩,_⟩:=I.list h;obtain⟨its',bE,⟨b5,mT,aE,_,_,d'⟩,_⟩:=I.list h';rw[e]at aE;cases aE;rw[d]at d';injection d' with d1 _;have:its=its':=by simpa using congrArg Array.toList d1
 subst this;exact r.inj bE
theorem Inv.YU(I:Inv X pi σ H s)(h:dS X.K H a xs)(h':dS X.K H a ys):xs=ys:=by
 obtain⟨its,r,⟨o,e,_,n,d⟩,_⟩:=I.tuple h;obtain⟨its',bE,⟨b5,aE,_,mT,d'⟩,_⟩:=I.tuple h';rw[e]at aE;cases aE;rw[d]at d';injection d' with d1 _;have:its=its':=by simpa using congrArg Array.toList d1
 subst this;exact r.inj bE
end
noncomputable abbrev Cx.oj (X:Cx) (E:Value->Shared->Prop):Cx:={ X with xe:=E }
noncomputable abbrev Cx.u4 (X:Cx):Cx:=X.oj λ_ _=>False
theorem Cx.Ok.oj(ok:X.Ok)(E:Value->Shared->Prop):(X.oj E).Ok:=
 ⟨ok.mod,ok.kind,ok.glob,ok.blt,ok.above,ok.inj,ok.has,ok.v5,ok.hd,ok.frames,ok.AF,ok.Hy,ok.bs,ok.qb,ok.yb,ok.zj,ok.mA,ok.uc⟩
theorem Cx.Ok.qV(ok:(X.oj E).Ok):X.Ok:=
 ⟨ok.mod,ok.kind,ok.glob,ok.blt,ok.above,ok.inj,ok.has,ok.v5,ok.hd,ok.frames,ok.AF,ok.Hy,ok.bs,ok.qb,ok.yb,ok.zj,ok.mA,ok.uc⟩
theorem Inv.oj(I:Inv X pi σ H s)(E:Value->Shared->Prop):Inv (X.oj E) pi σ H s:=⟨I.ok.oj E,I.os,I.bare,I.base,I.loc,I.cell,I.free,I.lg,I.pin,I.aS,I.len⟩
theorem Inv.qV(I:Inv (X.oj E) pi σ H s):Inv X pi σ H s:=⟨I.ok.qV,I.os,I.bare,I.base,I.loc,I.cell,I.free,I.lg,I.pin,I.aS,I.len⟩
theorem SP.qV{D:Ends}{f:Flow}(h:SP (X.oj E) pi D f s'):SP X pi D f s':=by
 cases f with
 | next=>obtain⟨σ',aa,I,q⟩:=h;exact⟨σ',aa,I.qV,q⟩
 | brk=>obtain⟨σ',aa,I,q⟩:=h;exact⟨σ',aa,I.qV,q⟩
 | cont=>obtain⟨σ',aa,I,q⟩:=h;exact⟨σ',aa,I.qV,q⟩
 | ret u=>obtain⟨v,σ',aa,I,r,q⟩:=h;exact⟨v,σ',aa,I.qV,r,q⟩
theorem eP.u4{st:List Stmt}(h:eP X.u4 st t):eP X st t:=λpi s σ H D I hw=>
 ff (h pi s σ H D (I.oj _) hw) (λ_ _ q=>q.qV) λ_ _ z=>False.elim z
section
variable{rest:List Stmt}{t u:TS}
def uF:TS:=λD σ H=>D.nx σ H
def vj(t u:TS):TS:=λD σ H=>t { D with nx:=u D } σ H
theorem uZ:eP X [] uF:=λ_ _ σ H _ I h=>wpAny_execs_nil ⟨σ,H,I,h⟩
theorem WX(h1:PS X st t)(h2:eP X rest u):eP X (st::rest) (vj t u):=by
 intro pi s σ H D I h;refine wpAny_execs_cons (a9 (h1 pi s σ H { D with nx:=u D } I h) λf s1 q=>?_);cases f with
 | next=>
  obtain⟨σ',aa,iq,q⟩:=q;exact h2 pi s1 σ' aa D iq q
 | ret v=>exact q
 | brk=>exact q
 | cont=>exact q
theorem kO(h1:PS X st t):eP X [st] t:=by
 intro pi s σ H D I h;refine wpAny_execs_cons (a9 (h1 pi s σ H D I h) λf s1 q=>?_);cases f with
 | next=>exact wpAny_execs_nil q
 | ret v=>exact q
 | brk=>exact q
 | cont=>exact q
theorem Inv.quiet(I:Inv X pi σ H s):interactive X.env=false:=by simp[interactive,I.ok.kind]
def AU(te:TE):TS:=λD σ H=>te σ H λ_ H1=>D.nx σ H1
theorem v7(he:PE X e te)(hs:swapsWith e none pos.line X.env=pure false:=by rfl):PS X (.Expr e pos) (AU te):=by
 intro pi s σ H D I h;exact wpAny_Expr_any (a9 (he pi s σ H _ I h) λv s1 ⟨x,H1,I1,r1,q1⟩=>⟨σ,H1,I1,q1⟩) I.quiet hs
def Gs(te:TE):TS:=λD σ H=>te σ H D.rt
theorem EN(he:PE X e te):PS X (.Return (some e) pos) (Gs te):=by
 intro pi s σ H D I h;exact wpAny_Return_some (a9 (he pi s σ H _ I h) λv s1 ⟨x,H1,I1,r1,q1⟩=>⟨x,σ,H1,I1,r1,q1⟩)
def Bo(c:TT)(t u:TS):TS:=λD σ H=>c σ H λb H1=>if b=true then t D σ H1 else u D σ H1
theorem FY{a b:List Stmt}{tc:TT}(hc:PT X c tc)(ha:eP X a t)(hb:eP X b u):PS X (.If c a b pos) (Bo tc t u):=by
 intro pi s σ H D I h;refine wpAny_If (a9 (hc pi s σ H _ I h) λd s1 ah=>?_);obtain⟨H1,I1,q1⟩:=ah;cases d with
 | true=>exact ha pi s1 σ H1 D I1 q1
 | false=>exact hb pi s1 σ H1 D I1 q1
end
abbrev TG:=V->St->Hp->(St->Hp->Prop)->Prop
abbrev oz:=List V->St->Hp->(St->Hp->Prop)->Prop
def PG(X:Cx)(target:Expr)(t:TG):Prop:=
 ∀(pi:List (Addr×Obj)) (s:Shared) (σ:St) (H:Hp) (v:V) (u:Value) (Q:St->Hp->Prop),Inv X pi σ H s->RelV v u->t v σ H Q->
  wpAny (model X.prog X.w) X.A (assign target X.env u) (λ_ s'=>∃σ' aa,Inv X pi σ' aa s'/\Q σ' aa) X.xe s
def md(X:Cx)(ts:List Expr)(t:oz):Prop:=
 ∀(pi:List (Addr×Obj)) (s:Shared) (σ:St) (H:Hp) (vs:List V) (us:List Value) (Q:St->Hp->Prop),Inv X pi σ H s->Vals vs us->t vs σ H Q->
  wpAny (model X.prog X.w) X.A (assignInOrder ((assignEach ts X.env).map (·.2)) us) (λ_ s'=>∃σ' aa,Inv X pi σ' aa s'/\Q σ' aa) X.xe s
def cV(i:Nat):TG:=λv σ H Q=>Q (σ.set i (some v)) H
theorem kW(hN:X.N.Nodup)(hi:X.N[i]?=some x)(hx:Loc X.env.scope x)(hf:X.fn x=true\/X.env.scope.names.lookup x=some .local:=by first | exact .inl rfl | exact .inr rfl | assumption):PG X (.Name x pos) (cV i):=by
 intro pi s σ H v u Q I r h;exact wpAny_assign_Name (nG I hN hi hx r (λs' iq=>⟨_,H,iq,h⟩) hf)
noncomputable def GO:oz:=λvs σ H Q=>vs=[]/\Q σ H
noncomputable def Bb(t:TG)(u:oz):oz:=λvs σ H Q=>∃v r,vs=v::r/\t v σ H λ σ' aa=>u r σ' aa Q
theorem vA:md X [] GO:=by
 intro pi s σ H vs us Q I r h;obtain⟨e,h⟩:=h;subst e;cases r;exact assignInOrder_nil ⟨σ,H,I,h⟩
theorem cL{t:TG}{u:oz}(h1:PG X e t)(h2:md X es u)(hs:(assignEach (e::es) X.env).map (·.2)=assign e X.env::(assignEach es X.env).map (·.2):=by rfl):md X (e::es) (Bb t u):=by
 intro pi s σ H vs us Q I r h;obtain⟨v,vr,e1,h⟩:=h;subst e1;cases r with
 | cons r rr=>
  rw[hs];refine assignInOrder_cons (a9 (h1 pi s σ H _ _ _ I r h) λ_ s1 ah=>?_);obtain⟨σ1,H1,I1,q1⟩:=ah;exact h2 pi s1 σ1 H1 _ _ Q I1 rr q1
def GN(K:p4)(n:Nat)(t:oz):TG:=λv σ H Q=>∃a xs,v=.ref a/\dS K H a xs/\xs.length=n/\t xs σ H Q
theorem ES{k:Nat}(hc:X.calm=true)(h:md X es t)(hn:(assignEach es X.env).length=n:=by rfl)(kN:(assignEach es X.env).findIdx? (·.1)=none:=by rfl):PG X (.Tuple es k pos) (GN X.K n t):=by
 intro pi s σ H v u Q I r hw;obtain⟨a,xs,e1,hq,hl,hw⟩:=hw;subst e1;cases r;obtain⟨its,rv,ht,hz⟩:=I.tuple hq;refine assign_Tuple_tuple (I.ok.hd hc) ht (by simp[hn,<-hl,rv.length]) kN λh' hx=>?_
 have I1:Inv X pi σ H { s with heap:=h' }:=I.kept (t':=s.toks) λb o e=>hx b o (cm (bh e)) e
 exact h pi _ σ H xs _ Q I1 (by simpa using rv) hw
def yq(te:TE)(g:TG):TS:=λD σ H=>te σ H λx H1=>g x σ H1 D.nx
theorem PQ(he:PE X e te)(hg:PG X tg g)(hs:swapsWithSole [tg] e pos.line X.env=pure false:=by rfl)(hw:swappedStores [tg] e X.env=pure none:=by rfl)(h1:(assignEach [tg] X.env).map (·.2)=[assign tg X.env]:=by rfl):PS X (.Assign [tg] e pos) (yq te g):=by
 intro pi s σ H D I h;refine wpAny_Assign_stores (a9 (he pi s σ H _ I h) λv s1 ah=>?_) hs hw;obtain⟨x,H1,I1,r1,q1⟩:=ah;rw[h1];exact a9 (hg pi s1 σ H1 x v _ I1 r1 q1) λ_ s2 q=>q
theorem EM(hN:X.N.Nodup)(hi:X.N[i]?=some x)(hx:Loc X.env.scope x)(he:PE X e te)(hs:swapsWith e (some (.Name x pos')) pos.line X.env=pure false:=by rfl)(hf:X.fn x=true\/X.env.scope.names.lookup x=some .local:=by first | exact .inl rfl | exact .inr rfl | assumption):
  PS X (.Assign [.Name x pos'] e pos) (yq te (cV i)):=by
 intro pi s σ H D I h;refine wpAny_Assign_Name (a9 (he pi s σ H _ I h) λv s1 ah=>?_) hs;obtain⟨y,H1,I1,r1,q1⟩:=ah;exact nG I1 hN hi hx r1 (λs2 I2=>⟨_,H1,I2,q1⟩) hf
def O3(c:TT)(tb:TS):TS:=λD σ H=>∃W:Nat->St->Hp->Prop,(∃m,W m σ H)/\∀m σ H,W m σ H->
 c σ H λb H1=>if b=true then ∃N:St->Hp->Prop,(∀σ' aa,N σ' aa->∃af,af<m/\W af σ' aa)/\tb { D with nx:=N,ct:=N,bk:=D.nx } σ H1 else D.nx σ H1
theorem Li{tc:TT}{tb:TS}(hp:PassesOwn (model X.prog X.w) X.A X.env X.xe)(hc:PT X c tc)(hb:eP X body tb):PS X (.While c body [] pos) (O3 tc tb):=by
 intro pi s σ H D I h;obtain⟨W,⟨m0,w0⟩,turn⟩:=h;refine wpAny_While (codeAny_whileLoop (λn s'=>∃σ' aa,Inv X pi σ' aa s'/\W n σ' aa) ?_ m0 ⟨σ,H,I,w0⟩);rintro n s1 ⟨σ1,H1,I1,w1⟩;refine wpAny_passesOwn hp (a9 (hc pi s1 σ1 H1 _ I1 (turn n σ1 H1 w1)) λb s2 ah=>?_);obtain⟨H2,I2,q2⟩:=ah;cases b with
 | true=>
  obtain⟨N,hN,q2⟩:=q2;rw[ag rfl];refine wpAny_passesOwn hp (a9 (hb pi s2 σ1 H2 _ I2 q2) λf s3 q3=>?_);cases f with
  | next=>
   obtain⟨kS,H3,I3,n3⟩:=q3;obtain⟨af,hm,w3⟩:=hN kS H3 n3;exact⟨af,hm,kS,H3,I3,w3⟩
  | cont=>
   obtain⟨kS,H3,I3,n3⟩:=q3;obtain⟨af,hm,w3⟩:=hN kS H3 n3;exact⟨af,hm,kS,H3,I3,w3⟩
  | brk=>exact q3
  | ret v=>exact q3
 | false=>
  rw[ak d5];exact wpAny_execs_nil ⟨σ1,H2,I2,q2⟩
structure It where
 go:Nat->Hp->Prop
 yo:Nat->Hp->V->Hp->Prop
 stop:Nat->Hp->Prop
def PL(X:Cx)(pi:List (Addr×Obj))(H:Hp)(b:Addr):Prop:=
 H b=none/\b≠X.env.locals/\b∉X.fs/\(b∈X.ex\/X.bx.heap.objs.size<=b)/\(∀x c,X.env.cells.lookup x=some c->c≠b)/\∀p∈X.pn++pi,p.1≠b
theorem Inv.nK{b:Addr}(I:Inv X pi σ H s)(hb:s.heap.objs.size<=b)(hn:aa b=none):PL X pi aa b:=by
 refine⟨hn,iS (hV I.lt hb),I.Xp hb,.inr (eJ I.sz hb),λx c e z=>?_,λp hp z=>?_⟩
 .obtain⟨v,q⟩:=I.cell x c e
  exact absurd (hV q.lt (by rw[z];exact hb)) (hZ _)
 .exact absurd (hV (bh (I.pin p hp).1) (by rw[z];exact hb)) (hZ _)
structure Turn(P:Program)(w:World)(K:p4)(tg:Expr)(J:It)(fp:List Addr)(it:Addr)(tn:Nat->Heap->Prop):Prop where
 mem:it∈fp
 obj:∀i h,tn i h->∀b∈fp,∃o,h.get? b=some o/\∀v,o.data≠.cell v
 keep:∀i h h',tn i h->(∀b∈fp,∀o,h.get? b=some o->h'.get? b=some o)->tn i h'
 item:∀(X:Cx),X.prog=P->X.w=w->X.K=K->X.calm=true->∀(i:Nat) (pi:List (Addr×Obj)) (s:Shared) (σ:St) (H:Hp) (E:Value->Shared->Prop),Inv X pi σ H s->(∀b∈fp,PL X pi H b)->tn i s.heap->J.go i H->
  wpAny (model P w) X.A (pyNext (.ref it)) (λr s1=>∃u,r=some u/\
   wpAny (model P w) X.A (letOwnedTupleGo tg (.ref it) u) (λ_ s2=>∃x aa,Inv X pi σ aa s2/\RelV x u/\J.yo i H x aa/\tn (i+1) s2.heap/\∀b∈fp,aa b=none) E s1) E s
 done:∀(X:Cx),X.prog=P->X.w=w->X.K=K->X.calm=true->∀(i:Nat) (pi:List (Addr×Obj)) (s:Shared) (σ:St) (H:Hp) (E:Value->Shared->Prop),Inv X pi σ H s->(∀b∈fp,PL X pi H b)->tn i s.heap->J.stop i H->
  wpAny (model P w) X.A (pyNext (.ref it)) (λr s1=>r=none/\Inv X pi σ H s1) E s
 self:∀(A:Around) (i:Nat) (s:Shared) (Q:Value->Shared->Prop) (E:Value->Shared->Prop),tn i s.heap->Q (.ref it) s->wpAny (model P w) A (pyIter (.ref it)) Q E s
abbrev TI:=St->Hp->(It->Hp->Prop)->Prop
def Hk(X:Cx)(pi:List (Addr×Obj))(σ:St)(tg:Expr)(R:It->Hp->Prop)(Ao:Value)(s2:Shared):Prop:=
 ∃(it:Addr) (fp:List Addr) (tn:Nat->Heap->Prop) (J:It) (aa:Hp),Ao=.ref it/\Inv X pi σ aa s2/\Turn X.prog X.w X.K tg J fp it tn/\tn 0 s2.heap/\(∀b∈fp,PL X pi aa b)/\R J aa
def PI(X:Cx)(tg iter:Expr)(wi:TI):Prop:=
 ∀(pi:List (Addr×Obj)) (s:Shared) (σ:St) (H:Hp) (R:It->Hp->Prop),Inv X pi σ H s->wi σ H R->
  wpAny (model X.prog X.w) X.A (eval iter X.env) (λv s1=>wpAny (model X.prog X.w) X.A (pyIter v) (Hk X pi σ tg R) X.xe s1) X.xe s
theorem Ba{M : Model}{E : Value -> Shared -> Prop}{o : Obj}{n : String}{vs : Array Value}{Q : Unit -> Shared -> Prop}(ho : s.heap.get? it = some o)(hc : o.cls = .type n)(hd : o.data = .fields vs)(hn : ["enumerate", "zip", "dict_itemiterator", "dict_reverseitemiterator", "odict_iterator", "itertools.zip_longest", "itertools.pairwise"].contains n = false)(hQ : Q () s) : wpAny M A (letOwnedTupleGo tg (.ref it) u) Q E s := by
  unfold letOwnedTupleGo;cases tg <;> first
    | exact ai hQ
    | (cases u <;> first
        | exact ai hQ
        | (refine ae (wpAny_load ho ?_)
           rw [hc, hd];show wpAny M A (if (["enumerate", "zip", "dict_itemiterator", "dict_reverseitemiterator", "odict_iterator", "itertools.zip_longest", "itertools.pairwise"].contains n && vs[0]? == some (rawInt _)) = true then _ else _) Q E s;rw [ak (by intro h; rw [hn, Bool.false_and] at h; cases h)];exact ai hQ))
noncomputable def BA(K:p4)(a:Addr):It:=
 ⟨λi H=>∃xs x,b9 K H a xs/\xs[i]?=some x,λi H x aa=>aa=H/\∀xs,b9 K H a xs->xs[i]?=some x,λi H=>∃xs,b9 K H a xs/\xs.length<=i⟩
noncomputable def y2(K:p4)(a:Addr):It:=
 ⟨λi H=>∃xs x,dS K H a xs/\xs[i]?=some x,λi H x aa=>aa=H/\∀xs,dS K H a xs->xs[i]?=some x,λi H=>∃xs,dS K H a xs/\xs.length<=i⟩
noncomputable def BB(lo:Int)(n:Nat):It:=⟨λi _=>i<n,λi H x aa=>aa=H/\x=.int (lo+i),λi _=>n<=i⟩
theorem xH(a it:Addr):Turn P w K tg (BA K a) [it] it (λi h=>h.IsListIter it a i) where
 mem:=by simp
 obj:=λi h st b hb=>by
  have e:b=it:=by simpa using hb
  subst e;obtain⟨o,e,c,d⟩:=st;exact⟨o,e,λv z=>by rw[d]at z;cases z⟩
 keep:=λi h h' st k=>st.at λo e=>k it (by simp) o e
 item:=by
  intro X hP hw hK hc i pi s σ H E I hf st hg;subst hP hw hK;obtain⟨xs,x,hq,hx⟩:=hg;obtain⟨its,rv,p,hz⟩:=I.list hq;obtain⟨u,hu,ru⟩:=rv.get hx;obtain⟨f0,f1,f2,f3,f4,f5⟩:=hf it (by simp);refine wpAny_pyNext_list_item st p.isList (x:=u) (by simpa using hu) λh' g7 sb=>?_
  have I1:Inv X pi σ H { s with heap:=h' }:=I.turned (t':=s.toks) (λb o hb e=>(sb.2 b hb).trans e) f0 f1 f3 f4 f5;obtain⟨o,e,c,d⟩:=id g7;exact⟨u,rfl,Ba (s:={ s with heap:=h' }) e c d (by decide) ⟨x,H,I1,ru,⟨rfl,λys hy=>by rw[I.Jr hy hq];exact hx⟩,g7,λb hb=>(hf b hb).1⟩⟩
 done:=by
  intro X hP hw hK hc i pi s σ H E I hf st hg;subst hP hw hK;obtain⟨xs,hq,hx⟩:=hg;obtain⟨its,rv,p,hz⟩:=I.list hq;obtain⟨f0,f1,f2,f3,f4,f5⟩:=hf it (by simp);have hl:=rv.length;exact wpAny_pyNext_list_end (I.ok.hd hc) st p.isList (by simp;lia) λh' eb=>⟨rfl,I.turned (t':=s.toks) (λb o hb e=>eb b o hb e) f0 f1 f3 f4 f5⟩
 self:=λ_ _ _ _ _ st h=>wpAny_pyIter_listiter st h
theorem bB(a it:Addr):Turn P w K tg (y2 K a) [it] it (λi h=>h.IsTupleIter it a i) where
 mem:=by simp
 obj:=λi h st b hb=>by
  have e:b=it:=by simpa using hb
  subst e;obtain⟨o,e,c,d⟩:=st;exact⟨o,e,λv z=>by rw[d]at z;cases z⟩
 keep:=λi h h' st k=>st.at λo e=>k it (by simp) o e
 item:=by
  intro X hP hw hK hc i pi s σ H E I hf st hg;subst hP hw hK;obtain⟨xs,x,hq,hx⟩:=hg;obtain⟨its,rv,p,hz⟩:=I.tuple hq;obtain⟨u,hu,ru⟩:=rv.get hx;obtain⟨f0,f1,f2,f3,f4,f5⟩:=hf it (by simp);refine wpAny_pyNext_tuple_item st (show s.heap.IsTuple a its.toArray from p) (x:=u) (by simpa using hu) λh' g7 sb=>?_
  have I1:Inv X pi σ H { s with heap:=h' }:=I.turned (t':=s.toks) (λb o hb e=>(sb.2 b hb).trans e) f0 f1 f3 f4 f5;obtain⟨o,e,c,d⟩:=id g7;exact⟨u,rfl,Ba (s:={ s with heap:=h' }) e c d (by decide) ⟨x,H,I1,ru,⟨rfl,λys hy=>by rw[I.YU hy hq];exact hx⟩,g7,λb hb=>(hf b hb).1⟩⟩
 done:=by
  intro X hP hw hK hc i pi s σ H E I hf st hg;subst hP hw hK;obtain⟨xs,hq,hx⟩:=hg;obtain⟨its,rv,p,hz⟩:=I.tuple hq;obtain⟨f0,f1,f2,f3,f4,f5⟩:=hf it (by simp);have hl:=rv.length;exact wpAny_pyNext_tuple_end (I.ok.hd hc) st (show s.heap.IsTuple a its.toArray from p) (by simp;lia) λh' eb=>⟨rfl,I.turned (t':=s.toks) (λb o hb e=>eb b o hb e) f0 f1 f3 f4 f5⟩
 self:=λ_ _ _ _ _ st h=>wpAny_pyIter_tupleiter st h
theorem qY(it:Addr)(lo:Int)(n:Nat):Turn P w K tg (BB lo n) [it] it (λi h=>IsRangeIter h it (lo+(i:Nat)*1) ((n:Int)-(i:Nat)) 1) where
 mem:=by simp
 obj:=λi h st b hb=>by
  have e:b=it:=by simpa using hb
  subst e;exact⟨_,st,λv z=>by
   have c6:Data.fields _=Data.cell v:=z;cases c6⟩
 keep:=λi h h' st k=>k it (by simp) _ st
 item:=by
  intro X hP hw hK hc i pi s σ H E I hf st hg;subst hP hw hK;obtain⟨f0,f1,f2,f3,f4,f5⟩:=hf it (by simp);have W:=Walks.range (prog:=X.prog) (w:=X.w) (I.ok.hd hc) it lo 1 n;refine W.item i s _ _ hg st λv h' tk hv g7 kk=>?_
  obtain⟨t,rfl⟩:=hv;have I1:Inv X pi σ H { s with heap:=h',toks:=tk }:=I.turned (λb o hb e=>kk b o (by simpa using hb) e) f0 f1 f3 f4 f5;refine⟨_,rfl,Ba (s:={ s with heap:=h',toks:=tk }) (n:="range_iterator") g7 rfl rfl (by decide) ⟨.int (lo+i),H,I1,⟨t,?_⟩,⟨rfl,rfl⟩,g7,λb hb=>(hf b hb).1⟩⟩;rw[Int.mul_one]
 done:=by
  intro X hP hw hK hc i pi s σ H E I hf st hg;subst hP hw hK;obtain⟨f0,f1,f2,f3,f4,f5⟩:=hf it (by simp);exact wpAny_pyNext_range_end (I.ok.hd hc) st (by have:n<=i:=hg;lia) λh' eb=>⟨rfl,I.turned (t':=s.toks) (λb o hb e=>eb b o hb e) f0 f1 f3 f4 f5⟩
 self:=λ_ _ _ _ _ st h=>wpAny_pyIter_rangeiter st h
end L2
variable{wi:L2.TI}
namespace L2
open PySem PySem.Spec PyProof.Rows
def GI(K:p4)(tl:TE):TI:=λ σ H R=>tl σ H λx H1=>∃a,x=.ref a/\(∃xs,dS K H1 a xs)/\R (y2 K a) H1
theorem PV{l:Expr}(hl:PE X l tl):PI X tg l (GI X.K tl):=by
 intro pi s σ H R I h;refine a9 (hl pi s σ H _ I h) λv s1 ah=>?_
 obtain⟨x,H1,I1,r1,q1⟩:=ah;obtain⟨a,e,⟨xs,hq⟩,q⟩:=q1;subst e;cases r1;obtain⟨its,rv,p,hz⟩:=I1.tuple hq;refine wpAny_pyIter_tuple (show s1.heap.IsTuple a its.toArray from p) ?_;refine⟨s1.heap.objs.size,[s1.heap.objs.size],_,_,H1,rfl,I1.kept (t':=s1.toks) λb o e=>dg _ e,bB a _,⟨_,dj _ rfl,rfl,rfl⟩,λb hb=>?_,q⟩;have e:b=s1.heap.objs.size:=by simpa using hb
 subst e;exact I1.nK (a0 _) (I1.aS.fresh (a0 _))
theorem Lg{R:It->Hp->Prop}{lo hi:Int}{t u v:Tok}(I:Inv X pi σ H s)(h1:-(2 ^ 62)<=lo)(h2:lo<2 ^ 62)(h3:-(2 ^ 62)<=hi)(h4:hi<2 ^ 62)(q:R (BB lo (hi-lo).toNat) H):wpAny (model X.prog X.w) X.A (pyIter (.ref s.heap.objs.size)) (Hk X pi σ tg R) E { s with heap:=s.heap.push { cls:=.type "range",data:=.fields #[.int lo t,.int hi u,.int 1 v] },toks:=tk }:=by
 refine wpAny_pyIter_range (IsRange.new ..) (small_one h1 h2 h3 h4) ?_;have I1:Inv X pi σ H { s with heap:=s.heap.push { cls:=.type "range",data:=.fields #[.int lo t,.int hi u,.int 1 v] },toks:=tk }:=I.kept λb o e=>dg _ e
 refine⟨(s.heap.push { cls:=.type "range",data:=.fields #[.int lo t,.int hi u,.int 1 v] }).objs.size,[(s.heap.push { cls:=.type "range",data:=.fields #[.int lo t,.int hi u,.int 1 v] }).objs.size],_,_,H,rfl,
  I1.kept (t':=tk) λb o e=>dg _ e,qY _ lo (hi-lo).toNat,?_,λb hb=>?_,q⟩
 .have e1:lo+((0:Nat):Int)*1=lo:=by simp
  have e2:(((hi-lo).toNat:Nat):Int)-((0:Nat):Int)=Builtin.Range.rangeSize lo hi 1:=by rw[rangeSize_one];split<;>lia
  show IsRangeIter _ _ (lo+((0:Nat):Int)*1) ((((hi-lo).toNat:Nat):Int)-((0:Nat):Int)) 1;rw[e1,e2];exact dj _ rfl
 .have e:b=(s.heap.push { cls:=.type "range",data:=.fields #[.int lo t,.int hi u,.int 1 v] }).objs.size:=by simpa using hb
  subst e;exact I1.nK (a0 _) (I1.aS.fresh (a0 _))
def RS(ta:TA):TI:=λ σ H R=>ta σ H λvs H1=>∃j:Int,vs=[.int j]/\-(2 ^ 62)<=j/\j<2 ^ 62/\R (BB 0 j.toNat) H1
theorem xV{a:Expr}{ta:TA}(hg:Gl X "range")(hm:X.mg "range" = none)(ha:PA X [a] ta)(hs:starEach [a] X.env=[(false,eval a X.env)]:=by rfl):PI X tg (.Call (.Name "range" p) [a] [] pos) (RS ta):=by
 intro pi s σ H R I h;refine Call_ (LQ I hg hm boot_range (PyProof.Rows.callWith_type1 (a9 (ha pos pi s σ H _ I h) λus s1 ah=>?_) hs rfl));obtain⟨vs,H1,I1,r1,q1⟩:=ah;obtain⟨j,e,q1,q2,q⟩:=q1;subst e;cases r1 with
 | cons r rr=>
  cases rr;obtain⟨t,rfl⟩:=r;exact call_range_1 (Lg I1 (by lia) (by lia) q1 q2 (by simpa using q))
def Gu(wi:TI)(g:TG)(tb:TS):TS:=λD σ H=>wi σ H λJ H1=>∃W:Nat->Nat->St->Hp->Prop,(∃m,W 0 m σ H1)/\∀i m σ H,W i m σ H->
 (J.stop i H/\D.nx σ H)\/(J.go i H/\∃N:St->Hp->Prop,(∀σ' aa,N σ' aa->∃af,af<m/\W (i+1) af σ' aa)/\∀x aa,J.yo i H x aa->g x σ aa λij H2=>tb { D with nx:=N,ct:=N,bk:=D.nx } ij H2)
noncomputable def cJ(fp:List Addr)(h:Heap):List (Addr×Obj):=fp.filterMap λb=>(h.get? b).map λo=>(b,o)
theorem R6{b:Addr}{o:Obj}(hb:b∈fp)(e:h.get? b=some o):(b,o)∈cJ fp h:=List.mem_filterMap.mpr ⟨b,hb,by rw[e];rfl⟩
theorem yE{p:Addr×Obj}(hp:p∈cJ fp h):p.1∈fp/\h.get? p.1=some p.2:=by
 obtain⟨b,hb,e⟩:=List.mem_filterMap.mp hp;cases q:h.get? b with
 | none=>rw[q]at e;cases e
 | some o=>
  rw[q]at e;have aE:(b,o)=p:=cq e;subst aE;exact⟨hb,q⟩
theorem Inv.pinned(I:Inv X pi σ H s)(hf:∀b∈fp,PL X pi H b)(ho:∀b∈fp,∃o,s.heap.get? b=some o/\∀v,o.data≠.cell v):Inv X (pi++cJ fp s.heap) σ H s:=
 I.Kb λp hp=>(cz hp).elim (λz=>I.pin p (hJ _ z)) λz=>by
  obtain⟨hb,e⟩:=yE z;obtain⟨f0,f1,f2,_⟩:=hf p.1 hb;obtain⟨o,aE,d⟩:=ho p.1 hb;rw[e]at aE;cases aE;exact⟨e,f0,f1,f2,d⟩
theorem Inv.AN(I:Inv X (pi++pl) σ H s):Inv X pi σ H s:=I.Kb λp hp=>I.pin p (hJ _ (iu _ hp))
theorem EO{g:TG}{tb:TS}(hp:PassesOwn (model X.prog X.w) X.A X.env X.xe)(hc:X.calm=true)(hi:PI X tg iter wi)(hg:PG X tg g)(hb:eP X body tb)(hs:∀x,foldedSetIterable iter X.env x=pure x:=by intro _;rfl):PS X (.For tg iter body [] pos) (Gu wi g tb):=by
 intro pi s σ H D I h;refine wpAny_For (a9 (hi pi s σ H _ I h) λv s1 h1=>a9 h1 λAo s2 h2=>?_) hs;obtain⟨it,fp,tn,J,H2,e,I2,T,Yx,f2,W,⟨m0,w0⟩,turn⟩:=h2;subst e;have tu:∀{aa:Hp},(∀b∈fp,aa b=none)->∀b∈fp,PL X pi aa b:=λhn b hb=>⟨hn b hb,(f2 b hb).2⟩
 refine codeAny_forLoop_any (λn s'=>∃i σ' aa,Inv X pi σ' aa s'/\tn i s'.heap/\(∀b∈fp,aa b=none)/\W i n σ' aa) ?_ m0 ⟨0,σ,H2,I2,Yx,λb hb=>(f2 b hb).1,w0⟩;rintro n s3 ⟨i,kS,H3,I3,AE,HK,w3⟩;rcases turn i n kS H3 w3 with ⟨stop,qn⟩ | ⟨go,N,hN,step⟩
 .refine wpAny_passesOwn hp (a9 (T.done X rfl rfl rfl hc i pi s3 kS H3 X.xe I3 (tu HK) AE stop) λr s4 ah=>?_)
  obtain⟨hr,I4⟩:=ah;subst hr;exact wpAny_execs_nil ⟨kS,H3,I4,qn⟩
 .refine wpAny_passesOwn hp (a9 (T.item X rfl rfl rfl hc i pi s3 kS H3 X.xe I3 (tu HK) AE go) λr s4 ah=>?_)
  obtain⟨u,hr,h4⟩:=ah;subst hr;refine wpAny_passesOwn hp (a9 h4 λ_ s5 ah=>?_);obtain⟨x,H5,I5,r5,y5,vf,zl⟩:=ah;have SY:=I5.pinned (tu zl) (T.obj _ _ vf);refine wpAny_passesOwn hp (a9 (hg _ s5 kS H5 x u _ SY r5 (step x H5 y5)) λ_ s6 ah=>?_);obtain⟨Zf,H6,I6,q6⟩:=ah;refine wpAny_passesOwn hp (a9 (hb _ s6 Zf H6 _ I6 q6) λf s7 q7=>?_);have again:∀{nh:St} {H7:Hp},Inv X (pi++cJ fp s5.heap) nh H7 s7->N nh H7->∃m,m<n/\∃i σ' aa,Inv X pi σ' aa s7/\tn i s7.heap/\(∀b∈fp,aa b=none)/\W i m σ' aa:=λ {nh H7} I7 n7=>by
   obtain⟨af,hm,w7⟩:=hN nh H7 n7;refine⟨af,hm,i+1,nh,H7,I7.AN,T.keep _ _ _ vf λb hb o e=>(I7.pin (b,o) (hJ _ (hJ _ (R6 hb e)))).1,λb hb=>?_,w7⟩;obtain⟨o,e,d⟩:=T.obj _ _ vf b hb;exact(I7.pin (b,o) (hJ _ (hJ _ (R6 hb e)))).2.1
  cases f with
  | next=>obtain⟨nh,H7,I7,n7⟩:=q7;exact again I7 n7
  | cont=>obtain⟨nh,H7,I7,n7⟩:=q7;exact again I7 n7
  | brk=>obtain⟨nh,H7,I7,q7⟩:=q7;exact⟨nh,H7,I7.AN,q7⟩
  | ret v=>obtain⟨x7,nh,H7,I7,r7,q7⟩:=q7;exact⟨x7,nh,H7,I7.AN,r7,q7⟩
end L2
namespace L2
open PySem PySem.Spec PyProof.Rows
abbrev R2:=V->V->Hp->VK->Prop
def eB(X:Cx)(f:Value->Value->Sem Value)(r:R2):Prop:=
 ∀(pi:List (Addr×Obj)) (s:Shared) (σ:St) (H:Hp) (x y:V) (v u:Value) (Q:VK),Inv X pi σ H s->RelV x v->RelV y u->r x y H Q->
  wpAny (model X.prog X.w) X.A (f v u) (EP X pi σ Q) X.xe s
def fI(X:Cx)(f:Value)(r:List V->Hp->VK->Prop):Prop:=
 ∀(pi:List (Addr×Obj)) (s:Shared) (σ:St) (H:Hp) (xs:List V) (us:List Value) (Q:VK),Inv X pi σ H s->Vals xs us->r xs H Q->
  wpAny (model X.prog X.w) X.A (call f us) (EP X pi σ Q) X.xe s
def SO(X:Cx)(r:V->Hp->(Bool->Hp->Prop)->Prop):Prop:=
 ∀(pi:List (Addr×Obj)) (s:Shared) (σ:St) (H:Hp) (x:V) (v:Value) (Q:Bool->Hp->Prop),Inv X pi σ H s->RelV x v->r x H Q->
  wpAny (model X.prog X.w) X.A (truthy v) (TP X pi σ Q) X.xe s
def vh(r:R2)(ta tb:TE):TE:=λ σ H Q=>ta σ H λx H1=>tb σ H1 λy H2=>r x y H2 Q
def rI(C:Int->Int->Prop)(g:Int->Int->V):R2:=λx y H Q=>∃i j,x=.int i/\y=.int j/\C i j/\Q (g i j) H
def lP(g:Int->Int->V):R2:=λx y H Q=>∃i j,x=.int i/\y=.int j/\Q (g i j) H
section
variable{a:Expr}{tc:TE}
theorem Bt(ha:PE X a ta)(hb:PE X b tb){R:V->V->Hp->Prop}(I:Inv X pi σ H s)(h:ta σ H λx H1=>tb σ H1 λy H2=>R x y H2){f:Value->Value->Sem Value}(hf:∀v u s2 x y H2,Inv X pi σ H2 s2->RelV x v->RelV y u->R x y H2->wpAny (model X.prog X.w) X.A (f v u) Q X.xe s2) :
  wpAny (model X.prog X.w) X.A (eval a X.env) (λv bc=>wpAny (model X.prog X.w) X.A (eval b X.env) (λu cS=>wpAny (model X.prog X.w) X.A (f v u) Q X.xe cS) X.xe bc) X.xe s:=by
 refine a9 (ha pi s σ H _ I h) λv s1 ah=>?_
 obtain⟨x,H1,I1,r1,q1⟩:=ah;refine a9 (hb pi s1 σ H1 _ I1 q1) λu s2 ah=>?_
 obtain⟨y,H2,I2,r2,q2⟩:=ah;exact hf v u s2 x y H2 I2 r1 r2 q2
theorem oH{op:Operator}{r:R2}(ho:eB X (binaryOp op) r)(ha:PE X a ta)(hb:PE X b tb):PE X (.BinOp a op b pos) (vh r ta tb):=by
 intro pi s σ H Q I h;exact wpAny_BinOp (Bt ha hb I h λv u s2 x y H2 I2 rx ry q=>ho pi s2 σ H2 x y v u Q I2 rx ry q)
theorem JY{f:Value->Value->Sem Value}{C:Int->Int->Prop}{g:Int->Int->Int}(rule:∀(i j:Int) (t u:Tok) (s:Shared) (Q:Value->Shared->Prop) (E:Value->Shared->Prop),C i j->Q (.int (g i j) s.toks) { s with toks:=s.toks+1 }->wpAny (model X.prog X.w) X.A (f (.int i t) (.int j u)) Q E s) :
  eB X f (rI C λi j=>.int (g i j)):=by
 intro pi s σ H x y v u Q I rx ry h;obtain⟨i,j,rfl,rfl,hc,q⟩:=h;obtain⟨t,rfl⟩:=rx;obtain⟨t',rfl⟩:=ry;exact rule i j t t' s _ _ hc ⟨.int (g i j),H,I.tok _,⟨_,rfl⟩,q⟩
theorem GA{f:Value->Value->Sem Value}{g:Int->Int->Int}(rule:∀(i j:Int) (t u:Tok) (s:Shared) (Q:Value->Shared->Prop) (E:Value->Shared->Prop),Q (.int (g i j) s.toks) { s with toks:=s.toks+1 }->wpAny (model X.prog X.w) X.A (f (.int i t) (.int j u)) Q E s) :
  eB X f (lP λi j=>.int (g i j)):=by
 intro pi s σ H x y v u Q I rx ry h;obtain⟨i,j,rfl,rfl,q⟩:=h;obtain⟨t,rfl⟩:=rx;obtain⟨t',rfl⟩:=ry;exact rule i j t t' s _ _ ⟨.int (g i j),H,I.tok _,⟨_,rfl⟩,q⟩
theorem yu{f:Value->Value->Sem Value}{g:Int->Int->Bool}(rule:∀(i j:Int) (t u:Tok) (s:Shared) (Q:Value->Shared->Prop) (E:Value->Shared->Prop),Q (.bool (g i j)) s->wpAny (model X.prog X.w) X.A (f (.int i t) (.int j u)) Q E s) :
  eB X f (lP λi j=>.bl (g i j)):=by
 intro pi s σ H x y v u Q I rx ry h;obtain⟨i,j,rfl,rfl,q⟩:=h;obtain⟨t,rfl⟩:=rx;obtain⟨t',rfl⟩:=ry;exact rule i j t t' s _ _ ⟨.bl (g i j),H,I,rfl,q⟩
def yY(i j:Int):Prop:=(-(2 ^ 64)<i/\i<2 ^ 64)\/(-(2 ^ 64)<j/\j<2 ^ 64)
theorem yY.ok{i j:Int}(h:yY i j):IntMulOk i j:=by
 rcases h with ⟨h1,h2⟩ | ⟨h1,h2⟩
 .exact .of_left (intBits_le_64 h1 h2)
 .exact .of_right (intBits_le_64 h1 h2)
theorem Xx:eB X (binaryOp .Add) (lP λi j=>.int (i+j)):=GA λ_ _ _ _ _ _ _ q=>add_int q
theorem P6:eB X (binaryOp .Sub) (lP λi j=>.int (i-j)):=GA λ_ _ _ _ _ _ _ q=>sub_int q
theorem P7:eB X (binaryOp .Mult) (rI yY λi j=>.int (i*j)):=JY λ_ _ _ _ _ _ _ hc q=>mul_int q hc.ok
theorem P8:eB X (binaryOp .Mod) (rI (λ_ j=>0<j) λi j=>.int (i % j)):=JY λi j _ _ _ _ _ hc q=>by
 have h1:(0:Int)<j:=hc;exact mod_int' (by lia) (by rw[Int.fmod_eq_emod_of_nonneg i (by lia)];exact q)
end
noncomputable def Gv:V->V->Bool
 | .au,.au=>true | .au,.int _=>true | .int _,.au=>true | .au,.bl _=>true | .bl _,.au=>true | .au,.str _=>true | .str _,.au=>true
 | .int _,.int _=>true | .bl _,.bl _=>true | .str _,.str _=>true | .jn _,.jn _=>true
 | .int _,.str _=>true | .str _,.int _=>true | .bl _,.str _=>true | .str _,.bl _=>true
 | _,_=>false
def XX:R2:=λx y H Q=>Gv x y=true/\Q (.bl (decide (x=y))) H
def XY:R2:=λx y H Q=>Gv x y=true/\Q (.bl (!decide (x=y))) H
theorem vV{i j:Int}:decide (V.int i=V.int j)=(i==j):=by
 rw[Bool.eq_iff_iff];simp
theorem Fm{i j:Bool}:decide (V.bl i=V.bl j)=(i==j):=by
 rw[Bool.eq_iff_iff];simp
theorem vU{i j:Str}:decide (V.str i=V.str j)=(i==j):=by
 rw[Bool.eq_iff_iff];simp
theorem vW{i j:Array UInt8}:decide (V.jn i=V.jn j)=(i.toList==j.toList):=by
 rw[Bool.eq_iff_iff];cases i;cases j;simp
section
variable{a:Expr}{tc:TE}
theorem G9{Q:VK}{k uB:Bool}(I:Inv X pi σ H s)(q:Q (.bl k) H)(e:k=uB):EP X pi σ Q (.bool uB) s:=by
 subst e;exact⟨.bl k,H,I,rfl,q⟩
theorem Xz:eB X (compareOp .Eq) XX:=by
 intro pi s σ H x y v u Q I rx ry h;obtain⟨hs,q⟩:=h;cases x with
 | au=>
  cases rx;cases y with
  | au=>cases ry;exact PySem.EqNone.eq_none_none (G9 I q (by simp))
  | bl j=>cases ry;exact PySem.EqNone.eq_none_bool (G9 I q (by simp))
  | int j=>obtain⟨t',rfl⟩:=ry;exact PySem.EqNone.eq_none_int (G9 I q (by simp))
  | str j=>obtain⟨t',rfl⟩:=ry;exact PySem.EqNone.eq_none_str (G9 I q (by simp))
  | _=>exact absurd (show false=true from hs) d5
 | bl i=>
  cases rx;cases y with
  | au=>cases ry;exact PySem.EqNone.eq_bool_none (G9 I q (by simp))
  | bl j=>cases ry;exact eq_bool (G9 I q Fm)
  | str j=>obtain⟨t',rfl⟩:=ry;exact PySem.EqMixed.eq_bool_str (G9 I q (by simp))
  | _=>exact absurd (show false=true from hs) d5
 | int i=>
  obtain⟨t,rfl⟩:=rx;cases y with
  | au=>cases ry;exact PySem.EqNone.eq_int_none (G9 I q (by simp))
  | int j=>obtain⟨t',rfl⟩:=ry;exact eq_int (G9 I q vV)
  | str j=>obtain⟨t',rfl⟩:=ry;exact PySem.EqMixed.eq_int_str (G9 I q (by simp))
  | _=>exact absurd (show false=true from hs) d5
 | str i=>
  obtain⟨t,rfl⟩:=rx;cases y with
  | au=>cases ry;exact PySem.EqNone.eq_str_none (G9 I q (by simp))
  | bl j=>cases ry;exact PySem.EqMixed.eq_str_bool (G9 I q (by simp))
  | int j=>obtain⟨t',rfl⟩:=ry;exact PySem.EqMixed.eq_str_int (G9 I q (by simp))
  | str j=>obtain⟨t',rfl⟩:=ry;exact eq_str (G9 I q vU)
  | _=>exact absurd (show false=true from hs) d5
 | jn i=>
  obtain⟨t,rfl⟩:=rx;cases y with
  | jn j=>obtain⟨t',rfl⟩:=ry;exact PySem.W.eq_bytes (G9 I q vW)
  | _=>exact absurd (show false=true from hs) d5
 | _=>cases y<;>exact absurd (show false=true from hs) d5
theorem XA:eB X (compareOp .NotEq) XY:=by
 intro pi s σ H x y v u Q I rx ry h;obtain⟨hs,q⟩:=h;cases x with
 | au=>
  cases rx;cases y with
  | au=>cases ry;exact PySem.EqNone.ne_none_none (G9 I q (by simp))
  | bl j=>cases ry;exact PySem.EqNone.ne_none_bool (G9 I q (by simp))
  | int j=>obtain⟨t',rfl⟩:=ry;exact PySem.EqNone.ne_none_int (G9 I q (by simp))
  | str j=>obtain⟨t',rfl⟩:=ry;exact PySem.EqNone.ne_none_str (G9 I q (by simp))
  | _=>exact absurd (show false=true from hs) d5
 | bl i=>
  cases rx;cases y with
  | au=>cases ry;exact PySem.EqNone.ne_bool_none (G9 I q (by simp))
  | bl j=>cases ry;exact ne_bool (G9 I q (congrArg not Fm))
  | str j=>obtain⟨t',rfl⟩:=ry;exact PySem.EqMixed.ne_bool_str (G9 I q (by simp))
  | _=>exact absurd (show false=true from hs) d5
 | int i=>
  obtain⟨t,rfl⟩:=rx;cases y with
  | au=>cases ry;exact PySem.EqNone.ne_int_none (G9 I q (by simp))
  | int j=>obtain⟨t',rfl⟩:=ry;exact ne_int (G9 I q (congrArg not vV))
  | str j=>obtain⟨t',rfl⟩:=ry;exact PySem.EqMixed.ne_int_str (G9 I q (by simp))
  | _=>exact absurd (show false=true from hs) d5
 | str i=>
  obtain⟨t,rfl⟩:=rx;cases y with
  | au=>cases ry;exact PySem.EqNone.ne_str_none (G9 I q (by simp))
  | bl j=>cases ry;exact PySem.EqMixed.ne_str_bool (G9 I q (by simp))
  | int j=>obtain⟨t',rfl⟩:=ry;exact PySem.EqMixed.ne_str_int (G9 I q (by simp))
  | str j=>obtain⟨t',rfl⟩:=ry;exact ne_str (G9 I q (congrArg not vU))
  | _=>exact absurd (show false=true from hs) d5
 | jn i=>
  obtain⟨t,rfl⟩:=rx;cases y with
  | jn j=>obtain⟨t',rfl⟩:=ry;exact PySem.W.ne_bytes (G9 I q (congrArg not vW))
  | _=>exact absurd (show false=true from hs) d5
 | _=>cases y<;>exact absurd (show false=true from hs) d5
theorem Rx:eB X (compareOp .Lt) (lP λi j=>.bl (decide (i<j))):=yu λ_ _ _ _ _ _ _ q=>lt_int q
theorem Ry:eB X (compareOp .LtE) (lP λi j=>.bl (decide (i<=j))):=yu λ_ _ _ _ _ _ _ q=>le_int q
theorem Rz:eB X (compareOp .Gt) (lP λi j=>.bl (decide (j<i))):=yu λ_ _ _ _ _ _ _ q=>gt_int q
theorem RA:eB X (compareOp .GtE) (lP λi j=>.bl (decide (j<=i))):=yu λ_ _ _ _ _ _ _ q=>ge_int q
theorem Nk:eB X (compareOp .IsNot) (λx y H Q=>y=.au/\Q (.bl (!decide (x=.au))) H):=by
 intro pi s σ H x y v u Q I rx ry h;obtain⟨rfl,q⟩:=h;cases ry;refine isnot_none_gen (G9 I q ?_);cases x<;>first
  | (cases rx;rfl)
  | (obtain⟨t,rfl⟩:=rx;rfl)
theorem eB.or{f:Value->Value->Sem Value}{r bE:R2}(h:eB X f r)(h':eB X f bE):eB X f (λx y H Q=>r x y H Q\/bE x y H Q):=by
 intro pi s σ H x y v u Q I rx ry q;rcases q with q | q
 .exact h pi s σ H x y v u Q I rx ry q
 .exact h' pi s σ H x y v u Q I rx ry q
theorem Ng{r:R2}(ho:eB X (compareOp op) r)(ha:PE X a ta)(hb:PE X b tb)(hm:behindInMarks op b=false):PE X (.Compare a [op] [b] pos) (vh r ta tb):=by
 intro pi s σ H Q I h;exact wpAny_Compare1 (Bt ha hb I h λv u s2 x y H2 I2 rx ry q=>ho pi s2 σ H2 x y v u Q I2 rx ry q) hm
def Rc(t:TE):TT:=λ σ H Q=>t σ H λx aa=>∃k,x=.bl k/\Q k aa
theorem MR{r:R2}(ho:eB X (compareOp op) r)(ha:PE X a ta)(hb:PE X b tb)(hm:behindInMarks op b=false):PT X (.Compare a [op] [b] pos) (Rc (vh r ta tb)):=by
 intro pi s σ H Q I h;refine wpAny_isTrue_Compare1 (a9 (ha pi s σ H _ I h) λv s1 ⟨x,H1,I1,r1,q1⟩=>a9 (hb pi s1 σ H1 _ I1 q1) λu s2 ⟨y,H2,I2,r2,q2⟩=>
  a9 (ho pi s2 σ H2 x y v u _ I2 r1 r2 q2) λc s3 ⟨z,H3,I3,r3,k,e,q3⟩=>?_) hm
 subst e;cases r3;exact wpAny_truthy_bool ⟨H3,I3,q3⟩
def Bv(K:p4)(x:V)(H:Hp)(k:Bool):Prop:=
 match x with
 | .au=>k=false
 | .bl b=>k=b
 | .int i=>k=(i != 0)
 | .str y=>y.length<=sizeLine/\k=((y.length:Int) != 0)
 | .jn y=>y.size<=sizeLine/\k=((y.size:Int) != 0)
 | .ref p=>(∃xs,b9 K H p xs/\k=!xs.isEmpty)\/(∃xs,dS K H p xs/\k=!xs.isEmpty)\/∃kvs,H p=some (.dK kvs)/\k=!kvs.isEmpty
 | _=>False
theorem rZ{kvs:List (da×V)}{vs:List (da×Value)}(r:KV kvs vs):(!vs.isEmpty)=!kvs.isEmpty:=by
 cases r<;>rfl
theorem cU{xs:List V}(r:Vals xs its):(!its.toArray.isEmpty)=!xs.isEmpty:=by
 cases r<;>simp
theorem uS:(sizeLine:Nat)<2 ^ 63:=by rw[fq];decide
theorem OX:SO X (λx H Q=>∃k,Bv X.K x H k/\Q k H):=by
 intro pi s σ H x v Q I rx h;obtain⟨k,e,q⟩:=h;have hl:=uS;have hs:sizeLine=16777216:=fq;cases x with
 | au=>
  cases rx;have aE:k=false:=e;subst aE;exact truthy_none ⟨H,I,q⟩
 | bl b=>
  cases rx;have aE:k=b:=e;subst aE;exact wpAny_truthy_bool ⟨H,I,q⟩
 | int i=>
  obtain⟨t,rfl⟩:=rx;have aE:k=(i != 0):=e;subst aE;exact PySem.P.truthy_int ⟨H,I,q⟩
 | str y=>
  obtain⟨t,rfl⟩:=rx;obtain⟨hy,aE⟩:y.length<=sizeLine/\k=((y.length:Int) != 0):=e;subst aE;exact PySem.P.truthy_str (by lia) ⟨H,I.tok _,q⟩
 | jn y=>
  obtain⟨t,rfl⟩:=rx;obtain⟨hy,aE⟩:y.size<=sizeLine/\k=((y.size:Int) != 0):=e;subst aE;exact PySem.W.truthy_bytes (by lia) ⟨H,I.tok _,q⟩
 | ref p=>
  cases rx;have aE:(∃xs,b9 X.K H p xs/\k=!xs.isEmpty)\/(∃xs,dS X.K H p xs/\k=!xs.isEmpty)\/∃kvs,H p=some (.dK kvs)/\k=!kvs.isEmpty:=e;rcases aE with ⟨xs,hx,aE⟩ | ⟨xs,hx,aE⟩ | ⟨kvs,hx,aE⟩
  .subst aE
   obtain⟨its,r,pl,hz⟩:=I.list hx;have hlen:=r.length;exact wpAny_truthy_list pl.isList (by simp only[dv];lia) ⟨H,I.tok _,by rw[cU r];exact q⟩
  .subst aE
   obtain⟨its,r,pl,hz⟩:=I.tuple hx;have hlen:=r.length;exact truthy_tuple pl (by simp only[dv];lia) ⟨H,I.tok _,by rw[cU r];exact q⟩
  .subst aE
   obtain⟨hz,hS,vs,r,m⟩:kvs.length<=sizeLine/\(p==sysModules)=false/\∃vs,KV kvs vs/\s.heap.DictOf (CZ X.prog X.w) p vs:=I.aS p _ hx;have hlen:kvs.length=vs.length:=Paired.length r;exact wpAny_truthy_dict hS m (by lia) ⟨H,I.tok _,by rw[rZ r];exact q⟩
 | _=>exact(show False from e).elim
theorem Lh(ha:PE X a ta)(he:∀whole,isTrue a X.env whole=(do let v <-whole;standAt a.pos;holding [v] (truthy v))):
  PT X a (λ σ H Q=>ta σ H λx aa=>∃k,Bv X.K x aa k/\Q k aa):=by
 intro pi s σ H Q I h;exact isTrue_plain (a9 (ha pi s σ H _ I h) λv s1 ⟨x,H1,I1,r1,q1⟩=>OX pi s1 σ H1 x v Q I1 r1 q1) (he _)
theorem Xy:eB X (binaryOp .Add) (λx y H Q=>∃i j,x=.str i/\y=.str j/\i.length+j.length<=sizeLine/\Q (.str (i++j)) H):=by
 intro pi s σ H x y v u Q I rx ry h;obtain⟨i,j,rfl,rfl,hz,q⟩:=h;obtain⟨t,rfl⟩:=rx;obtain⟨t',rfl⟩:=ry;exact add_str (λt' tk=>⟨.str (i++j),H,I.tok _,⟨_,rfl⟩,q⟩) hz
theorem vals1{x:V}(r:Vals [x] us):∃u,us=[u]/\RelV x u:=by
 cases r with
 | cons r1 r2=>cases r2;exact⟨_,rfl,r1⟩
theorem vals2{x:V}(r:Vals [x,y] us):∃u gj,us=[u,gj]/\RelV x u/\RelV y gj:=by
 cases r with
 | cons r1 r2=>
  cases r2 with
  | cons r3 r4=>cases r4;exact⟨_,_,rfl,r1,r3⟩
theorem zF(hc:X.calm=true):fI X (.builtin "max") (λxs H Q=>∃i j,xs=[.int i,.int j]/\Q (.int (if j > i then j else i)) H):=by
 intro pi s σ H xs us Q I r h;obtain⟨i,j,rfl,q⟩:=h;obtain⟨u,gj,rfl,⟨t,rfl⟩,⟨t',rfl⟩⟩:=vals2 r;refine max_two_ints (I.ok.hd hc) λh' tk k=>⟨_,H,I.kept k,?_,q⟩
 by_cases hj:j > i
 .rw[ag hj,ag hj];exact⟨_,rfl⟩
 .rw[ak hj,ak hj];exact⟨_,rfl⟩
theorem zH:fI X (.type "int") (λxs H Q=>(∃i,xs=[.int i]/\Q (.int i) H)\/∃k,xs=[.bl k]/\Q (.int (if k then 1 else 0)) H):=by
 intro pi s σ H xs us Q I r h;rcases h with ⟨i,rfl,q⟩ | ⟨k,rfl,q⟩
 .obtain⟨u,rfl,t,rfl⟩:=vals1 r
  exact call_int_int ⟨.int i,H,I,⟨_,rfl⟩,q⟩
 .obtain⟨u,rfl,r1⟩:=vals1 r
  cases r1;exact call_int_bool ⟨.int (if k then 1 else 0),H,I.tok _,⟨_,rfl⟩,q⟩
def GW(K:p4)(x:V)(H:Hp)(n:Nat):Prop:=
 match x with
 | .str y=>y.length<=sizeLine/\n=y.length
 | .jn y=>y.size<=sizeLine/\n=y.size
 | .ref p=>(∃xs,b9 K H p xs/\n=xs.length)\/∃xs,dS K H p xs/\n=xs.length
 | _=>False
theorem Tr:fI X (.builtin "len") (λxs H Q=>∃x n,xs=[x]/\GW X.K x H n/\Q (.int n) H):=by
 intro pi s σ H xs us Q I r h;obtain⟨x,n,rfl,e,q⟩:=h;obtain⟨u,rfl,rx⟩:=vals1 r;have hl:=uS;have hs:sizeLine=16777216:=fq;cases x with
 | str y=>
  obtain⟨t,rfl⟩:=rx;obtain⟨hy,aE⟩:y.length<=sizeLine/\n=y.length:=e;subst aE;exact len_str (by lia) ⟨.int _,H,I.tok _,⟨_,rfl⟩,q⟩
 | jn y=>
  obtain⟨t,rfl⟩:=rx;obtain⟨hy,aE⟩:y.size<=sizeLine/\n=y.size:=e;subst aE;exact PySem.W.len_bytes (by lia) ⟨.int _,H,I.tok _,⟨_,rfl⟩,q⟩
 | ref p=>
  cases rx;have aE:(∃xs,b9 X.K H p xs/\n=xs.length)\/∃xs,dS X.K H p xs/\n=xs.length:=e;rcases aE with ⟨xs,hx,aE⟩ | ⟨xs,hx,aE⟩
  .subst aE
   obtain⟨its,bE,pl,hz⟩:=I.list hx;have hlen:=bE.length;exact Calls.call_len_list pl.isList (by simp only[dv];lia) ⟨.int xs.length,H,I.tok _,⟨_,by simp only[dv];rw[hlen]⟩,q⟩
  .subst aE
   obtain⟨its,bE,pl,hz⟩:=I.tuple hx;have hlen:=bE.length;exact len_tuple pl (by simp only[dv];lia) ⟨.int xs.length,H,I.tok _,⟨_,by simp only[dv];rw[hlen]⟩,q⟩
 | _=>exact(show False from e).elim
end
end L2
namespace L2
open PySem PySem.Spec PyProof.Rows
section
variable{x dx C:Addr}{aaT:Str->Option Value}{v:Value}
end
theorem nu.some_of{v:V}{o:Option Value}(r:nu (some v) o):∃u,o=some u/\RelV v u:=by
 cases o with
 | none=>exact(show False from r).elim
 | some u=>exact⟨u,rfl,r⟩
section
variable{C dx:Addr}{fs ud:List (Str×V)}
end
section
variable{C dx:Addr}{fs:List (Str×V)}{f:Str}{v:V}
end
section
variable{value:Expr}{f:Str}{YO:Pos}{tv:TE}
end
section
variable{c:Value}{b:Bool}
end
end L2
namespace L2
open PySem PySem.Spec PyProof.Rows
structure gf(k:Nat)(A:Around):Prop where
 hd:A.handled=none
 dp:A.depth+3*k+5<recursionLimit
 un:A.units+16*k+200<cLine
theorem gf.deeper{k:Nat}(r:gf (k+1) A)(env:Env):gf k (A.deeper env):=
 ⟨r.hd,by have:=r.dp;show A.depth+1+3*k+5<_;lia,by have:=r.un;show A.units+3+16*k+200<_;lia⟩
theorem gf.depth{k:Nat}(r:gf k A):A.depth<recursionLimit:=by have:=r.dp;lia
theorem gf.units{k:Nat}(r:gf k A):A.units+64<cLine:=by have:=r.un;lia
def vk:TA:=λ_ H Q=>Q [] H
def AW(ta:TE)(tr:TA):TA:=λ σ H Q=>ta σ H λx H1=>tr σ H1 λxs H2=>Q (x::xs) H2
section
variable{t:TA}
theorem JR:PA X [] vk:=λ_ _ _ _ H Q I h=>qe ⟨[],H,I,.nil,h⟩
theorem J7(ha:PE X e te)(hr:PA X es t)(hs:starEach (e::es) X.env=(false,eval e X.env)::starEach es X.env:=by rfl):PA X (e::es) (AW te t):=by
 intro pos pi s σ H Q I h;rw[hs];show wpAny _ _ (spliced ((false,eval e X.env)::backTo pos (starEach es X.env))) _ _ s;refine oI (a9 (ha pi s σ H _ I h) λu s1 ah=>?_);obtain⟨x,H1,I1,r1,q1⟩:=ah;exact a9 (hr pos pi s1 σ H1 _ I1 q1) λus s2 ⟨xs,H2,I2,r2,q2⟩=>⟨x::xs,H2,I2,.cons r1 r2,q2⟩
def Bn(t:TA):TE:=λ σ H Q=>t σ H λxs H1=>xs.length<=sizeLine/\∀p,H1 p=none->Q (.ref p) (upd H1 p (.lst xs))
theorem ET(h:PA X es t):PE X (.List es pos) (Bn t):=by
 intro pi s σ H Q I hq;refine wpAny_List_spliced (a9 (h pos pi s σ H _ I hq) λus s1 ⟨xs,H1,I1,r,z,q⟩=>⟨by rw[<-r.length];exact z,?_⟩);have hf:H1 s1.heap.objs.size=none:=I1.aS.fresh (a0 _);refine⟨.ref s1.heap.objs.size,upd H1 s1.heap.objs.size (.lst xs),I1.laid (t':=s1.toks) (λb u e=>dg _ e) (a0 _) ?_,rfl,q _ hf⟩;exact⟨z,us,0,r,dj _ rfl⟩
end
abbrev Sp:=List V->Hp->VK->XK->Prop
abbrev kT:=List Env->Hp->Shared->XK->Value->Shared->Prop
structure yB(P:Program)(w:World)(K:p4)(mg:Str->Option Value)(base:Heap)(A:Around)(outer:List Env)(s:Shared)(H:Hp):Prop where
 frames:A.frames=some outer
 mod:Mod K mg base
 bs:∀b o,base.get? b=some o->s.heap.get? b=some o/\H b=none
 qb:base.objs.size<=s.heap.objs.size
 mA:s.heap.FunFrames base outer
 uc:∀b∈mr outer,H b=none
 aS:eM P w H s.heap
 bare:AllBare s.gens
def CE(outer:List Env)(P:Program)(w:World)(H:Hp)(s:Shared)(Q:VK)(u:Value)(s':Shared):Prop:=
 ∃v aa,s'.os=s.os/\AllBare s'.gens/\Un (mr outer) [] H aa s.heap s'.heap/\eM P w aa s'.heap/\RelV v u/\Q v aa
def CR(CX:kT)(outer:List Env)(P:Program)(w:World)(H:Hp)(s:Shared)(Q:VK)(E:XK)(r:Result)(s':Shared):Prop:=
 match r with
 | .ok (.ret u)=>CE outer P w H s Q u s'
 | .ok _=>False
 | .error e=>CX outer H s E e s'
structure i6(P:Program)(w:World)(K:p4)(mg:Str->Option Value)(base:Heap)(CX:kT)(k:Nat)(f:Addr)(fd:FuncData)(ps:List Str)(sp:Sp):Prop where
 len:∀vs H Q E,sp vs H Q E->vs.length=ps.length
 run:∀(A:Around) (outer:List Env) (s:Shared) (H:Hp) (args:Args) (us:List Value) (vs:List V) (Q:VK) (E:XK),gf k A->yB P w K mg base A outer s H->BindsTo s fd args (ps.zip us)->Vals vs us->sp vs H Q E->
  codeAny (model P w) A (.call (.ref f) args) (CR CX outer P w H s Q E) s
theorem i6.imp{k:Nat}(F:i6 P w K mg base CX k f fd ps sp)(h:∀vs H Q E,Kp vs H Q E->sp vs H Q E):i6 P w K mg base CX k f fd ps Kp:=
 ⟨λvs H Q E q=>F.len vs H Q E (h _ _ _ _ q),λA outer s H args us vs Q E hr he hb hv hs=>F.run A outer s H args us vs Q E hr he hb hv (h _ _ _ _ hs)⟩
section
variable{s':Shared}
theorem Inv.TN(I:Inv X pi σ H s):yB X.prog X.w X.K X.mg X.base X.A X.stack s H:=
 ⟨I.ok.frames,I.ok.mod,I.bs,eJ I.ok.qb I.sz,I.stack,I.Kq,I.aS,I.bare⟩
theorem Inv.after{Q:VK}(I:Inv X pi σ H s)(h:CE X.stack X.prog X.w H s Q u s'):EP X pi σ Q u s':=by
 obtain⟨v,aa,os,bare,un,aS,r,q⟩:=h;obtain⟨hh,g,d,t,XB⟩:=s';obtain rfl:XB=s.os:=os;exact⟨v,aa,I.call (h':=hh) (g':=g) (d':=d) (t':=t) (ch:=[]) un aS bare (λb z=>absurd z (by simp)),r,q⟩
end
def Rj(sp:Sp)(qd:List V)(E:XK)(t:TA):TE:=λ σ H Q=>t σ H λvs H1=>sp (vs++qd) H1 Q E
def Binds(K:p4)(fd:FuncData)(ps:List Str)(ds:List Value):Prop:=
 ∀(s:Shared) (us:List Value),K.In s.heap->(us++ds).length=ps.length->BindsTo s fd ⟨us,[]⟩ (ps.zip (us++ds))
theorem Binds.all(h:∀us:List Value,us.length=ps.length->bindArgs fd ⟨us,[]⟩=pure (ps.zip us)):Binds K fd ps []:=λs us _ hl=>by
 rw[ue]at hl ⊢;exact .of_eq (h us hl)
def Passes(CX:kT)(X:Cx)(E:XK):Prop:=∀(pi:List (Addr×Obj)) (σ:St) (H:Hp) (s:Shared) (e:Value) (s':Shared),Inv X pi σ H s->CX X.stack H s E e s'->X.xe e s'
section
variable{CX:kT}{k:Nat}{C:Addr}{sp:Sp}{qd:List V}{ds:List Value}{E:XK}{m:Str}{t:TA}
theorem Pr{Q:VK}(F:i6 X.prog X.w X.K X.mg X.base CX k f fd ps sp)(hr:gf k X.A)(hb:Binds X.K fd ps ds)(hd:Vals qd ds)(hx:Passes CX X E)(I:Inv X pi σ H s)(r:Vals vs us)(h:sp (vs++qd) H Q E):wpAny (model X.prog X.w) X.A (call (.ref f) us) (EP X pi σ Q) X.xe s:=by
 have r2:Vals (vs++qd) (us++ds):=r.append hd;have hl:(us++ds).length=ps.length:=by rw[<-r2.length];exact F.len _ _ _ _ h
 refine wpAny_call (wc (F.run X.A X.stack s H ⟨us,[]⟩ (us++ds) (vs++qd) Q E hr I.TN (hb s us I.sL hl) r2 h) λr s' hq=>?_);cases r with
 | error e=>exact hx pi σ H s e s' I hq
 | ok fl=>
  cases fl with
  | ret u=>exact I.after hq
  | next=>exact False.elim hq
  | brk=>exact False.elim hq
  | cont=>exact False.elim hq
theorem Nh(F:i6 X.prog X.w X.K X.mg X.base CX k f fd ps sp)(hr:gf k X.A)(hg:Gl X x)(hm:X.mg x=some (.ref f))(hk:PySem.W.keepIn X.K (.ref f)=true)(hb:Binds X.K fd ps ds)(hd:Vals qd ds)(hx:Passes CX X E)(ha:PA X (e::es) t)(jc:(x==("__debug__" : Str))=false:=by decide)(he:starEach (e::es) X.env=(false,eval e X.env)::starEach es X.env:=by rfl)(jd:(backTo pos (starEach es X.env)).any (·.1)=false:=by rfl) :
  PE X (.Call (.Name x p) (e::es) [] pos) (Rj sp qd E t):=by
 intro pi s σ H Q I h;refine wpAny_Call_Name_kw (vG I hg hm ?_ jc);refine PySem.W.callWith_K (h₀:=X.base) I.ok.mod.Dx hk (a9 (ha pos pi s σ H _ I h) λus s1 ⟨vs,H1,I1,r,q⟩=>⟨I1.sL,?_⟩) he jd;exact Pr F hr hb hd hx I1 r q
end
section
variable{CX:kT}{k:Nat}{C:Addr}{ks:List Str}{sp:Sp}{E:XK}{m:Str}{aaO:Pos}{aaQ:List Keyword}{t tk:TA}{nm:Option Str}
variable{g:List Value->List Value->List Value}{aah:List V->List V->List V}
end
structure XS(N P:List Str)(sc:Scope):Prop where
 kind:sc.kind=.function
 co:sc.isCoroutine=false
 gen:sc.isGenerator=false
 nd:N.Nodup
 pre:N.take P.length=P
 par:∀x∈P,sc.names.lookup x=some .local\/sc.names.lookup x=some .cell
 Xo:∀y∈sc.names,y.2≠.free
theorem j5{kindOf:Str->Option NameKind}:∀{binds:List (Str×Value)} {m:Str->Option Value},(∀v,(x,v)∉binds)->bindL kindOf binds m x=m x
 | [],_,_=>rfl
 | (n,v)::r,m,h=>by
  unfold bindL;rw[j5 λw hw=>h w (b7 _ hw)];split
  .have:x≠n:=by rintro rfl;exact h v b0
   simp[this]
  .rfl
theorem j7{kindOf:Str->Option NameKind}:∀{binds:List (Str×Value)} {m:Str->Option Value},(∀v,(x,v)∉binds)->bindC kindOf binds m x=m x
 | [],_,_=>rfl
 | (n,v)::r,m,h=>by
  unfold bindC;rw[j7 λw hw=>h w (b7 _ hw)];split
  .rfl
  .have:x≠n:=by rintro rfl;exact h v b0
   simp[this]
theorem j6{kindOf:Str->Option NameKind}:∀{P:List Str} {vs:List Value} {i:Nat} {m:Str->Option Value},P.Nodup->P[i]?=some x->vs[i]?=some v->kindOf x=some .local->
  bindL kindOf (P.zip vs) m x=some v
 | [],_,_,_,_,h,_,_=>by simp at h
 | _::_,[],_,_,_,_,h,_=>by simp at h
 | p::P,w::vs,0,m,nd,h1,h2,hk=>by
  simp at h1 h2;subst h1;subst h2;show bindL kindOf ((p,w)::P.zip vs) m p=_;unfold bindL;rw[j5 λv hv=>(k0 nd).1 (List.of_mem_zip hv).1,ag hk];simp
 | p::P,w::vs,i+1,m,nd,h1,h2,hk=>by
  show bindL kindOf ((p,w)::P.zip vs) m x=_;unfold bindL;exact j6 (i:=i) (k0 nd).2 (by simpa using h1) (by simpa using h2) hk
theorem j8{kindOf:Str->Option NameKind}:∀{P:List Str} {vs:List Value} {i:Nat} {m:Str->Option Value},P.Nodup->P[i]?=some x->vs[i]?=some v->kindOf x≠some .local->
  bindC kindOf (P.zip vs) m x=some v
 | [],_,_,_,_,h,_,_=>by simp at h
 | _::_,[],_,_,_,_,h,_=>by simp at h
 | p::P,w::vs,0,m,nd,h1,h2,hk=>by
  simp at h1 h2;subst h1;subst h2;show bindC kindOf ((p,w)::P.zip vs) m p=_;unfold bindC;rw[j7 λv hv=>(k0 nd).1 (List.of_mem_zip hv).1,ak hk];simp
 | p::P,w::vs,i+1,m,nd,h1,h2,hk=>by
  show bindC kindOf ((p,w)::P.zip vs) m x=_;unfold bindC;exact j8 (i:=i) (k0 nd).2 (by simpa using h1) (by simpa using h2) hk
noncomputable def start(N:List Str)(vs:List V):St:=vs.map some++List.replicate (N.length-vs.length) none
noncomputable def pG(CX:kT)(P:Program)(w:World)(K:p4)(mg:Str->Option Value)(base:Heap)(N:List Str)(qual:Str)(scope:Scope)(f:Addr)(cd:Value)(A:Around)(outer:List Env)(s:Shared)(H:Hp)(E:XK):Cx where
 prog:=P
 w:=w
 K:=K
 mg:=mg
 base:=base
 A:=A.deeper (envOfC qual scope s.heap.objs.size f cd)
 N:=N
 bx:=s
 cx:=H
 env:=envOfC qual scope s.heap.objs.size f cd
 outer:=outer
 stack:=envOfC qual scope s.heap.objs.size f cd::outer
 ex:=[]
 calm:=true
 fn:=λ_=>true
 pn:=[]
 xe:=λe s'=>wpAny (model P w) (A.deeper (envOfC qual scope s.heap.objs.size f cd)) (leaving (envOfC qual scope s.heap.objs.size f cd) e) (λ_ ye=>CX outer H s E e ye) (λaE ye=>CX outer H s E aE ye) s'
theorem pO{sc:Scope}(h:sc.names.lookup x=some .cell):∃c,(cellsFrom n sc.names []).lookup x=some c:=by
 have q:=PySem.W.cellsFrom_some sc.names n [] (.inl h);exact Option.isSome_iff_exists.mp q
theorem yK{CX:kT}{cd:Value}{outer:List Env}{E:XK}(S:XS N ps scope)(hd:A.handled=none)(e0:yB P w K mg base A outer s H)(hl:vs.length=ps.length)(r:Vals vs us)(x:InCallC s s.heap.objs.size (bindL (envOfC qual scope s.heap.objs.size f cd).kindOf (ps.zip us) λ_=>none) (cellsFrom (s.heap.objs.size+1) scope.names []) (bindC (envOfC qual scope s.heap.objs.size f cd).kindOf (ps.zip us) λ_=>none) s1) :
  Inv (pG CX P w K mg base N qual scope f cd A outer s H E) [] (start N vs) H s1:=by
 have jd:ps.length<=N.length:=by have:=congrArg List.length S.pre;rw[List.length_take]at this;lia
 obtain⟨h1,tk,rfl,hk⟩:=x.done;have ya:∀b:Addr,b∉(pG CX P w K mg base N qual scope f cd A outer s H E).ex:=λb z=>absurd (show b∈([]:List Addr) from z) (by simp)
 refine⟨⟨e0.mod,S.kind,rfl,rfl,a0 _,λy z c h1 h2=>?_,λy hy=>?_,λy c _ h=>?_,λ_=>hd,Around.frames_deeper e0.frames,.inr ⟨rfl,rfl⟩,λb z=>absurd z (ya b),e0.bs,e0.qb,λb _ _=>ya b,λb z=>absurd z (ya b),e0.mA,e0.uc⟩,
  rfl,e0.bare,Un.kept hk,⟨_,x.toInCall.ns,λi y v h1 h2 h3=>?_⟩,λy c h=>⟨_,x.cell y c h⟩,e0.aS.fresh (a0 _),λy c h=>?_,λp hp=>absurd (show p∈([]:List (Addr×Obj)) from hp) (by simp),e0.aS.kept hk,?_⟩
 .exact name_of_addr x.apart (PySem.mem_of_lookup h1) (PySem.mem_of_lookup h2)
 .have hy:scope.names.lookup y=some .cell\/scope.names.lookup y=some .free:=hy
  rcases hy with hy | hy
  .exact pO hy
  .exact absurd rfl (S.Xo _ (PySem.mem_of_lookup hy))
 .exact ml (x.above y c (PySem.mem_of_lookup h))
 .have hi:i<vs.length:=by
   unfold start at h2
   by_cases hi:i<vs.length
   .exact hi
   .rw[rS (by simpa using hi)]at h2
    rw[List.getElem?_replicate]at h2;split at h2<;>cases h2
  have ha:vs[i]?=some v:=by
   unfold start at h2;rw[kh (by simpa using hi),gi]at h2;cases e:vs[i]? with
   | none=>rw[e]at h2;cases h2
   | some a=>rw[e]at h2;cases h2;rfl
  obtain⟨u,hu,rv⟩:=r.get ha;have hp:ps[i]?=some y:=by
   rw[<-S.pre,List.getElem?_take_of_lt (by lia)];exact h1
  have JJ:ps.Nodup:=by rw[<-S.pre];exact S.nd.sublist (List.take_sublist _ _)
  refine⟨u,rv,?_⟩;rcases S.par y (jg hp) with k | k
  .exact .inl ⟨k,j6 JJ hp hu k⟩
  .obtain⟨c,e⟩:=pO (n:=s.heap.objs.size+1) k
   refine .inr ⟨.inl k,c,e,?_⟩;have q:=x.cell y c e;rw[j8 JJ hp hu (by show scope.names.lookup y≠_;rw[k];decide)]at q;exact q
 .exact e0.aS.fresh (ml (x.above y c (PySem.mem_of_lookup h)))
 .unfold start
  show _=N.length;rw[gc,a8,List.length_replicate];lia
theorem vJ{k:Nat}{dV kV doc pm dr ct oc:Value}(lk:K.lookup f=some ⟨oc,od,.func (PySem.W.fnOf name qual params body scope dV kV doc pm an dr ct),pq⟩)(jt:PySem.W.codeIn K dr qual=true)(S:XS N ps scope)(len:∀vs H Q E,sp vs H Q E->vs.length=ps.length)(lj:∀(A:Around) (outer:List Env) (s:Shared) (H:Hp) (vs:List V) (Q:VK) (E:XK),gf k (A.deeper (envOfC qual scope s.heap.objs.size f dr))->sp vs H Q E->
   ∃t,eP (pG CX P w K mg base N qual scope f dr A outer s H E) body t/\t { nx:=λ_ aa=>Q .au aa,rt:=Q } (start N vs) H) :
  i6 P w K mg base CX (k+1) f (PySem.W.fnOf name qual params body scope dV kV doc pm an dr ct) ps sp:=by
 refine⟨len,λA outer s H args us vs Q E hr e0 hb r qt=>?_⟩;have hl:=len _ _ _ _ qt;have KX:K.In s.heap:=e0.mod.Dx.keeps λb o e=>(e0.bs b o e).1
 have lim:s.heap.NoLimit:=e0.mod.nolimit.keeps λb o e=>(e0.bs b o e).1
 have Vl:∀y∈ps.zip us,scope.names.lookup y.1=some .local\/(scope.names.lookup y.1=some .cell/\((cellsFrom (s.heap.objs.size+1) scope.names []).lookup y.1).isSome=true):=λ⟨n,v⟩ hy=>by
  rcases S.par n (List.of_mem_zip hy).1 with q | q
  .exact .inl q
  .exact .inr ⟨q,PySem.W.cellsFrom_some _ _ _ (.inl q)⟩
 refine codeAny_call_function hr.depth (KX _ _ lk) rfl S.co S.gen rfl (PySem.W.codeRec_of KX jt) (hb _ _ _ _ ?_);refine wpAny_newFunctionEnv_cells S.kind Vl λenv he s1 x=>?_
 subst he;refine⟨lim.keeps x.toInCall.keep,codeAny_func ?_⟩;obtain⟨t,ht,hq⟩:=lj A outer s H vs Q E (hr.deeper _) qt;have I:Inv (pG CX P w K mg base N qual scope f dr A outer s H E) [] (start N vs) H s1:=yK S hr.hd e0 hl r x;refine ff (ht [] s1 (start N vs) H _ I hq) (λfl s' hs=>?_) λe s' hs=>hs
 have fin:∀{σ':St} {aa:Hp} {v:V} {u:Value},Inv (pG CX P w K mg base N qual scope f dr A outer s H E) [] σ' aa s'->RelV v u->Q v aa->CE outer P w H s Q u s':=
  λ {σ' aa v u} J rv q=>⟨v,aa,J.os,J.bare,J.base,J.aS,rv,q⟩
 cases fl with
 | ret u=>
  obtain⟨v,σ',aa,J,rv,q⟩:=hs;exact fin J rv q
 | next=>
  obtain⟨σ',aa,J,q⟩:=hs;exact fin (v:=V.au) (u:=Value.none) J rfl q
 | brk=>
  obtain⟨_,_,_,q⟩:=hs;exact False.elim q
 | cont=>
  obtain⟨_,_,_,q⟩:=hs;exact False.elim q
end L2
namespace L2
open PySem PySem.Spec PyProof.Rows
section
variable{t:TA}{id:String}
def Kt(r:List V->Hp->VK->Prop)(t:TA):TE:=λ σ H Q=>t σ H λvs H1=>r vs H1 Q
theorem oK(hc:fI X (.builtin id) r)(hg:Gl X x)(hm:X.mg x=none)(hv:bootBuiltins x=some (.builtin id))(ha:PA X (e::es) t)(hn:x≠"__name__":=by decide)(jc:(x==("__debug__" : Str))=false:=by decide)(he:starEach (e::es) X.env=(false,eval e X.env)::starEach es X.env:=by rfl)(jd:(backTo pos (starEach es X.env)).any (·.1)=false:=by rfl):PE X (.Call (.Name x p) (e::es) [] pos) (Kt r t):=by
 intro pi s σ H Q I h;refine wpAny_Call_Name_kw (LQ I hg hm hv ?_ hn jc);exact PyProof.Rows.callWith_builtin1 (a9 (ha pos pi s σ H _ I h) λus s1 ⟨vs,H1,I1,r1,q1⟩=>hc pi s1 σ H1 vs us Q I1 r1 q1) he jd
theorem xY(hc:fI X (.type T) r)(hg:Gl X x)(hm:X.mg x=none)(hv:bootBuiltins x=some (.type T))(ha:PA X (e::es) t)(hn:x≠"__name__":=by decide)(jc:(x==("__debug__" : Str))=false:=by decide)(he:starEach (e::es) X.env=(false,eval e X.env)::starEach es X.env:=by rfl)(jd:(backTo pos (starEach es X.env)).any (·.1)=false:=by rfl):PE X (.Call (.Name x p) (e::es) [] pos) (Kt r t):=by
 intro pi s σ H Q I h;refine wpAny_Call_Name_kw (LQ I hg hm hv ?_ hn jc);exact PyProof.Rows.callWith_type1 (a9 (ha pos pi s σ H _ I h) λus s1 ⟨vs,H1,I1,r1,q1⟩=>hc pi s1 σ H1 vs us Q I1 r1 q1) he jd
end
end L2
namespace HT
open PySem PyProof.Rows
section
open PySem.SeqAt
open PySem.AutoSeq1 (wpAny_loadPart')
open PySem.MeetsSeq PySem.MeetsSeq2 PySem.MeetsSeq3
end
theorem Tt{t b:Addr}{vs ws:List Value}(ht:IsTup s.heap t vs.toArray)(hb:IsTup s.heap b ws.toArray)(hv:vs≠[])(h1:ws=[]->Q (.ref t) s)(h2:ws≠[]->Q (.ref s.heap.objs.size) { s with heap:=s.heap.push { cls:=.type "tuple",data:=.seq (vs++ws).toArray } })(hsz:vs.length+ws.length<=sizeLine):wpAny (model prog w) A (binaryOp .Add (.ref t) (.ref b)) Q E s:=by
 obtain⟨⟨cls,dd,data,sl⟩,ho,hc,n,hd⟩:=id ht;obtain⟨⟨Hs,nE,data2,pM⟩,o4,qj,n2,hd2⟩:=id hb;simp only at hc hd qj hd2;subst hc hd qj hd2;have e:vs.toArray++ws.toArray=(vs++ws).toArray:=by simp
 by_cases hw:ws=[]
 .exact concat_meets ⟨_,ho,rfl⟩ ⟨_,o4,rfl⟩ noFill_tuple_add seq_tuple_add PySem.F.slot_tuple_add PySem.F.entry_tuple_add (PySem.F.args_tuple_add_2 _ _)
   (tuple_addW1 t b vs.toArray ws.toArray n n2 dd nE sl pM (by simpa using hv) (by simp[hw])) ⟨ho,o4,h1 hw⟩
 .refine concat_meets ⟨_,ho,rfl⟩ ⟨_,o4,rfl⟩ noFill_tuple_add seq_tuple_add PySem.F.slot_tuple_add PySem.F.entry_tuple_add (PySem.F.args_tuple_add_2 _ _)
   (tuple_addW2 t b vs.toArray ws.toArray n n2 dd nE sl pM (by simpa using hv) (by simpa using hw) (by rw[dv,dv];exact hsz)) ⟨ho,o4,?_⟩
  rw[e];exact h2 hw
noncomputable def bt(n d:Nat):Option Int->Nat
 | none=>d
 | some v=>if v<0 then (v+(n:Int)).toNat else min v.toNat n
theorem Kl(n d k:Nat):bt n d (some (k:Int))=min k n:=by
 show (if (k:Int)<0 then ((k:Int)+(n:Int)).toNat else min (k:Int).toNat n)=min k n;rw[ak (by lia),Int.toNat_natCast]
theorem Pq(n d:Nat)(hd:d<=n)(o:Option Int):bt n d o<=n:=by
 cases o with
 | none=>exact hd
 | some v=>
  show (if v<0 then (v+(n:Int)).toNat else min v.toNat n)<=n
  by_cases hv:v<0
  .rw[ag hv];lia
  .rw[ak hv];exact Nat.min_le_right _ _
theorem vY(v:Int)(n d:Nat):(if v<0 then max (v+(n:Int)) 0 else min v (n:Int))=((bt n d (some v):Nat):Int):=by
 show (if v<0 then max (v+(n:Int)) 0 else min v (n:Int))=(((if v<0 then (v+(n:Int)).toNat else min v.toNat n):Nat):Int)
 by_cases hv:v<0
 .simp only[ag hv];lia
 .simp only[ak hv];lia
theorem tX(lo hi:Option Int)(n:Nat):Builtin.Slice.sliceAdjust lo hi 1 (n:Int)=(((bt n 0 lo:Nat):Int),((bt n n hi:Nat):Int)):=by
 have h1:¬((1:Int)<0):=by lia
 unfold Builtin.Slice.sliceAdjust;simp only[h1,if_false];refine Prod.ext ?_ ?_
 .cases lo with
  | none=>rfl
  | some v=>exact vY v n 0
 .cases hi with
  | none=>rfl
  | some v=>exact vY v n n
theorem rP(i j:Nat):Builtin.Slice.slicePlaces (i:Int) (j:Int) 1=j-i:=by
 unfold Builtin.Slice.slicePlaces;have h1:(1:Int) > 0:=by lia
 simp only[h1,if_true,Int.ediv_one];split<;>lia
theorem bI{v:Value}{o:Option Int}{Q:Option Int->Shared->Prop}(p:IsPart v o)(h:Q o s):wpAny (model prog w) A (Builtin.Slice.slicePartIndex v) Q E s:=by
 cases p with
 | none=>exact slicePart_none h
 | int i t=>exact slicePart_int h
theorem Ko{sl:Addr}{vl vu:Value}{lo hi:Option Int}{Q:Int×Int×Nat->Shared->Prop}(hs:s.heap.IsSliceOf sl vl vu .none)(pl:IsPart vl lo)(pu:IsPart vu hi)(h:Q (((bt n 0 lo:Nat):Int),1,bt n n hi-bt n 0 lo) s):wpAny (model prog w) A (Builtin.Slice.sliceApplied (.ref sl) (pure (n:Int))) Q E s:=by
 obtain⟨os,sv,zu,qk⟩:=id hs;unfold Builtin.Slice.sliceApplied Builtin.Slice.sliceFields;refine ae (ae (wpAny_field sv qk (x:=vl) rfl (ae (wpAny_field sv qk (x:=vu) rfl (ae (wpAny_field sv qk (x:=.none) rfl (ai ?_)))))));refine ae (slicePart_none ?_);show wpAny _ _ (if ((1:Int)==0)=true then _ else _) _ _ s;rw[ak (by decide)];refine ae (bI pl (ae (bI pu (ae (ai ?_)))));show wpAny _ _ (match Builtin.Slice.sliceAdjust lo hi 1 (n:Int) with | (lo,hi)=>pure (lo,(1:Int),Builtin.Slice.slicePlaces lo hi 1)) _ _ s;rw[tX lo hi n];show wpAny _ _ (pure (((bt n 0 lo:Nat):Int),(1:Int),Builtin.Slice.slicePlaces ((bt n 0 lo:Nat):Int) ((bt n n hi:Nat):Int) 1)) _ _ s;rw[rP];exact ai h
theorem Lj(xs:Array Value)(i k:Nat):((List.range k).filterMap λ(m:Nat)=>xs[((i:Int)+(m:Int)*1).toNat]?).toArray=((xs.toList.drop i).take k).toArray:=by
 have e:(λ(m:Nat)=>xs[((i:Int)+(m:Int)*1).toNat]?)=λm=>xs[i+m]?:=by
  funext m;have:((i:Int)+(m:Int)*1).toNat=i+m:=by lia
  rw[this]
 rw[e];have:=pick_run xs i k;rw[List.filterMap_map]at this;have e2:((λx=>xs[x]?)∘λx=>i+x)=λm=>xs[i+m]?:=rfl
 rw[e2]at this;rw[this]
theorem Ui{t sl:Addr}{vl vu:Value}{lo hi:Option Int}(ht:IsTup s.heap t items)(hs:s.heap.IsSliceOf sl vl vu .none)(pl:IsPart vl lo)(pu:IsPart vu hi)(hw:¬(bt items.size 0 lo=0/\bt items.size items.size hi=items.size))(h:Q (.ref s.heap.objs.size) { s with heap:=s.heap.push { cls:=.type "tuple",data:=.seq ((items.toList.drop (bt items.size 0 lo)).take (bt items.size items.size hi-bt items.size 0 lo)).toArray } })(hsz:items.size<=sizeLine):wpAny (model prog w) A (getItem (.ref t) (.ref sl)) Q E s:=by
 have Aj:sizeOk (.seq ((items.toList.drop (bt items.size 0 lo)).take (bt items.size items.size hi-bt items.size 0 lo)).toArray):=by
  show ((items.toList.drop (bt items.size 0 lo)).take (bt items.size items.size hi-bt items.size 0 lo)).toArray.size<=sizeLine;rw[dv,List.length_take,List.length_drop,eK];omega
 have hj:bt items.size items.size hi<=items.size:=Pq _ _ (a0 _) hi;obtain⟨os,sv,zu,qk⟩:=id hs;have Ck:s.TypeIs (.ref sl) "slice":=⟨os,sv,zu⟩
 unfold getItem
 try with_reducible refine f6 ?_
 first | refine ae (ai ?_) | skip
 refine ae (wpAny_sequenceKey ht.typeIs (by decide) ?_);refine ae (wpAny_callSpecial?_slot (name:=Str.ofString "__getitem__") ht.typeIs PyProof.Rows.slot_tuple_getitem
  (ir PyProof.Rows.slot_tuple_getitem ht.typeIs entry_tuple_getitem ?_ (args_tuple_getitem _ _)))
 show wpAny _ _ (Builtin.Tuple.tupleItemsOf (.ref t) >>= _) _ _ s;refine ae (tupleItemsOf_ ht ?_);refine ae (wpAny_typeOf Ck ?_);rw[ag (by decide)];refine ae (Ko hs pl pu ?_);have C3:¬((((bt items.size 0 lo:Nat):Int)==0&&(1:Int)==1&&(bt items.size items.size hi-bt items.size 0 lo)==items.size)=true):=by
  intro q;rw[gp,gp]at q;have q1:((bt items.size 0 lo:Nat):Int)=0:=eq_of_beq q.1.1;have q2:bt items.size items.size hi-bt items.size 0 lo=items.size:=eq_of_beq q.2;exact hw ⟨by omega,by omega⟩
 show wpAny _ _ (if (((bt items.size 0 lo:Nat):Int)==0&&(1:Int)==1&&(bt items.size items.size hi-bt items.size 0 lo)==items.size)=true then _ else _) _ _ s;rw[ak C3,Lj]
 first
  | exact ae (m:=Builtin.Tuple.tupleExact _) (jr (ai ⟨_,rfl,ai h⟩) Aj)
  | exact ae (m:=Builtin.Tuple.tupleExact _) (jr (ae (ai (ai ⟨_,rfl,ai h⟩))) Aj)
  | exact ae (ae (m:=Builtin.Tuple.tupleExact _) (jr (ai (ai ⟨_,rfl,ai h⟩)) Aj))
  | exact ae (ae (m:=Builtin.Tuple.tupleExact _) (jr (ai ⟨_,rfl,ai h⟩) Aj))
end HT
namespace L2
open PySem PySem.Spec PyProof.Rows
abbrev TO:=St->Hp->(Option Int->Hp->Prop)->Prop
def PO(X:Cx)(e:Option Expr)(t:TO):Prop:=
 ∀(pi:List (Addr×Obj)) (s:Shared) (σ:St) (H:Hp) (Q:Option Int->Hp->Prop),Inv X pi σ H s->t σ H Q->
  wpAny (model X.prog X.w) X.A (evalPart e X.env) (λu s'=>∃o aa,Inv X pi σ aa s'/\IsPart u o/\Q o aa) X.xe s
def L6:TO:=λ_ H Q=>Q none H
def Rg(t:TE):TO:=λ σ H Q=>t σ H λx H1=>∃i,x=.int i/\Q (some i) H1
theorem intsAre_of:∀{us:List Value},Vals (ns.map V.int) us->IntsAre us ns:=by
 induction ns with
 | nil=>intro us r;rw[List.map_nil]at r;cases r;exact .nil
 | cons n ns ih=>
  intro us r;rw[cn]at r;cases r with
  | cons r1 r2=>
   obtain⟨t,e⟩:=r1;subst e;exact .cons n t (ih r2)
section
variable{lo hi:Option Expr}{tl th:TO}
theorem MV:PO X none L6:=by
 intro pi s σ H Q I h;rw[evalPart_none];exact ai ⟨none,H,I,.none,h⟩
theorem MU(h:PE X e te):PO X (some e) (Rg te):=by
 intro pi s σ H Q I hw;rw[evalPart_some];refine a9 (h pi s σ H _ I hw) λu s1 ah=>?_
 obtain⟨x,H1,I1,r1,q1⟩:=ah;obtain⟨i,rfl,q⟩:=q1;obtain⟨t,rfl⟩:=r1;exact⟨some i,H1,I1,.int i t,q⟩
def ow(X:Cx)(r:V->Option Int->Option Int->Hp->VK->Prop):Prop:=
 ∀(pi:List (Addr×Obj)) (s:Shared) (σ:St) (H:Hp) (x:V) (v vl vu:Value) (lo hi:Option Int) (sl:Addr) (Q:VK),Inv X pi σ H s->RelV x v->s.heap.IsSliceOf sl vl vu .none->IsPart vl lo->IsPart vu hi->r x lo hi H Q->
  ∃T id,typeLookup (.type T) "__getitem__" = pure (some (.builtin id))/\s.TypeIs v T/\wpAny (model X.prog X.w) X.A (getItem v (.ref sl)) (EP X pi σ Q) X.xe s
theorem ow.or{r bE:V->Option Int->Option Int->Hp->VK->Prop}(h:ow X r)(h':ow X bE):ow X (λx lo hi H Q=>r x lo hi H Q\/bE x lo hi H Q):=by
 intro pi s σ H x v vl vu lo hi sl Q I rx hs pl pu q;rcases q with q | q
 .exact h pi s σ H x v vl vu lo hi sl Q I rx hs pl pu q
 .exact h' pi s σ H x v vl vu lo hi sl Q I rx hs pl pu q
def YE(r:V->Option Int->Option Int->Hp->VK->Prop)(te:TE)(tl th:TO):TE:=λ σ H Q=>te σ H λx H1=>tl σ H1 λl H2=>th σ H2 λu H3=>r x l u H3 Q
theorem Lk{r:V->Option Int->Option Int->Hp->VK->Prop}(hr:ow X r)(he:PE X e te)(hl:PO X lo tl)(hu:PO X hi th):PE X (.Subscript e (.Slice lo hi none p2) pos) (YE r te tl th):=by
 intro pi s σ H Q I h;refine Subscript_ (a9 (he pi s σ H _ I h) λv s1 ah=>?_);obtain⟨x,H1,I1,r1,q1⟩:=ah;refine wpAny_Slice (a9 (hl pi s1 σ H1 _ I1 q1) λvl s2 ⟨l,H2,I2,pl,q2⟩=>a9 (hu pi s2 σ H2 _ I2 q2) λvu s3 ah=>?_);obtain⟨u,H3,I3,pu,q3⟩:=ah;rw[evalPart_none];refine ai ?_;have I4:Inv X pi σ H3 { s3 with heap:=s3.heap.push { cls:=.type "slice",data:=.fields #[vl,vu,.none] } }:=I3.kept (t':=s3.toks) λb ob q=>dg _ q
 obtain⟨T,id,hT,ht,hg⟩:=hr pi { s3 with heap:=s3.heap.push { cls:=.type "slice",data:=.fields #[vl,vu,.none] } } σ H3 x v vl vu l u s3.heap.objs.size Q I4 r1 (Heap.IsSliceOf.new ..) pl pu q3;show wpAny (model X.prog X.w) X.A (subscriptTail e (.Slice lo hi none p2) v (.ref s3.heap.objs.size)) (EP X pi σ Q) X.xe { s3 with heap:=s3.heap.push { cls:=.type "slice",data:=.fields #[vl,vu,.none] } };exact tail_any (ops:=[.ref s3.heap.objs.size,v]) ht hT hg (by with_unfolding_all rfl)
noncomputable def pH(xs:List V)(lo hi:Option Int):List V:=(xs.drop (HT.bt xs.length 0 lo)).take (HT.bt xs.length xs.length hi-HT.bt xs.length 0 lo)
theorem ZD(xs:List V)(lo hi:Option Int):(pH xs lo hi).length<=xs.length:=by
 unfold pH;rw[List.length_take,List.length_drop];lia
theorem Vals.Ax{xs:List V}(r:Vals xs us):us=[]↔xs=[]:=by
 cases r with
 | nil=>simp
 | cons _ _=>simp
theorem pQ:fI X (.type "tuple") (λxs H Q=>∃a ys,xs=[.ref a]/\dS X.K H a ys/\Q (.ref a) H):=by
 intro pi s σ H xs us Q I r h;obtain⟨a,ys,rfl,ha,q⟩:=h;obtain⟨u,rfl,ru⟩:=vals1 r;cases ru;obtain⟨its,_,p1,_⟩:=I.tuple ha;exact call_tuple_same (items:=its.toArray) p1 ⟨.ref a,H,I,rfl,q⟩
end
end L2
namespace L2
open PySem PySem.Spec PyProof.Rows
noncomputable def uA(n:Nat)(i:Int):Option Nat:=if 0<=i then (if i<n then some i.toNat else none) else if -(n:Int)<=i then some (i+n).toNat else none
noncomputable def c9{α:Type}(xs:List α)(i:Int):Option α:=(uA xs.length i).bind λj=>xs[j]?
theorem NH{i:Int}(h:uA n i=some j):seqIndex? i n=some j/\j<n/\-(n:Int)<=i/\i<n:=by
 unfold uA at h
 by_cases h0:0<=i
 .rw[ag h0]at h
  by_cases h1:i<n
  .rw[ag h1]at h
   have e:i.toNat=j:=cq h;exact⟨by rw[seqIndex_of h0 h1,e],by lia,by lia,h1⟩
  .rw[ak h1]at h;cases h
 .rw[ak h0]at h
  by_cases h1:-(n:Int)<=i
  .rw[ag h1]at h
   have e:(i+n).toNat=j:=cq h;exact⟨by rw[seqIndex_neg (by lia) h1,e],by lia,h1,by lia⟩
  .rw[ak h1]at h;cases h
theorem mK{xs:List α}{i:Int}(h:c9 xs i=some v):∃j,seqIndex? i xs.length=some j/\xs[j]?=some v/\j<xs.length/\-(xs.length:Int)<=i/\i<xs.length:=by
 unfold c9 at h;cases e:uA xs.length i with
 | none=>rw[e]at h;cases h
 | some j=>
  rw[e]at h;obtain⟨h1,h2,h3,h4⟩:=NH e;exact⟨j,h1,h,h2,h3,h4⟩
def mZ(b:Expr):Prop:=∀o i,subscripted b false o i=operate [o,i] (getItem o i)
def oq(X:Cx)(r:R2):Prop:=
 ∀(value slice:Expr) (pi:List (Addr×Obj)) (s:Shared) (σ:St) (H:Hp) (x y:V) (v u:Value) (Q:VK),Inv X pi σ H s->RelV x v->RelV y u->r x y H Q->
  subscripted slice false v u=operate [v,u] (getItem v u)->wpAny (model X.prog X.w) X.A (subscriptTail value slice v u) (EP X pi σ Q) X.xe s
def zb(X:Cx)(id:String)(r:V->List V->Hp->VK->Prop):Prop:=
 ∀(pi:List (Addr×Obj)) (s:Shared) (σ:St) (H:Hp) (x:V) (xs:List V) (v:Value) (us:List Value) (Q:VK),Inv X pi σ H s->RelV x v->Vals xs us->r x xs H Q->
  wpAny (model X.prog X.w) X.A (call (.builtin id) (v::us)) (EP X pi σ Q) X.xe s
section
variable{a:Expr}
theorem oq.or{r bE:R2}(h:oq X r)(h':oq X bE):oq X (λx y H Q=>r x y H Q\/bE x y H Q):=by
 intro value slice pi s σ H x y v u Q I rx ry q hs;rcases q with q | q
 .exact h value slice pi s σ H x y v u Q I rx ry q hs
 .exact h' value slice pi s σ H x y v u Q I rx ry q hs
theorem Rv{r:R2}(hr:oq X r)(ha:PE X a ta)(hb:PE X b tb)(hs:mZ b):PE X (.Subscript a b pos) (vh r ta tb):=by
 intro pi s σ H Q I h;exact Subscript_ (Bt ha hb I h λv u s2 x y H2 I2 rx ry q=>hr a b pi s2 σ H2 x y v u Q I2 rx ry q (hs _ _))
def Gy(K:p4):R2:=λx y H Q=>∃p xs i v,x=.ref p/\y=.int i/\b9 K H p xs/\c9 xs i=some v/\Q v H
def Gw(K:p4):R2:=λx y H Q=>∃p xs i v,x=.ref p/\y=.int i/\dS K H p xs/\c9 xs i=some v/\Q v H
def Gx:R2:=λx y H Q=>∃z i c,x=.str z/\y=.int i/\z.length<=sizeLine/\c9 z.cps.toList i=some c/\Q (.str ⟨#[c]⟩) H
theorem Wx:oq X (Gy X.K):=by
 intro value slice pi s σ H x y v u Q I rx ry h hs;obtain⟨p,xs,i,z,rfl,rfl,hq,he,q⟩:=h;cases rx;obtain⟨t,rfl⟩:=ry;obtain⟨its,r,pl,hz⟩:=I.list hq;obtain⟨j,h1,h2,h3,h4,h5⟩:=mK he;obtain⟨w,ew,jf⟩:=r.get h2;have hl:=r.length;have hn:=uS;have fin:EP X pi σ Q w s:=⟨z,H,I,jf,q⟩
 by_cases h0:0<=i
 .have hj:i.toNat=j:=by
   rw[seqIndex_of h0 h5]at h1;exact cq h1
  exact item_listR pl.isList h0 (by lia) (by rw[hj];simpa using ew) fin hs
 .have hj:(i+(its.toArray.size:Int)).toNat=j:=by
   rw[seqIndex_neg (by lia) h4]at h1;rw[dv,<-hl];exact cq h1
  exact subscriptTail_builtinR (x:=w) pl.isList.typeIs slot_list_getitem.lookup
   (wpAny_getItem_list_neg (Q:=λr s'=>r=w/\EP X pi σ Q r s') pl.isList (by lia) (by rw[dv]<;>lia) (by lia) (by rw[hj];simpa using ew) ⟨rfl,fin⟩) hs
theorem Jl:oq X (Gw X.K):=by
 intro value slice pi s σ H x y v u Q I rx ry h hs;obtain⟨p,xs,i,z,rfl,rfl,hq,he,q⟩:=h;cases rx;obtain⟨t,rfl⟩:=ry;obtain⟨its,r,pl,hz⟩:=I.tuple hq;obtain⟨j,h1,h2,h3,h4,h5⟩:=mK he;obtain⟨w,ew,jf⟩:=r.get h2;have hl:=r.length;have hn:=uS;have fin:EP X pi σ Q w s:=⟨z,H,I,jf,q⟩
 exact subscriptTail_builtinR (x:=w) pl.typeIs slot_tuple_getitem.lookup
  (getItem_tuple (j:=j) (Q:=λr s'=>r=w/\EP X pi σ Q r s') pl (by lia) (by lia) (by rw[dv,<-hl];exact h1) (by simpa using ew) ⟨rfl,fin⟩) hs
theorem Ql:oq X Gx:=by
 intro value slice pi s σ H x y v u Q I rx ry h hs;obtain⟨z,i,c,rfl,rfl,hz,he,q⟩:=h;obtain⟨t,rfl⟩:=rx;obtain⟨t',rfl⟩:=ry;obtain⟨j,h1,h2,h3,h4,h5⟩:=mK he;have hl:z.cps.toList.length=z.length:=by simp[Str.length]
 rw[hl]at h1 h4 h5;have hn:=uS;exact tail_any (typeIs_str s z t) slot_str_getitem.lookup (getItem_str (c:=c) (by
  have e1:decide (i < -(2 ^ 63:Int))=false:=dn (by lia);have e2:decide (i≥2 ^ 63)=false:=dn (by lia);rw[e1,e2,Bool.or_false]) (by rw[h1];simpa using h2) ⟨.str ⟨#[c]⟩,H,I.tok _,⟨_,rfl⟩,q⟩) hs
def Kd(K:p4):R2:=λx y H Q=>Gy K x y H Q\/Gw K x y H Q\/Gx x y H Q
theorem Qm:oq X (Kd X.K):=Wx.or (Jl.or Ql)
theorem jM(lo hi:Option Int)(n:Nat):(sliceBounds lo hi none n).1=((HT.bt n 0 lo:Nat):Int)/\(sliceBounds lo hi none n).2.1=((HT.bt n n hi:Nat):Int)/\(sliceBounds lo hi none n).2.2=1:=by
 refine⟨?_,?_,rfl⟩
 .cases lo with
  | none=>simp[sliceBounds,HT.bt]
  | some i=>
   simp only[sliceBounds,HT.bt,Option.getD_none,show (1:Int) > 0 by decide,if_true]
   by_cases h:i<0
   .simp only[h,if_true]<;>lia
   .simp only[h,if_false]<;>lia
 .cases hi with
  | none=>simp[sliceBounds,HT.bt]
  | some i=>
   simp only[sliceBounds,HT.bt,Option.getD_none,show (1:Int) > 0 by decide,if_true]
   by_cases h:i<0
   .simp only[h,if_true]<;>lia
   .simp only[h,if_false]<;>lia
theorem fQ(its:List Value)(lo hi:Option Int):slicePick its.toArray lo hi none=((its.drop (HT.bt its.length 0 lo)).take (HT.bt its.length its.length hi-HT.bt its.length 0 lo)).toArray:=by
 obtain⟨h1,h2,h3⟩:=jM lo hi its.toArray.size;unfold slicePick;rw[h1,h2,h3];simp only[sliceRange_one,pick_run,dv]<;>rfl
def Bq(K:p4):V->Option Int->Option Int->Hp->VK->Prop:=λx lo hi H Q=>∃a xs,x=.ref a/\b9 K H a xs/\∀p,H p=none->Q (.ref p) (upd H p (.lst (pH xs lo hi)))
theorem Yt:ow X (Bq X.K):=by
 intro pi s σ H x v vl vu lo hi sl Q I rx hs pl pu h;obtain⟨a,xs,rfl,hx,q⟩:=h;cases rx;obtain⟨its,r,ht,hz⟩:=I.list hx;have hlen:=r.length;refine⟨"list",_,slot_list_getitem.lookup,ht.isList.typeIs,?_⟩;refine wpAny_getItem_list_slice ht.isList hs pl pu .none (by simp) ?_ (by rw[dv]<;>lia);rw[fQ,<-hlen];refine⟨.ref s.heap.objs.size,_,I.laid (t':=s.toks) (o:=.lst (pH xs lo hi)) (λb ob q=>dg _ q) (a0 _) ?_,rfl,q _ (I.aS.fresh (a0 _))⟩;exact⟨eJ (ZD xs lo hi) hz,_,0,(r.drop (HT.bt xs.length 0 lo)).take (HT.bt xs.length xs.length hi-HT.bt xs.length 0 lo),dj _ rfl⟩
noncomputable def RP:V->Bool
 | .au=>true
 | .bl _=>true
 | .int _=>true
 | .str _=>true
 | _=>false
noncomputable def gb:V->V->Bool
 | .au,.au=>true
 | .bl a,.bl b=>a==b
 | .bl a,.int b=>(if a then 1 else 0)==b
 | .int a,.bl b=>a==(if b then 1 else 0)
 | .int a,.int b=>a==b
 | .str a,.str b=>a==b
 | _,_=>false
theorem lO{x:V}(ry:RelV y u)(rx:RelV x v)(fy:RP y=true)(fx:RP x=true):SeqAt.EqAt A s u v (gb y x):=by
 cases y with
 | au=>
  cases ry;cases x with
  | au=>cases rx;exact SeqAt.EqAt.same _
  | bl b=>cases rx;exact SeqAt.EqAt.none_bool b
  | int b=>obtain⟨t,rfl⟩:=rx;exact SeqAt.EqAt.none_int b t
  | str b=>obtain⟨t,rfl⟩:=rx;exact SeqAt.EqAt.none_str b t
  | _=>exact absurd (show false=true from fx) d5
 | bl a=>
  cases ry;cases x with
  | au=>cases rx;exact SeqAt.EqAt.bool_none a
  | bl b=>cases rx;exact SeqAt.EqAt.bool_bool a b
  | int b=>obtain⟨t,rfl⟩:=rx;exact SeqAt.EqAt.bool_int a b t
  | str b=>obtain⟨t,rfl⟩:=rx;exact SeqAt.EqAt.bool_str a b t
  | _=>exact absurd (show false=true from fx) d5
 | int a=>
  obtain⟨t',rfl⟩:=ry;cases x with
  | au=>cases rx;exact SeqAt.EqAt.int_none a t'
  | bl b=>cases rx;exact SeqAt.EqAt.int_bool a t' b
  | int b=>obtain⟨t,rfl⟩:=rx;exact SeqAt.EqAt.int_int a t' b t
  | str b=>obtain⟨t,rfl⟩:=rx;exact SeqAt.EqAt.int_str a t' b t
  | _=>exact absurd (show false=true from fx) d5
 | str a=>
  obtain⟨t',rfl⟩:=ry;cases x with
  | au=>cases rx;exact SeqAt.EqAt.str_none a t'
  | bl b=>cases rx;exact SeqAt.EqAt.str_bool a t' b
  | int b=>obtain⟨t,rfl⟩:=rx;exact SeqAt.EqAt.str_int a t' b t
  | str b=>obtain⟨t,rfl⟩:=rx;exact SeqAt.EqAt.str_str a t' b t
  | _=>exact absurd (show false=true from fx) d5
 | _=>exact absurd (show false=true from fy) d5
noncomputable def k9(x:V)(u:Value):Bool:=match u with
 | .none=>gb .au x
 | .bool b=>gb (.bl b) x
 | .int i _=>gb (.int i) x
 | .str z _=>gb (.str z) x
 | _=>false
theorem lN{x:V}(r:RelV y u)(f:RP y=true):k9 x u=gb y x:=by
 cases y with
 | au=>cases r;rfl
 | bl b=>cases r;rfl
 | int i=>obtain⟨t,rfl⟩:=r;rfl
 | str z=>obtain⟨t,rfl⟩:=r;rfl
 | _=>exact absurd (show false=true from f) d5
theorem mQ{x:V}{xs:List V}(h:Vals xs us)(f:xs.all RP=true):us.any (k9 x)=xs.any λy=>gb y x:=by
 induction h with
 | nil=>rfl
 | cons r t ih=>
  rw[List.all_cons,gp]at f;rw[List.any_cons,List.any_cons,lN r f.1,ih f.2]
theorem cN{x:V}{v:Value}(rx:RelV x v)(fx:RP x=true){xs:List V}(h:Vals xs us)(f:xs.all RP=true):∀u∈us,SeqAt.EqAt A s u v (k9 x u):=by
 induction h with
 | nil=>exact λu hu=>by cases hu
 | cons r t ih=>
  intro g9 hu;rw[List.all_cons,gp]at f;rcases ck hu with rfl | hu
  .rw[lN r f.1];exact lO r rx f.1 fx
  .exact ih f.2 g9 hu
noncomputable def sC(x:V)(xs:List V):Bool:=xs.any λy=>gb y x
def Kc(K:p4)(neg:Bool):R2:=λx y H Q=>∃p xs,y=.ref p/\(b9 K H p xs\/dS K H p xs)/\RP x=true/\xs.all RP=true/\Q (.bl (if neg then !sC x xs else sC x xs)) H
theorem yC:eB X (compareOp .In) (Kc X.K false):=by
 intro pi s σ H x y v u Q I rx ry h;obtain⟨p,xs,rfl,hq,fx,fs,q⟩:=h;cases ry;rcases hq with hq | hq
 .obtain⟨its,r,pl,hz⟩:=I.list hq
  refine SeqAt.in_listAt (k9 x) pl.isList (λw hw=>cN rx fx r fs w (by simpa using hw)) ⟨.bl _,H,I,rfl,?_⟩;rw[show its.toArray.any (k9 x)=its.any (k9 x) by simp,mQ r fs];exact q
 .obtain⟨its,r,pl,hz⟩:=I.tuple hq
  refine SeqAt.in_tupleAt (k9 x) pl (λw hw=>cN rx fx r fs w (by simpa using hw)) ⟨.bl _,H,I,rfl,?_⟩;rw[show its.toArray.any (k9 x)=its.any (k9 x) by simp,mQ r fs];exact q
theorem fI.or{f:Value}(h:fI X f r)(h':fI X f bE):fI X f (λxs H Q=>r xs H Q\/bE xs H Q):=by
 intro pi s σ H xs us Q I rs q;rcases q with q | q
 .exact h pi s σ H xs us Q I rs q
 .exact h' pi s σ H xs us Q I rs q
theorem m8:fI X (.type "list") (λxs H Q=>∃p ys,xs=[.ref p]/\(b9 X.K H p ys\/dS X.K H p ys)/\∀l,H l=none->Q (.ref l) (upd H l (.lst ys))):=by
 intro pi s σ H xs us Q I r h;obtain⟨p,ys,rfl,hq,q⟩:=h;obtain⟨u,rfl,rx⟩:=vals1 r;cases rx;have fin:∀(its:List Value),Vals ys its->ys.length<=sizeLine->∀(h':Heap) (df:Nat),(∀b b5,s.heap.get? b=some b5->h'.get? b=some b5)->
   h'.get? s.heap.objs.size=some { cls:=.type "list",dict:=none,data:=.seq its.toArray df,slots:=#[] }->EP X pi σ Q (.ref s.heap.objs.size) { s with heap:=h' }:=λits bE hz h' df kp e=>
  ⟨.ref s.heap.objs.size,_,I.laid (t':=s.toks) kp (a0 _) (show dw X.prog X.w _ h' _ (.lst ys) from ⟨hz,its,df,bE,e⟩),rfl,q _ (I.aS.fresh (a0 _))⟩
 rcases hq with hq | hq
 .obtain⟨its,bE,pl,hz⟩:=I.list hq
  have hlen:=bE.length;obtain⟨o,ho,hc,n,hd⟩:=pl.isList;exact call_list_seq p (.inl rfl) ho hc hd (λh' df kp e=>fin its bE hz h' df kp e) (by simp only[dv]<;>lia)
 .obtain⟨its,bE,pl,hz⟩:=I.tuple hq
  have hlen:=bE.length;obtain⟨o,ho,hc,n,hd⟩:=pl;exact call_list_seq p (.inr rfl) ho hc hd (λh' df kp e=>fin its bE hz h' df kp e) (by simp only[dv]<;>lia)
def D8(K:p4)(T:String)(x:V)(H:Hp):Prop:=match x with
 | .str _=>T = "str"
 | .int _=>T = "int"
 | .ref p=>(T = "list"/\∃xs,b9 K H p xs)\/(T = "tuple"/\∃o,K.lookup p=some o/\o.cls=.type "tuple"/\o.dict=none)\/
   (T = "dict"/\((∃kvs,H p=some (.dK kvs))\/∃kvs,H p=some (.dT kvs)))\/(T = "set"/\∃S n,H p=some (.set S n))
 | _=>False
theorem Eh{x:V}(I:Inv X pi σ H s)(r:RelV x v)(ty:D8 X.K T x H):
  s.TypeIs v T/\∀a,v=.ref a->∃ob,s.heap.get? a=some ob/\ob.dict=none:=by
 cases x with
 | str z=>
  obtain⟨t,rfl⟩:=r;cases (show T = "str" from ty);exact⟨typeIs_str s z t,λ_ e=>nomatch e⟩
 | int i=>
  obtain⟨t,rfl⟩:=r;cases (show T = "int" from ty);exact⟨typeIs_int s i t,λ_ e=>nomatch e⟩
 | ref p=>
  cases r;rcases ty with ⟨rfl,xs,hq⟩ | ⟨rfl,o,hk,hc,hd⟩ | ⟨rfl,hk⟩ | ⟨rfl,S,n,hk⟩
  .obtain⟨its,_,pl,_⟩:=I.list hq
   refine⟨pl.isList.typeIs,λa e=>?_⟩;cases e;obtain⟨o,n,e,c,hd,_⟩:=pl;exact⟨o,e,hd⟩
  .refine⟨⟨o,I.sL p o hk,hc⟩,λa e=>?_⟩
   cases e;exact⟨o,I.sL _ o hk,hd⟩
  .have z:∃o,s.heap.get? p=some o/\o.ExactDict:=by
    rcases hk with ⟨kvs,hk⟩ | ⟨kvs,hk⟩
    .obtain⟨_,_,_,_,o,_,_,e,ex,_⟩:=I.aS p _ hk
     exact⟨o,e,ex⟩
    .obtain⟨_,_,_,_,o,_,_,e,ex,_⟩:=I.aS p _ hk
     exact⟨o,e,ex⟩
   obtain⟨o,e,ex⟩:=z;refine⟨⟨o,e,ex.1⟩,λa e2=>?_⟩;cases e2;exact⟨o,e,ex.2.1⟩
  .obtain⟨o,_,_,_,e,ex,_⟩:=I.aS p _ hk
   refine⟨⟨o,e,ex.1⟩,λa e2=>?_⟩;cases e2;exact⟨o,e,ex.2.1⟩
 | _=>exact False.elim ty
def Sr(K:p4)(T:String)(r:V->List V->Hp->VK->Prop)(to:TE):TE:=λ σ H Q=>to σ H λx H1=>D8 K T x H1/\r x [] H1 Q
def D6(K:p4)(T:String)(r:V->List V->Hp->VK->Prop)(to:TE)(t:TA):TE:=λ σ H Q=>to σ H λx H1=>D8 K T x H1/\t σ H1 λxs H2=>r x xs H2 Q
variable{to:TE}{t:TA}{id:String}{r:V->List V->Hp->VK->Prop}
theorem P4(pa:PlainAttrs T)(slot:Slot T name id)(sA:typeOf (.builtin id)=pure (.type "method_descriptor"))(hm:zb X id r)(ho:PE X o to)(ia:attributeBase o name X.env (eval o X.env)=eval o X.env:=by rfl)(iA:(apos.endLine==b8.line)=true:=by rfl):PE X (.Call (.Attribute o name apos) [] [] b8) (Sr X.K T r to):=by
 intro pi s σ H Q I h;refine wpAny_Call_method0_late ia iA (a9 (ho pi s σ H _ I h) λv s1 ah=>?_);obtain⟨x,H1,I1,r1,ty,q1⟩:=ah;obtain⟨h1,h2⟩:=Eh I1 r1 ty;exact⟨T,id,pa,slot,sA,h1,h2,Calls.callWith_builtin rfl (PySem.evalArgs_none (hm pi s1 σ H1 x [] v [] Q I1 r1 .nil q1))⟩
theorem gW(pa:PlainAttrs T)(slot:Slot T name id)(sA:typeOf (.builtin id)=pure (.type "method_descriptor"))(hm:zb X id r)(ho:PE X o to)(ha:PA X (e::es) t)(ia:attributeBase o name X.env (eval o X.env)=eval o X.env:=by rfl)(mM:((backTo b8 (starEach (e::es) X.env)).all (λx=>!x.1)&&(backToKw b8 (keywordEach [] X.env)).all (λx=>x.1.isSome)
   &&decide ((e::es).length+([]:List Keyword).length+(if ([]:List Keyword).isEmpty then 0 else 1)<30))=true:=by rfl)(iA:(apos.endLine==b8.line)=true:=by rfl)(hs:starEach (e::es) X.env=(false,eval e X.env)::starEach es X.env:=by rfl)(VM:(backTo b8 (starEach es X.env)).any (·.1)=false:=by rfl) :
  PE X (.Call (.Attribute o name apos) (e::es) [] b8) (D6 X.K T r to t):=by
 intro pi s σ H Q I h;refine wpAny_Call_method_late ia mM iA rfl (a9 (ho pi s σ H _ I h) λv s1 ah=>?_);obtain⟨x,H1,I1,r1,ty,q1⟩:=ah;obtain⟨h1,h2⟩:=Eh I1 r1 ty;refine⟨T,id,pa,slot,sA,h1,h2,?_⟩;have hA:=ha b8 pi s1 σ H1 _ I1 q1;rw[hs]at hA ⊢;refine Calls.callWith_builtin (by show (false||(backTo b8 (starEach es X.env)).any (·.1))=false;rw[VM]<;>rfl) (Calls.evalArgs_plain ?_);exact a9 hA λus s2 ⟨vs,H2,I2,r2,q2⟩=>hm pi s2 σ H2 x vs v us Q I2 r1 r2 q2
end
end L2
namespace L2
open PySem PySem.Spec PyProof.Rows
def za(X:Cx)(id:String)(r:V->List V->Hp->VK->Prop):Prop:=
 ∀(pi:List (Addr×Obj)) (s:Shared) (σ:St) (H:Hp) (x:V) (xs:List V) (v:Value) (us:List Value) (Q:VK),Inv X pi σ H s->RelV x v->Vals xs us->r x xs H Q->
  wpAny (model X.prog X.w) X.A (call (.builtin id) (v::us)) (EP X pi σ Q) X.xe s
theorem Vals.one{x:V}(h:Vals [x] us):∃u,us=[u]/\RelV x u:=by
 cases h with
 | cons r t=>cases t;exact⟨_,rfl,r⟩
theorem Vals.two{x:V}(h:Vals [x,y] us):∃u v,us=[u,v]/\RelV x u/\RelV y v:=by
 cases h with
 | cons r t=>cases t with
  | cons q t=>cases t;exact⟨_,_,rfl,r,q⟩
theorem Vals.zero:∀{us:List Value},Vals [] us->us=[]
 | _,.nil=>rfl
theorem Vals.dropLast{xs:List V}(h:Vals xs us):Vals xs.dropLast us.dropLast:=by
 induction h with
 | nil=>exact .nil
 | cons r t ih=>
  cases t with
  | nil=>exact .nil
  | cons q t'=>exact .cons r ih
theorem Vals.eraseIdx:∀{xs:List V} {us:List Value} (i:Nat),Vals xs us->Vals (xs.eraseIdx i) (us.eraseIdx i)
 | _,_,_,.nil=>.nil
 | _,_,0,.cons _ t=>t
 | _,_,i+1,.cons r t=>.cons r (Vals.eraseIdx i t)
theorem Vals.reverse{xs:List V}(h:Vals xs us):Vals xs.reverse us.reverse:=by
 induction h with
 | nil=>exact .nil
 | cons r t ih=>rw[List.reverse_cons,List.reverse_cons];exact Vals.append ih (.cons r .nil)
theorem sX{α:Type}(l:List α):l.eraseIdx (l.length-1)=l.dropLast:=by
 induction l with
 | nil=>rfl
 | cons a r ih=>
  cases r with
  | nil=>rfl
  | cons b r=>
   have e:(a::b::r).length-1=((b::r).length-1)+1:=by
    have h1:(a::b::r).length=r.length+2:=rfl;have h2:(b::r).length=r.length+1:=rfl;lia
   rw[e,List.eraseIdx_cons_succ,ih]
   all_goals rfl
theorem iC{α:Type}:∀(l:List α) (i:Nat),(l.eraseIdx i).length<=l.length
 | [],_=>a0 _
 | _::_,0=>ua _
 | _::r,i+1=>Nat.succ_le_succ (iC r i)
section
variable{l b:Addr}{xs zs:List V}
theorem Inv.Ar{its':List Value}{f:Array Value->Array Value}(I:Inv X pi σ H s)(hH:H l=some (.lst xs))(e:s.heap.get? l=some { cls:=.type "list",data:=.seq its.toArray n })(hf:f its.toArray=its'.toArray)(hv:Vals ys its')(hz:ys.length<=sizeLine) :
  Inv X pi σ (upd H l (.lst ys)) { s with heap:=s.heap.update l (Obj.mapSeq f),toks:=t' }:=by
 have q:=PySem.IsL.update e f;rw[hf]at q;refine I.write (x:=l) (e:=l) (by rw[hH];exact trivial) (.inl rfl) (λmf u hb hu=>(Heap.get?_update_other s.heap (Obj.mapSeq f) (Ne.symm hb)).trans hu) ⟨_,q⟩ ?_;exact⟨hz,its',_,hv,q⟩
theorem Inv.Js(I:Inv X pi σ H s)(hv:Vals ys its)(hz:ys.length<=sizeLine):
  Inv X pi σ (upd H s.heap.objs.size (.lst ys)) { s with heap:=s.heap.push { cls:=.type "list",data:=.seq its.toArray },toks:=t' }:=
 I.laid (λ_ _ q=>dg _ q) (a0 _) ⟨hz,its,0,hv,dj _ rfl⟩
theorem Inv.fresh(I:Inv X pi σ H s):H s.heap.objs.size=none:=I.aS.fresh (a0 _)
theorem Inv.As(I:Inv X pi σ H s)(hH:H l=some (.lst xs)):xs.length<=sizeLine/\∃(its:List Value) (n:Nat),Vals xs its/\xs.length=its.length/\s.heap.get? l=some { cls:=.type "list",data:=.seq its.toArray n }:=by
 obtain⟨z,its,n,r,e⟩:=I.aS l _ hH;exact⟨z,its,n,r,r.length,e⟩
theorem JS(h:n<=sizeLine):Builtin.List.listTooLong n=false:=by
 unfold Builtin.List.listTooLong;exact dn (by lia)
end
def jZ:V->List V->Hp->VK->Prop:=λx vs H Q=>∃l xs y,x=.ref l/\vs=[y]/\H l=some (.lst xs)/\xs.length<sizeLine/\Q .au (upd H l (.lst (xs++[y])))
theorem YG:za X "list.append" jZ:=by
 intro pi s σ H x vs v us Q I rx rv h;obtain⟨l,xs,y,rfl,rfl,hH,hz,q⟩:=h;cases rx;obtain⟨u,rfl,ru⟩:=rv.one;obtain⟨z,its,n,r,hl,e⟩:=I.As hH;refine call_meets F.slot_list_append ⟨_,e,rfl⟩ F.entry_list_append (F.args_list_append_2 _ _) (PySem.list_append l its.toArray n u (by rw[dv];lia)) ⟨e,?_⟩;refine⟨.au,_,I.Ar (its':=its++[u]) hH e (by simp) (r.append (.cons ru .nil)) ?_,rfl,q⟩;rw[gc,oQ];lia
def Sv:V->List V->Hp->VK->Prop:=λx vs H Q=>∃l xs y,x=.ref l/\vs=[]/\H l=some (.lst xs)/\xs[xs.length-1]?=some y/\Q y (upd H l (.lst xs.dropLast))
theorem Qc:za X "list.pop" Sv:=by
 intro pi s σ H x vs v us Q I rx rv h;obtain⟨l,xs,y,rfl,rfl,hH,hy,q⟩:=h;cases rx;have Wh:=rv.zero;subst Wh;obtain⟨z,its,n,r,hl,e⟩:=I.As hH;obtain⟨u,hu,ru⟩:=r.get hy;have Dk:its.toArray[its.toArray.size-1]?=some u:=by
  show its.toArray[its.length-1]?=some u;rw[<-Array.getElem?_toList,<-hl];exact hu
 refine call_meets F.slot_list_pop ⟨_,e,rfl⟩ F.entry_list_pop (F.args_list_pop_1 _) (MeetsSeq.list_pop_last l its.toArray n u Dk (by rw[dv];lia)) ⟨e,?_⟩;refine⟨y,_,I.Ar (its':=its.dropLast) hH e ?_ r.dropLast ?_,ru,q⟩
 .show its.toArray.eraseIdxIfInBounds (its.toArray.size-1)=its.dropLast.toArray
  rw[dv,List.eraseIdxIfInBounds_toArray,sX]
 .rw[List.length_dropLast]
  lia
def Px:V->List V->Hp->VK->Prop:=λx vs H Q=>∃l xs i k y,x=.ref l/\vs=[.int i]/\H l=some (.lst xs)/\-(2 ^ 63)<=i/\i<2 ^ 63/\seqIndex? i xs.length=some k/\xs[k]?=some y/\Q y (upd H l (.lst (xs.eraseIdx k)))
theorem Lu:za X "list.pop" Px:=by
 intro pi s σ H x vs v us Q I rx rv h;obtain⟨l,xs,i,k,y,rfl,rfl,hH,h1,h2,hk,hy,q⟩:=h;cases rx;obtain⟨u,rfl,ru⟩:=rv.one;obtain⟨t,rfl⟩:=ru;obtain⟨z,its,n,r,hl,e⟩:=I.As hH;obtain⟨w,hw,jf⟩:=r.get hy;refine call_meets F.slot_list_pop ⟨_,e,rfl⟩ F.entry_list_pop (F.args_list_pop_2 _ _)
  (MeetsSeq.list_pop_at l its.toArray n i t k w (fitsIndex_both h1 h2) (by rw[dv,<-hl];exact hk) (by rw[<-Array.getElem?_toList];exact hw) (by rw[dv];lia)) ⟨e,?_⟩
 refine⟨y,_,I.Ar (its':=its.eraseIdx k) hH e ?_ (r.eraseIdx k) ?_,jf,q⟩
 .show its.toArray.eraseIdxIfInBounds k=(its.eraseIdx k).toArray
  rw[List.eraseIdxIfInBounds_toArray]
 .have:=iC xs k
  lia
end L2
namespace L2
open PySem PySem.Spec PyProof.Rows
section
variable{da:Type}[DecidableEq da]
noncomputable def KD(kvs:List (da×V))(k:da):Option V:=(kvs.find? λkv=>decide (kv.1=k)).map (·.2)
noncomputable def putK(kvs:List (da×V))(k:da)(v:V):List (da×V):=
 if (kvs.any λkv=>decide (kv.1=k))=true then kvs.map (λkv=>if kv.1=k then (kv.1,v) else kv) else kvs++[(k,v)]
theorem JD{p:da×V}{r:List (da×V)}{k:da}(e:p.1=k):KD (p::r) k=some p.2:=by simp[KD,List.find?_cons,e]
theorem J0{p:da×V}{r:List (da×V)}{k:da}(e:¬p.1=k):KD (p::r) k=KD r k:=by simp[KD,List.find?_cons,e]
theorem RZ(k:da):∀kvs:List (da×V),(kvs.any λkv=>decide (kv.1=k))=(KD kvs k).isSome
 | []=>rfl
 | p::r=>by
  rw[List.any_cons]
  by_cases e:p.1=k
  .simp only[JD e,dm e,Bool.true_or,Option.isSome_some]
  .rw[J0 e,dn e,Bool.false_or];exact RZ k r
theorem nA(k j:da)(y:V):∀kvs:List (da×V),KD (kvs.map λkv=>if kv.1=k then (kv.1,y) else kv) j=(KD kvs j).map λx=>if j=k then y else x
 | []=>rfl
 | p::r=>by
  have ih:=nA k j y r;rw[cn]
  by_cases h:p.1=k
  .rw[ag h]
   by_cases e:p.1=j
   .rw[JD (p:=(p.1,y)) e,JD e,jh,ag (e.symm.trans h)]
   .rw[J0 (p:=(p.1,y)) e,J0 e,ih]
  .rw[ak h]
   by_cases e:p.1=j
   .rw[JD (p:=p) e,JD e,jh,ak (λz=>h (e.trans z))]
   .rw[J0 (p:=p) e,J0 e,ih]
theorem g8(k j:da)(y:V):∀kvs:List (da×V),KD kvs k=none->KD (kvs++[(k,y)]) j=if j=k then some y else KD kvs j
 | [],_=>by
  by_cases e:k=j
  .rw[ag e.symm];exact JD (p:=(k,y)) e
  .rw[ak (λz=>e z.symm)];exact J0 (p:=(k,y)) e
 | p::r,hn=>by
  rw[List.cons_append];have hk:¬p.1=k:=λz=>by rw[JD z]at hn;cases hn
  rw[J0 hk]at hn;have ih:=g8 k j y r hn
  by_cases e:p.1=j
  .rw[JD e,JD e,ak (λz=>hk (e.trans z))]
  .rw[J0 e,J0 e,ih]
theorem KI(kvs:List (da×V))(k j:da)(y:V):KD (putK kvs k y) j=if j=k then some y else KD kvs j:=by
 unfold putK
 by_cases a:(kvs.any λkv=>decide (kv.1=k))=true
 .rw[ag a,nA]
  rw[RZ]at a
  by_cases e:j=k
  .obtain⟨x,hx⟩:=Option.isSome_iff_exists.mp a
   rw[ag e,e,hx,jh,ag rfl]
  .rw[ak e]
   cases KD kvs j with
   | none=>rfl
   | some x=>rw[jh,ak e]
 .rw[ak a]
  refine g8 k j y kvs ?_;rw[RZ]at a;cases q:KD kvs k with
  | none=>rfl
  | some x=>rw[q]at a;exact(a rfl).elim
theorem T5(kvs:List (da×V))(k:da)(v:V):(putK kvs k v).length<=kvs.length+1:=by
 unfold putK;split
 .rw[a8];lia
 .rw[gc,kg,List.length_nil];lia
theorem nu.Dp{o:Option V}{u:Option Value}(r:nu o u):o.isSome=u.isSome:=by
 cases o with
 | none=>cases u with
  | none=>rfl
  | some _=>exact(show False from r).elim
 | some _=>cases u with
  | none=>exact(show False from r).elim
  | some _=>rfl
theorem nu.getD{o:Option V}{u:Option Value}{d:V}(r:nu o u)(rd:RelV d d'):RelV (o.getD d) (u.getD d'):=by
 cases o with
 | none=>cases u with
  | none=>exact rd
  | some _=>exact(show False from r).elim
 | some _=>cases u with
  | none=>exact(show False from r).elim
  | some _=>exact r
theorem KV.val{kvs:List (da×V)}{vs:List (da×Value)}(r:KV kvs vs)(k:da):nu (KD kvs k) (valueAt vs k):=by
 unfold KV at r
 induction r with
 | nil=>exact True.intro
 | @cons p q ps qs h t ih=>
  obtain⟨h1,h2⟩:=h
  by_cases e:p.1=k
  .have aE:q.1=k:=h1.symm.trans e
   have b:valueAt (q::qs) k=some q.2:=by simp[valueAt,List.find?_cons,aE]
   rw[JD e,b];exact h2
  .have aE:¬q.1=k:=λz=>e (h1.trans z)
   have b:valueAt (q::qs) k=valueAt qs k:=by simp[valueAt,List.find?_cons,aE]
   rw[J0 e,b];exact ih
theorem KV.any{kvs:List (da×V)}{vs:List (da×Value)}(r:KV kvs vs)(k:da):(kvs.any λkv=>decide (kv.1=k))=vs.any λkv=>decide (kv.1=k):=by
 unfold KV at r
 induction r with
 | nil=>rfl
 | cons h t ih=>rw[List.any_cons,List.any_cons,ih,h.1]
theorem KV.DT{kvs:List (da×V)}{vs:List (da×Value)}(r:KV kvs vs)(k:da)(ry:RelV y u):
  KV (kvs.map λkv=>if kv.1=k then (kv.1,y) else kv) (vs.map λkv=>if kv.1=k then (kv.1,u) else kv):=by
 unfold KV at r ⊢
 induction r with
 | nil=>exact .nil
 | @cons p q ps qs h t ih=>
  rw[cn,cn];refine .cons ?_ ih;obtain⟨h1,h2⟩:=h
  by_cases e:p.1=k
  .rw[ag e,ag (h1.symm.trans e)];exact⟨h1,ry⟩
  .rw[ak e,ak (λz=>e (h1.trans z))];exact⟨h1,h2⟩
theorem KV.put{kvs:List (da×V)}{vs:List (da×Value)}(r:KV kvs vs)(k:da)(ry:RelV y u):KV (putK kvs k y) (stored vs k u):=by
 unfold putK stored;rw[r.any k]
 by_cases e:(vs.any λkv=>decide (kv.1=k))=true
 .rw[ag e,ag e];exact r.DT k ry
 .rw[ak e,ak e];exact Paired.snoc r ⟨rfl,ry⟩
theorem KV.keys{kvs:List (da×V)}{vs:List (da×Value)}(r:KV kvs vs):kvs.map (·.1)=vs.map (·.1):=by
 unfold KV at r
 induction r with
 | nil=>rfl
 | cons h t ih=>rw[cn,cn,ih,h.1]
theorem KV.length{kvs:List (da×V)}{vs:List (da×Value)}(r:KV kvs vs):kvs.length=vs.length:=Paired.length r
end
theorem cQ{k:Key}(r:RelV (kV k) u):(CZ P w).is k u=true:=by
 cases k with
 | inl i=>obtain⟨t,e⟩:=(show ∃t,u=Value.int i t from r);subst e;exact oV P w i t
 | inr x=>obtain⟨t,e⟩:=(show ∃t,u=Value.str x t from r);subst e;exact oU P w x t
theorem iG{w:World}:∀{ks:List Key} {us:List Value},Vals (ks.map kV) us->ItemsAre (CZ P w) ks us
 | [],_,r=>by rw[List.map_nil]at r;cases r;exact .nil
 | k::ks,_,r=>by
  rw[cn]at r;cases r with
  | cons h t=>exact .cons (cQ h) (iG t)
abbrev KT (H:Hp):List (List Key×V)->List (List Key×Addr×Value)->Prop:=Paired λp q=>p.1=q.1/\H q.2.1=some (.tup (p.1.map kV))/\RelV p.2 q.2.2
theorem KT.val{kvs:List (List Key×V)}(r:KT H kvs xs)(k:List Key):nu (KD kvs k) ((atKey xs k).map (·.2)):=by
 induction r with
 | nil=>exact True.intro
 | @cons p q ps qs h t ih=>
  obtain⟨h1,_,h2⟩:=h
  by_cases e:p.1=k
  .have aE:q.1=k:=h1.symm.trans e
   have b:atKey (q::qs) k=some q.2:=by simp[atKey,List.find?_cons,aE]
   rw[JD e,b];exact h2
  .have aE:¬q.1=k:=λz=>e (h1.trans z)
   have b:atKey (q::qs) k=atKey qs k:=by simp[atKey,List.find?_cons,aE]
   rw[J0 e,b];exact ih
theorem KT.DT{kvs:List (List Key×V)}(r:KT H kvs xs)(k:List Key)(ry:RelV y u):
  KT H (kvs.map λkv=>if kv.1=k then (kv.1,y) else kv) (xs.map (putAt k u)):=by
 induction r with
 | nil=>exact .nil
 | @cons p q ps qs h t ih=>
  rw[cn,cn];refine .cons ?_ ih;obtain⟨h1,h2,h3⟩:=h;unfold putAt
  by_cases e:p.1=k
  .rw[ag e,ag (h1.symm.trans e)];exact⟨h1,h2,ry⟩
  .rw[ak e,ak (λz=>e (h1.trans z))];exact⟨h1,h2,h3⟩
theorem KT.put{kvs:List (List Key×V)}(r:KT H kvs xs)(k:List Key){b:Addr}(hb:H b=some (.tup (k.map kV)))(ry:RelV y u):
  KT H (putK kvs k y) (storedH xs k b u):=by
 have e:(kvs.any λkv=>decide (kv.1=k))=(atKey xs k).isSome:=by
  rw[RZ,(r.val k).Dp,Option.isSome_map]
 unfold putK storedH;rw[e]
 by_cases q:(atKey xs k).isSome=true
 .rw[ag q,ag q];exact r.DT k ry
 .rw[ak q,ak q];exact Paired.snoc r ⟨rfl,hb,ry⟩
theorem KT.keeps{kvs:List (List Key×V)}(r:KT H kvs xs)(ht:∀b ys,H b=some (.tup ys)->aa b=some (.tup ys)):KT aa kvs xs:=
 Paired.Jw r λ_ _ z=>⟨z.1,ht _ _ z.2.1,z.2.2⟩
theorem FL{u:HO}(ok:eM P w H h)(e:Rd H a u):dw P w H h a u:=e.ok ok
theorem T7(ok:eM P w H h)(e:Rd H a (.dK kvs)):kvs.length<=sizeLine/\(a==sysModules)=false/\∃vs,KV kvs vs/\h.DictOf (CZ P w) a vs:=
 show dw P w H h a (.dK kvs) from FL ok e
theorem F9(ok:eM P w H h)(e:H a=some (.dK kvs)):kvs.length<=sizeLine/\(a==sysModules)=false/\∃vs,KV kvs vs/\h.DictOf (CZ P w) a vs:=T7 ok (.inl e)
theorem cP(ok:eM P w H h)(e:H a=some (.tup (ks.map kV))):(tupleKind (CZ P w)).is h ks a:=by
 obtain⟨_,its,r,o,h1,h2,n,h3⟩:=(show dw P w H h a (.tup (ks.map kV)) from ok a _ e)
 exact⟨o,its.toArray,n,h1,h2,h3,by simpa using iG r⟩
theorem iQ{kvs:List (List Key×V)}(ok:eM P w H h)(e:Rd H a (.dT kvs)):kvs.length<=sizeLine/\(a==sysModules)=false/\
  ∃xs,KT H kvs xs/\h.DictOfH (tupleKind (CZ P w)) a xs:=by
 obtain⟨z,y,xs,r,o,es,ep,h1,h2,h3,h4,h5⟩:=(show dw P w H h a (.dT kvs) from FL ok e)
 refine⟨z,y,xs,r,o,es,ep,h1,h2,h3,h4,λx hx=>?_,h5⟩;have all:∀{l:List (List Key×V)} {m:List (List Key×Addr×Value)},KT H l m->∀x∈m,(tupleKind (CZ P w)).is h x.1 x.2.1:=by
  intro l m q
  induction q with
  | nil=>intro x hx;exact nomatch hx
  | @cons p q ps qs hq t ih=>
   intro x hx;rcases ck hx with e | hx
   .subst e
    exact cP ok (by rw[<-hq.1];exact hq.2.1)
   .exact ih x hx
 exact all r x hx
theorem Sf{kvs:List (List Key×V)}(ok:eM P w H h)(e:H a=some (.dT kvs)):kvs.length<=sizeLine/\(a==sysModules)=false/\
  ∃xs,KT H kvs xs/\h.DictOfH (tupleKind (CZ P w)) a xs:=iQ ok (.inl e)
def j0(H:Hp)(a:Addr)(y:V)(r:Option V):Prop:=
 (∃kvs k,Rd H a (.dK kvs)/\y=kV k/\r=KD kvs k)\/∃kvs k b,Rd H a (.dT kvs)/\y=.ref b/\H b=some (.tup (k.map kV))/\r=KD kvs k
def vq(H:Hp)(a:Addr)(y v:V)(aa:Hp):Prop:=
 (∃kvs k,H a=some (.dK kvs)/\y=kV k/\kvs.length<sizeLine/\aa=upd H a (.dK (putK kvs k v)))\/
 ∃kvs k b,H a=some (.dT kvs)/\y=.ref b/\H b=some (.tup (k.map kV))/\kvs.length<sizeLine/\aa=upd H a (.dT (putK kvs k v))
theorem j0.k{k:Key}(e:H a=some (.dK kvs)):j0 H a (kV k) (KD kvs k):=.inl ⟨kvs,k,.inl e,rfl,rfl⟩
theorem vq.k{H:Hp}{a:Addr}{kvs:List (Key×V)}{k:Key}{v:V}(e:H a=some (.dK kvs))(hl:kvs.length<sizeLine):vq H a (kV k) v (upd H a (.dK (putK kvs k v))):=.inl ⟨kvs,k,e,rfl,hl,rfl⟩
section
variable{v:V}{r:Value}{o:Option V}
theorem Inv.big(I:Inv X pi σ H s):sysModules<s.heap.objs.size:=by
 have h:mainGlobals<s.heap.objs.size:=(I.mod.glob.keeps I.bk).lt;exact Nat.lt_trans (by decide) h
theorem yV(hu:A.units+1<cLine)(I:Inv X pi σ H s)(g:j0 H a y (some v))(ry:RelV y u)(h:∀gj s',Inv X pi σ H s'->RelV v gj->Q gj s'):
  wpAny (model X.prog X.w) A (getItem (.ref a) u) Q E s:=by
 rcases g with ⟨kvs,k,e,ey,l⟩ | ⟨kvs,k,b,e,ey,eb,l⟩
 .subst ey
  obtain⟨z,hd,vs,rel,dd⟩:=T7 I.aS e;obtain⟨gj,hw,jf⟩:=nu.some_of (v:=v) (o:=valueAt vs k) (by rw[l];exact rel.val k);exact wpAny_getItem_of (cQ ry) dd.mapOf hw (h gj _ (I.tok _) jf)
 .subst ey
  cases (show u=Value.ref b from ry);obtain⟨z,hd,xs,rel,dd⟩:=iQ I.aS e;obtain⟨gj,hw,jf⟩:=nu.some_of (v:=v) (o:=(atKey xs k).map (·.2)) (by rw[l];exact rel.val k);obtain⟨p,hp,qq⟩:=cj hw;refine wpAny_getItem_heap (tupleKind_room_in1 hu) (cP I.aS eb) dd hp ?_;rw[qq];exact h gj _ (I.tok _) jf
theorem Om(hu:A.units+1<cLine)(I:Inv X pi σ H s)(g:j0 H a y o)(ry:RelV y u)(h:∀s',Inv X pi σ H s'->Q (.bool (!o.isSome)) s'):
  wpAny (model X.prog X.w) A (compareOp .NotIn u (.ref a)) Q E s:=by
 rcases g with ⟨kvs,k,e,ey,l⟩ | ⟨kvs,k,b,e,ey,eb,l⟩
 .subst ey
  obtain⟨z,hd,vs,rel,dd⟩:=T7 I.aS e;refine wpAny_notIn_of (cQ ry) hd dd.mapOf ?_;rw[<-(rel.val k).Dp,<-l];exact h _ (I.tok _)
 .subst ey
  cases (show u=Value.ref b from ry);obtain⟨z,hd,xs,rel,dd⟩:=iQ I.aS e;refine wpAny_notIn_heap (tupleKind_room_in1 hu) (cP I.aS eb) hd dd ?_;have q:=(rel.val k).Dp;rw[Option.isSome_map]at q;rw[<-q,<-l];exact h _ (I.tok _)
theorem aR{ob:HO}(I:Inv X pi σ H s)(mu:vz (H a))(hs:Heap.SameBut a s.heap h')(he:∃q,h'.get? a=some q)(new:dw X.prog X.w (upd H a ob) h' a ob):
  Inv X pi σ (upd H a ob) { s with heap:=h',toks:=t' }:=
 I.write (x:=a) (e:=a) mu (.inl rfl) (λb q hb z=>(hs.2 b hb).trans z) he new
theorem lQ{vs:List (Key×Value)}(z:kvs.length<=sizeLine)(hd:(a==sysModules)=false)(rel:KV kvs vs)(dd:h'.DictOf (CZ P w) a vs):
  dw P w aa h' a (.dK kvs):=⟨z,hd,vs,rel,dd⟩
theorem yU{Q:Unit->Shared->Prop}(hu:A.units+1<cLine)(I:Inv X pi σ H s)(g:vq H a y v aa)(ry:RelV y u)(rv:RelV v r)(h:∀s',Inv X pi σ aa s'->Q () s'):
  wpAny (model X.prog X.w) A (setItem (.ref a) u r) Q E s:=by
 rcases g with ⟨kvs,k,e,ey,l,eH⟩ | ⟨kvs,k,b,e,ey,eb,l,eH⟩
 .subst ey eH
  obtain⟨z,hd,vs,rel,dd⟩:=F9 I.aS e;have hz:vs.length<=sizeLine:=by rw[<-rel.length];exact z
  have hl:(putK kvs k v).length<=sizeLine:=by have:=T5 kvs k v;lia
  refine wpAny_setItem_pairs (hsz:=hz) (cQ ry) dd λh' nB hs=>h _ ?_
  have he:∃q,h'.get? a=some q:=let ⟨q,_,_,hq,_⟩:=nB;⟨q,hq⟩
  exact aR I (by rw[e];exact True.intro) hs he (lQ hl hd (rel.put k rv) nB)
 .subst ey eH
  cases (show u=Value.ref b from ry);obtain⟨z,hd,xs,rel,dd⟩:=Sf I.aS e;have hz:xs.length<=sizeLine:=by rw[<-Paired.length rel];exact z
  have hl:(putK kvs k v).length<=sizeLine:=by have:=T5 kvs k v;lia
  refine wpAny_setItem_heap (hsz:=hz) (tupleKind_room_in1 hu) (cP I.aS eb) dd λh' nB hs=>h _ ?_
  obtain⟨q,es,ep,hq,h2,h3,h4,_,h5⟩:=nB;refine aR I (by rw[e];exact True.intro) hs ⟨q,hq⟩ ⟨hl,hd,_,(rel.put k eb rv).keeps λc ys ec=>?_,q,es,ep,hq,h2,h3,h4,h5⟩;rw[CK (RE ec e (λz=>nomatch z))];exact ec
end
section
variable{k:Key}
theorem Sh(I:Inv X pi σ H s)(e:Rd H a (.dK kvs))(h:∀t s',Inv X pi σ H s'->Q (.int kvs.length t) s'):wpAny (model X.prog X.w) A (call (.builtin "len") [.ref a]) Q E s:=by
 obtain⟨z,hd,vs,rel,dd⟩:=T7 I.aS e;refine call_len_dict hd dd (by rw[<-rel.length];rw[fq]at z;lia) ?_;rw[<-rel.length];exact h _ _ (I.tok _)
end
def yA(i:Expr):Prop:=∀ov iv,subscripted i false ov iv=operate [ov,iv] (getItem ov iv)
theorem L7{env:Env}{value slice:Expr}{id:String}(hl:typeLookup (.type T) "__getitem__" = pure (some (.builtin id)))(hs:yA slice)(h:wpAny (model prog w) A (eval value env) (λo bc=>wpAny (model prog w) A (eval slice env) (λi cS=>cS.TypeIs o T/\wpAny (model prog w) A (getItem o i) Q E cS) E bc) E s) :
  wpAny (model prog w) A (eval (.Subscript value slice pos) env) Q E s:=by
 refine Subscript_ (ff h (λo bc h₁=>ff h₁ (λi cS ph=>?_) λ_ _ x=>x) λ_ _ x=>x);obtain⟨hT,ph⟩:=ph;unfold subscriptTail;refine ae ?_;rw[getitemInPython_of_ne hT.not_modules];refine ae (wpAny_specialOf hT hl ?_);have fin:wpAny (model prog w) A (subscripted slice false o i) (λr dQ=>wpAny (model prog w) A (letTemporaryGo value o r >>= λ_=>pure r) Q E dQ) E cS:=by
  rw[hs o i];exact wpAny_operating (ff ph (λr dQ Am=>ae (wpAny_letTemporaryGo (ai Am))) λ_ _ x=>x)
 first
  | exact ai (ae fin)
  | exact ae (ai (ae fin))
  | exact ae fin
theorem pC{o:Option V}(I:Inv X pi σ H s)(g:j0 H a y o):s.TypeIs (.ref a) "dict":=by
 rcases g with ⟨kvs,k,e,_,_⟩ | ⟨kvs,k,b,e,_,_,_⟩
 .obtain⟨_,_,vs,_,dd⟩:=T7 I.aS e
  exact dd.typeIs
 .obtain⟨_,_,xs,_,dd⟩:=iQ I.aS e
  exact dd.typeIs
def AV(td ty:TE):TE:=λ σ H Q=>td σ H λx H1=>ty σ H1 λy H2=>∃a v,x=.ref a/\j0 H2 a y (some v)/\Q v H2
def jH(ty td:TE):TE:=λ σ H Q=>ty σ H λy H1=>td σ H1 λx H2=>∃a o,x=.ref a/\j0 H2 a y o/\Q (.bl (!o.isSome)) H2
def uM(td ty tv:TE):TS:=λD σ H=>tv σ H λv H1=>td σ H1 λx H2=>ty σ H2 λy H3=>∃a H4,x=.ref a/\vq H3 a y v H4/\D.nx σ H4
section
variable{i value:Expr}{YO:Pos}{ty tv:TE}
theorem vB(hu:X.A.units+1<cLine)(ho:PE X o td)(hi:PE X i ty)(hs:yA i):PE X (.Subscript o i pos) (AV td ty):=by
 intro pi s σ H Q I h;refine L7 PySem.F.slot_dict_getitem.lookup hs (a9 (ho pi s σ H _ I h) λu s1 ⟨x,H1,I1,rx,q1⟩=>a9 (hi pi s1 σ H1 _ I1 q1) λiv s2 ah=>?_);obtain⟨y,H2,I2,ry,a,v,ex,g,q2⟩:=ah;subst ex;obtain rfl:u=Value.ref a:=rx;exact⟨pC I2 g,yV hu I2 g ry λgj s3 I3 jf=>⟨v,H2,I3,jf,q2⟩⟩
theorem gY(hu:X.A.units+1<cLine)(hi:PE X i ty)(ho:PE X o td):PC X .NotIn i o (jH ty td):=by
 intro pi s σ H Q I h;refine a9 (hi pi s σ H _ I h) λiv s1 ⟨y,H1,I1,ry,q1⟩=>a9 (ho pi s1 σ H1 _ I1 q1) λu s2 ah=>?_
 obtain⟨x,H2,I2,rx,a,ov,ex,g,q2⟩:=ah;subst ex;obtain rfl:u=Value.ref a:=rx;exact Om hu I2 g ry λs3 I3=>⟨.bl (!ov.isSome),H2,I3,rfl,q2⟩
theorem v8(hu:X.A.units+1<cLine)(ho:PE X o td)(hi:PE X i ty)(hv:PE X value tv)(hs:swapsWith value (some (.Subscript o i pos')) pos.line X.env=pure false):
  PS X (.Assign [.Subscript o i pos'] value pos) (uM td ty tv):=by
 intro pi s σ H D I h;refine wpAny_Assign_Subscript (a9 (hv pi s σ H _ I h) λr s1 ⟨v,H1,I1,rv,q1⟩=>a9 (ho pi s1 σ H1 _ I1 q1) λu s2 ⟨x,H2,I2,rx,q2⟩=>a9 (hi pi s2 σ H2 _ I2 q2) λiv s3 ah=>?_) hs;obtain⟨y,H3,I3,ry,a,H4,ex,g,q3⟩:=ah;subst ex;obtain rfl:u=Value.ref a:=rx;exact yU hu I3 g ry rv λs4 I4=>⟨σ,H4,I4,q3⟩
end
theorem LG(h:Heap)(hb:sysModules<h.objs.size):dw P w H (h.push { cls:=.type "dict",data:=.dict #[] }) h.objs.size (.dK []):=
 ⟨eS _,beq_eq_false_iff_ne.mpr (Ne.symm (cm hb)),[],.nil,Heap.DictOf.new h⟩
theorem LF(h:Heap)(hb:sysModules<h.objs.size):dw P w H (h.push { cls:=.type "dict",data:=.dict #[] }) h.objs.size (.dT []):=
 ⟨eS _,beq_eq_false_iff_ne.mpr (Ne.symm (cm hb)),[],.nil,_,#[],0,dj _ rfl,⟨rfl,rfl,rfl⟩,rfl,rfl,mq⟩
def Em:TE:=λ_ H Q=>∀p,H p=none->Q (.ref p) (upd H p (.dK []))
theorem oJ:PE X (.Dict [] [] pos) Em:=λpi s σ H Q I h=>
 wpAny_Dict_empty ⟨.ref s.heap.objs.size,_,I.laid (a:=s.heap.objs.size) (o:=.dK []) (t':=s.toks) (λ_ _ q=>dg _ q) (a0 _) (LG s.heap I.big),rfl,h _ (I.aS.fresh (a0 _))⟩
noncomputable def JT(kvs more:List (Key×V)):List (Key×V):=more.foldl (λacc kv=>putK acc kv.1 kv.2) kvs
theorem KV.merge:∀{more:List (Key×V)} {rs:List (Key×Value)} {kvs:List (Key×V)} {vs:List (Key×Value)},KV more rs->KV kvs vs->KV (JT kvs more) (merged vs rs):=by
 intro more rs kvs vs r;unfold KV at r
 induction r generalizing kvs vs with
 | nil=>intro q;exact q
 | @cons p q ps qs h t ih=>
  intro r0;have e:KV (putK kvs p.1 p.2) (stored vs q.1 q.2):=by
   have:=r0.put p.1 h.2;rw[<-h.1];exact this
  exact ih e
theorem M6:∀(more kvs:List (Key×V)),(JT kvs more).length<=kvs.length+more.length
 | [],kvs=>by show kvs.length<=kvs.length+0;lia
 | p::r,kvs=>by
  have h1:=M6 r (putK kvs p.1 p.2);have h2:=T5 kvs p.1 p.2;show (JT (putK kvs p.1 p.2) r).length<=_;rw[kg];lia
structure M1(X:Cx)(o:Expr)(m:Str)(apos:Pos)(e:Expr)(b8:Pos):Prop where
 base:attributeBase o m X.env (eval o X.env)=eval o X.env
 BY:((backTo b8 (starEach [e] X.env)).all (λx=>!x.1)&&(backToKw b8 (keywordEach [] X.env)).all (λx=>x.1.isSome)
  &&decide (([e]:List Expr).length+([]:List Keyword).length+(if ([]:List Keyword).isEmpty then 0 else 1)<30))=true
 line:(apos.endLine==b8.line)=true
 trees:backTo b8 (starEach [e] X.env)=[(false,eval e X.env)]
structure M2(X:Cx)(o:Expr)(m:Str)(apos:Pos)(e f:Expr)(b8:Pos):Prop where
 base:attributeBase o m X.env (eval o X.env)=eval o X.env
 BY:((backTo b8 (starEach [e,f] X.env)).all (λx=>!x.1)&&(backToKw b8 (keywordEach [] X.env)).all (λx=>x.1.isSome)
  &&decide (([e,f]:List Expr).length+([]:List Keyword).length+(if ([]:List Keyword).isEmpty then 0 else 1)<30))=true
 line:(apos.endLine==b8.line)=true
 trees:backTo b8 (starEach [e,f] X.env)=[(false,eval e X.env),(false,eval f X.env)]
def Bz(H:Hp)(a:Addr):Prop:=(∃kvs,Rd H a (.dK kvs))\/∃kvs,Rd H a (.dT kvs)
theorem sE(I:Inv X pi σ H s)(d:Bz H a):
  s.TypeIs (.ref a) "dict"/\(∀b,Value.ref a=.ref b->∃ob,s.heap.get? b=some ob/\ob.dict=none)/\(a==sysModules)=false:=by
 rcases d with ⟨kvs,e⟩ | ⟨kvs,e⟩
 .obtain⟨_,hd,vs,_,dd⟩:=T7 I.aS e
  refine⟨dd.typeIs,λb q=>?_,hd⟩;cases q;obtain⟨ob,_,_,h1,h2,_⟩:=dd;exact⟨ob,h1,h2.2.1⟩
 .obtain⟨_,hd,xs,_,dd⟩:=iQ I.aS e
  refine⟨dd.typeIs,λb q=>?_,hd⟩;cases q;obtain⟨ob,_,_,h1,h2,_⟩:=dd;exact⟨ob,h1,h2.2.1⟩
section
variable{d:V}{r:Value}{o:Option V}
theorem Qy(hu:A.units+1<cLine)(I:Inv X pi σ H s)(g:j0 H a y o)(ry:RelV y u)(rd:RelV d r)(h:∀gj s',Inv X pi σ H s'->RelV (o.getD d) gj->Q gj s'):
  wpAny (model X.prog X.w) A (call (.builtin "dict.get") [.ref a,u,r]) Q E s:=by
 rcases g with ⟨kvs,k,e,ey,l⟩ | ⟨kvs,k,b,e,ey,eb,l⟩
 .subst ey
  obtain⟨z,hd,vs,rel,dd⟩:=T7 I.aS e;refine call_meetsIn PySem.F.slot_dict_get dd.typeIs PySem.F.entry_dict_get (PySem.F.args_dict_get_3 _ _ _) (meets_dict_get_default (CZ X.prog X.w) a (cQ ry) hd r) ⟨_,dd.mapOf,h _ _ (I.tok _) ?_⟩;rw[l];exact(rel.val k).getD rd
 .subst ey
  cases (show u=Value.ref b from ry);obtain⟨z,hd,xs,rel,dd⟩:=iQ I.aS e;refine call_meetsIn PySem.F.slot_dict_get dd.typeIs PySem.F.entry_dict_get (PySem.F.args_dict_get_3 _ _ _) (meetsH_dict_get_default (tupleKind (CZ X.prog X.w)) a b hd r) ⟨tupleKind_room_in1 hu,k,xs,cP I.aS eb,dd,h _ _ (I.tok _) ?_⟩;rw[l];exact(rel.val k).getD rd
end
def Pa(td ty tx:TE):TE:=λ σ H Q=>td σ H λx H1=>∃a,x=.ref a/\Bz H1 a/\ty σ H1 λy H2=>tx σ H2 λz H3=>∃o,j0 H3 a y o/\Q (o.getD z) H3
section
variable{f:Expr}{ty tx:TE}
theorem Lm(hu:X.A.units+1<cLine)(ho:PE X o td)(he:PE X e ty)(hf:PE X f tx)(m:M2 X o "get" apos e f b8):PE X (.Call (.Attribute o "get" apos) [e,f] [] b8) (Pa td ty tx):=by
 intro pi s σ H Q I h;refine wpAny_Call_method m.base m.BY m.line PySem.F.plainAttrs_dict PySem.F.slot_dict_get PySem.F.type_dict_get (a9 (ho pi s σ H _ I h) λu s1 ah=>?_);obtain⟨x,H1,I1,rx,a,ex,d,q1⟩:=ah;subst ex;obtain rfl:u=Value.ref a:=rx;obtain⟨t1,t2,_⟩:=sE I1 d;refine⟨t1,t2,?_⟩;rw[m.trees];refine Calls.callWith_builtin rfl (Calls.evalArgs_plain (oI (a9 (he pi s1 σ H1 _ I1 q1) λiv s2 ⟨y,H2,I2,ry,q2⟩=>
  oI (a9 (hf pi s2 σ H2 _ I2 q2) λaag s3 ⟨z,H3,I3,rz,ov,g,q3⟩=>qe ?_))))
 exact Qy hu I3 g ry rz λgj s4 I4 jf=>⟨_,H3,I4,jf,q3⟩
end
end L2
namespace tP
open PySem PySem.W PySem.Calls PyProof.Rows
theorem aA{P:Params}:∀(ns:List Int) (vs:List Value),WellAll P h vs (ns.map WData.int)->IntsAre vs ns:=by
 intro ns
 induction ns with
 | nil=>
  intro vs w;rw[List.map_nil]at w;cases w;exact .nil
 | cons n ns ih=>
  intro vs w;rw[cn]at w;cases w with
  | cons a b=>
   cases a;exact .cons _ _ (ih _ b)
theorem xT{l:OpenLaw}(hn:l.most=some n){P:Params}{vals:List Value}(Af:l.row.toRowW.claim.pre args=true)(xw:WellAll P h vals args) :
  ∃a vs ns,vals=[Value.ref a]/\args=[WData.list (ns.map WData.int)]/\h.get? a=some { cls:=.type "list",data:=.seq vs.toArray }/\IntsAre vs ns/\ns.length<=n:=by
 have Wc:WShape.hasAll [] args [.list .int]=true:=(pre_splitW Af).1;have hc:l.pre.holds [] { args:=args }=true:=(pre_splitW Af).2;obtain⟨d,r,rfl,h1,h2⟩:=hasAllW_cons Wc;obtain rfl:=hasAllW_nil h2;obtain⟨xs,rfl,h3⟩:=hasW_list h1;obtain⟨ns,rfl⟩:=items_int h3;have hlen:ns.length<=n:=by
  unfold OpenLaw.pre at hc;have h4:(WTm.not (.lt (.lit (.int (n:Int))) (.len (.arg 0)))).holds [] { args:=[.list (ns.map .int)] }=true:=by
   have h4:=(holds_andW hc).1;rw[hn]at h4;exact h4
  have h5:=condW_of h4 (w_not (w_lt w_lit (w_len_list (w_arg rfl))));rw[a8]at h5;refine Nat.le_of_not_lt λq=>?_
  have cg:(n:Int)<((ns.length:Nat):Int):=by omega
  first
   | (rw[dm cg]at h5;exact absurd h5 (by decide))
   | (simp at h5;omega)
 cases xw with
 | cons w1 w2=>
  cases w2;cases w1 with
  | list ho um=>exact⟨_,_,ns,rfl,rfl,ho,aA ns _ um,hlen⟩
theorem xU(l:OpenLaw)(args:List WData):l.row.toRowW.claim.post args (.bool true) args=true:=
 postW_of (r:=l.row.toRowW) (X:=(true==true))
  (show WShape.has [] (.bool true) .bool=true by first | rfl | decide | simp[WShape.has,WShape.arms,WShape.armsAll])
  (show (WTm.eq .res (.lit (.bool true))).value [] { args:=args,res:=some (.bool true),after:=args }=some (.bool (true==true)) from w_eq_bool (w_res rfl) w_lit) rfl
theorem Tj{l:OpenLaw}{q:Program}{d:DefRec}(hn:l.most=some n)(xa:d.params.defaults=[])(call:∀(w:World) (bx bc:Shared) (mg mb:Str->Option Value) (fa:Addr) (o:Obj) (pm cd doc:Value) (a:Addr) (vs:List Value) (ns:List Int),
   Ground q loose [] XP w bx mg mb bc.heap->YP w bc.heap->
   bc.heap.get? fa=some o->o.data=.func (docDef d.name d.params d.body d.scope pm cd doc)->bc.heap.CodeRec cd d.name->mg d.name=some (.ref fa)->
   bc.heap.get? a=some { cls:=.type "list",data:=.seq vs.toArray }->IntsAre vs ns->ns.length<=n->bc.gens=#[]->
   codeAny (model l.prog w) callerA (.call (.ref fa) ⟨[.ref a],[]⟩) (λr s'=>r=.ok (.ret (.bool true))/\OldK bc.heap s'.heap/\s'.os=bc.os/\AllBare s'.gens) bc) :
  WalkO q loose XP YP l.row.toRowW d [] (λf vs=>PySem.call f vs):=by
 intro w bx bc mg mb G Y fa o pm cd doc dV kV ho hd jt hD hmg hg args vals as Af xh aaF xw aax;obtain rfl:dV=.none:=Dflts.none hD xa;obtain rfl:kV=.none:=Dflts.noKw hD;obtain⟨a,vs,ns,rfl,rfl,C5,hints,hlen⟩:=xT hn Af xw;refine enter_call (wc (call w bx bc mg mb fa o pm cd doc a vs ns G Y ho (fd_plain hd) jt hmg C5 hints hlen hg) λr s' hq=>?_);obtain⟨rfl,h2,h3,h4⟩:=hq;exact⟨.inl ⟨.bool true,.bool true,[],rfl,λ_=>rfl,.bool true,xU l _,λ_=>⟨List.Pairwise.nil,λ_ hm=>(nomatch hm)⟩⟩,h2,h3,h4⟩
section
variable{K:Frag}
noncomputable def Ay(h:Heap):Heap:={ h with objs:=#[] }
theorem DJ(h:Heap)(b:Addr):(Ay h).get? b=none:=by
 cases e:(Ay h).get? b with
 | none=>rfl
 | some o=>exact absurd (bh e) (oC _)
theorem Uc(n:h.Ns L m):Fr (Ay h) L h m:=
 ⟨n,λb o e=>(by rw[DJ]at e;cases e),eS _⟩
end
end tP
namespace L2
open PySem PySem.Spec PyProof.Rows
theorem fZ{vs:List Value}(h:IntsAre vs ns):Vals (ns.map V.int) vs:=by
 induction h with
 | nil=>exact .nil
 | cons n t h ih=>exact .cons ⟨t,rfl⟩ ih
def zc(H:Hp):Prop:=∀b,H b=none\/∃o xs,H b=some (.bq o (.lst xs))
theorem Lx{mb:Str->Option Value}{CX:kT}{k:Nat}{fa:Addr}{bc:Shared}{vs:List Value}(KX:K.In bc.heap)(qp:bc.heap.Ns mainGlobals mg)(hb:bc.heap.Ns builtinsNs mb)(UC:∀x:Str,x≠"__name__"->mb x=bootBuiltins x)(Vp:bc.heap.NoLimit)(hg:bc.gens=#[])(ha:bc.heap.get? a=some { cls:=.type "list",data:=.seq vs.toArray })(hi:IntsAre vs ns)(hl:ns.length<=sizeLine)(hr:gf k callerA)(F:∀base:Heap,K.In base->base.Ns mainGlobals mg->i6 P w K mg base CX k fa fd [x] sp)(UE:∀(s:Shared) (u:Value),BindsTo s fd ⟨[u],[]⟩ [(x,u)])(qt:∀H:Hp,zc H->b9 K H a (ns.map V.int)->sp [.ref a] H (λv _=>v=.bl true) λ_ _ _=>False)(Ca:∀H e s',CX [] H bc (λ_ _ _=>False) e s'->False) :
  codeAny (model P w) callerA (.call (.ref fa) ⟨[.ref a],[]⟩) (λr s'=>r=.ok (.ret (.bool true))/\OldK bc.heap s'.heap/\s'.os=bc.os/\AllBare s'.gens) bc:=by
 have rv:=fZ hi;have Wz:=hi.length;have core:∀H:Hp,zc H->b9 K H a (ns.map V.int)->eM P w H bc.heap->(∀b,H b≠none->b=a)->(H a≠none->K.lookup a=none)->
   codeAny (model P w) callerA (.call (.ref fa) ⟨[.ref a],[]⟩) (λr s'=>r=.ok (.ret (.bool true))/\OldK bc.heap s'.heap/\s'.os=bc.os/\AllBare s'.gens) bc:=by
  intro H hO hS aS hA hK;have Ho:∀{b:Addr} {o:Obj},bc.heap.get? b=some o->H b=none->(lE bc.heap H).get? b=some o:=λe n=>LA e n
  have ya:∀{b:Addr} {o:Obj} {es:Array DictEntry} {ep:Nat},bc.heap.get? b=some o->o.data=.dict es ep->H b=none:=λ {b o es ep} e d=>by
   cases q:H b with
   | none=>rfl
   | some u=>
    have aE:b=a:=hA b (by rw[q];simp);subst aE;rw[ha]at e;cases e;have d':Data.seq vs.toArray _=Data.dict es ep:=d;cases d'
  have Az:∀{b:Addr} {m:Str->Option Value},bc.heap.Ns b m->(lE bc.heap H).Ns b m:=λ {b m} ⟨o,es,ep,e,d,r⟩=>⟨o,es,ep,Ho e (ya e d),d,r⟩
  have Ia:K.In (lE bc.heap H):=λb o e=>Ho (KX b o e) (by
   cases q:H b with
   | none=>rfl
   | some u=>
    have aE:b=a:=hA b (by rw[q];simp);subst aE;rw[hK (by rw[q];simp)]at e;cases e)
  have hM:Mod K mg (lE bc.heap H):=⟨Ia,Az qp,⟨mb,Az hb,UC⟩,let ⟨mc,h1,h2⟩:=Vp;⟨mc,Az h1,h2⟩⟩
  have e0:yB P w K mg (lE bc.heap H) callerA [] bc H:=⟨rfl,hM,λb o e=>Nu e,Nat.le_of_eq (yL _ _),trivial,λb hb=>absurd (show b∈([]:List Addr) from hb) (by simp),aS,.of_eq hg⟩
  refine wc ((F _ Ia (Az qp)).run callerA [] bc H ⟨[.ref a],[]⟩ [.ref a] [.ref a] _ _ hr e0 (UE bc (.ref a)) (.cons rfl .nil) (qt H hO hS)) λr s' h=>?_
  cases r with
  | error e=>exact(Ca H e s' h).elim
  | ok fl=>
   cases fl with
   | next=>exact False.elim h
   | brk=>exact False.elim h
   | cont=>exact False.elim h
   | ret u=>
    obtain⟨v,aa,os,bare,un,Vy,bE,q⟩:=h;have cg:v=.bl true:=q;subst cg;obtain rfl:u=Value.bool true:=bE;refine⟨rfl,OldK.of_keep λb o e=>?_,os,bare⟩;cases q:H b with
    | none=>exact un.keep b o e q (by intro z;exact absurd (show b∈([]:List Addr) from z) (by simp)) (by simp)
    | some u=>
     rcases hO b with z | ⟨ob,xs,z⟩
     .rw[q]at z;cases z
     .have z2:=un.mv b ob _ z
      obtain⟨e1,_⟩:=aS b _ z;obtain⟨e2,_⟩:=Vy b _ z2;rw[e]at e1;cases e1;exact e2
 cases hk:K.lookup a with
 | some o=>
  have e:=KX a o hk;rw[ha]at e;cases e;refine core (λ_=>none) (λ_=>.inl rfl) (.inr ⟨_,vs.toArray,_,hk,rfl,rfl,rfl,by rw[dv,Wz];exact hl,by simpa using rv⟩) (λb u z=>by have c6:(none:Option HO)=some u:=z;cases c6) (λb z=>absurd rfl z) λz=>absurd rfl z
 | none=>
  refine core (λb=>if b=a then some (.bq { cls:=.type "list",data:=.seq vs.toArray } (.lst (ns.map V.int))) else none) (λb=>?_) (.inl (.inr ⟨{ cls:=.type "list",data:=.seq vs.toArray },ag rfl⟩)) (λb u z=>?_) (λb z=>?_) λ_=>hk
  .by_cases hb:b=a
   .exact .inr ⟨_,_,ag hb⟩
   .exact .inl (ak hb)
  .by_cases hb:b=a
   .have c6:=(ag hb).symm.trans z
    cases c6;subst hb;exact⟨ha,by rw[a8];exact hl,vs,_,rv,ha⟩
   .have c6:=(ak hb).symm.trans z
    cases c6
  .by_cases hb:b=a
   .exact hb
   .exact absurd (ak hb) z
end L2
namespace L2
open PySem PySem.Spec PyProof.Rows
theorem Y2{l:PySem.W.OpenLaw}{k:Nat}{q:Program}{d:DefRec}{K:Params->p4}{CX:World->kT}{sp:World->Sp}(hn:l.most=some n)(CY:n<=sizeLine)(xa:d.params.defaults=[])(hr:gf k callerA)(hY:∀(w:World) (h:Heap),YP w h->(K w.params).In h)(F:∀(w:World) (mg:Str->Option Value) (fa:Addr) (h:Heap),(K w.params).In h->h.Ns mainGlobals mg->mg d.name=some (.ref fa)->
   ∃fd:FuncData,(∀(s:Shared) (u:Value),BindsTo s fd ⟨[u],[]⟩ [(x,u)])/\
    ∀base:Heap,(K w.params).In base->base.Ns mainGlobals mg->i6 l.prog w (K w.params) mg base (CX w) k fa fd [x] (sp w))(qt:∀(w:World) (H:Hp) (a:Addr) (ns:List Int),ns.length<=n->zc H->b9 (K w.params) H a (ns.map V.int)->sp w [.ref a] H (λv _=>v=.bl true) λ_ _ _=>False)(Ca:∀(w:World) (H:Hp) (s:Shared) (e:Value) (s':Shared),CX w [] H s (λ_ _ _=>False) e s'->False) :
  PySem.W.WalkO q loose XP YP l.row.toRowW d [] (λf vs=>PySem.call f vs):=by
 refine tP.Tj hn xa λw bx bc mg mb fa o pm cd doc a vs ns G Y ho hd jt hmg C5 hints hlen hg=>?_
 have KX:=hY w _ Y;obtain⟨fd,hb,hF⟩:=F w mg fa _ KX G.T.g hmg;exact Lx KX G.T.g G.T.b G.T.builtins G.T.nolimit hg C5 hints (eJ hlen CY) hr hF hb (λH hO hS=>qt w H a ns hlen hO hS) λH e s'=>Ca w H bc e s'
end L2
namespace L2
open PySem PySem.Spec PyProof.Rows
noncomputable def O6(s:Stmt):Arguments:=match s with
 | .FunctionDef _ a _ _ _ _ _ _ _ _=>a
 | _=>{ posonlyargs:=[],args:=[],vararg:=none,kwonlyargs:=[],kw_defaults:=[],kwarg:=none,defaults:=[] }
noncomputable def JZ(s:Stmt):List Stmt:=match s with
 | .FunctionDef _ _ b _ _ _ _ _ _ _=>b
 | _=>[]
noncomputable def HD(s:Stmt):Scope:=match s with
 | .FunctionDef _ _ _ _ _ _ sc _ _ _=>sc
 | _=>{ kind:=.function,names:=[],isGenerator:=false,isCoroutine:=false }
abbrev jS:kT:=λ_ _ _ _ _ _=>False
abbrev E0:XK:=λ_ _ _=>False
theorem Rw:Passes jS X E0:=λ_ _ _ _ _ _ _ h=>h.elim
structure rh(K:p4)(x qual:Str)(st:Stmt)(f:Addr)(fd:FuncData):Prop where
 ex:∃(oc:Value) (od:Option Addr) (kV doc pm:Value) (an:Option Addr) (dr ct:Value) (pq:Array (Option Value)),
  fd=PySem.W.fnOf x qual (O6 st) (JZ st) (HD st) .none kV doc pm an dr ct/\K.lookup f=some ⟨oc,od,.func fd,pq⟩/\PySem.W.codeIn K dr qual=true
 kp:PySem.W.keepIn K (.ref f)=true
theorem rh.ok{k:Nat}(F:rh K x qual st f fd)(S:XS N ps (HD st))(len:∀vs H Q E,sp vs H Q E->vs.length=ps.length)(lj:∀(dr:Value) (A:Around) (outer:List Env) (s:Shared) (H:Hp) (vs:List V) (Q:VK) (E:XK),gf k (A.deeper (envOfC qual (HD st) s.heap.objs.size f dr))->sp vs H Q E->
   ∃t,eP (pG jS P w K mg base N qual (HD st) f dr A outer s H E).u4 (JZ st) t/\t { nx:=λ_ aa=>Q .au aa,rt:=Q } (start N vs) H):i6 P w K mg base jS (k+1) f fd ps sp:=by
 obtain⟨oc,od,kV,doc,pm,an,dr,ct,pq,rfl,lk,jt⟩:=F.ex;refine vJ lk jt S len λA outer s H vs Q E hr qt=>?_
 obtain⟨t,h,q⟩:=lj dr A outer s H vs Q E hr qt;exact⟨t,h.u4,q⟩
theorem rh.binds(F:rh K x qual st f fd)(h:∀(kV doc pm:Value) (an:Option Addr) (dr ct:Value) (us:List Value),us.length=ps.length->bindArgs (PySem.W.fnOf x qual (O6 st) (JZ st) (HD st) .none kV doc pm an dr ct) ⟨us,[]⟩=pure (ps.zip us)):Binds K fd ps []:=by
 obtain⟨oc,od,kV,doc,pm,an,dr,ct,pq,rfl,lk,jt⟩:=F.ex;exact .all (h kV doc pm an dr ct)
theorem sO{kV doc pm dr ct:Value}(l:K.lookup f=some ⟨oc,od,.func (PySem.W.fnOf x qual (O6 st) (JZ st) (HD st) .none kV doc pm an dr ct),pq⟩)(c:PySem.W.codeIn K dr qual=true)(k:PySem.W.keepIn K (.ref f)=true):rh K x qual st f (PySem.W.fnOf x qual (O6 st) (JZ st) (HD st) .none kV doc pm an dr ct):=⟨⟨oc,od,kV,doc,pm,an,dr,ct,pq,rfl,l,c⟩,k⟩
theorem RY{k:Nat}(hr:gf k A):A.units+1<cLine:=ri (Nat.add_le_add_left (by decide:1<=64) _) hr.units
theorem pv(i:Nat)(hN:X.N[i]?=some x:=by rfl)(hv:zf X.env.scope x:=by first | exact Or.inl rfl | exact Or.inr (Or.inl rfl) | exact Or.inr (Or.inr rfl))(hd:(x==("__debug__" : Str))=false:=by decide)(jt:(x==("__classdict__" : Str))=false:=by decide):PE X (.Name x pos) (RV i):=P0 hN hv hd jt
def t8(H aa:Hp):Prop:=∀b o,H b=some o->aa b=some o
theorem t8.refl(H:Hp):t8 H H:=λ_ _ h=>h
section
variable{da:Type}[DecidableEq da]
end
end L2
namespace L2
open PySem PySem.Spec PyProof.Rows
noncomputable def Q0(cells:List (Str×Addr)):List (Str×NameKind)->List (Str×Addr)->List (Str×Addr)
 | [],acc=>acc
 | (n,k)::r,acc=>Q0 cells r (if k==.free then (match cells.lookup n with | some c=>(n,c)::acc | none=>acc) else acc)
theorem YH:∀{names:List (Str×NameKind)} {acc:List (Str×Addr)} {x:Str} {c:Addr},(∀x c,acc.lookup x=some c->cells.lookup x=some c)->
  (Q0 cells names acc).lookup x=some c->cells.lookup x=some c
 | [],acc,x,c,h,e=>h x c e
 | (n,k)::r,acc,x,c,h,e=>by
  refine YH (names:=r) (λy d q=>?_) e
  by_cases hk:(k==NameKind.free)=true
  .rw[ag hk]at q
   cases hl:cells.lookup n with
   | none=>rw[hl]at q;exact h y d q
   | some df=>
    rw[hl]at q;simp only[List.lookup_cons]at q;cases hy:y==n with
    | true=>
     rw[hy]at q;have:y=n:=by simpa using hy
     subst this;cases q;exact hl
    | false=>rw[hy]at q;exact h y d q
  .rw[ak hk]at q
   exact h y d q
theorem dH:∀{names:List (Str×NameKind)} {acc:List (Str×Addr)} {x:Str},(acc.lookup x).isSome=true->((Q0 cells names acc).lookup x).isSome=true
 | [],_,_,h=>h
 | (n,k)::r,acc,x,h=>by
  refine dH (names:=r) ?_;split
  .split
   .simp only[List.lookup_cons]
    cases hx:x==n with
    | true=>rfl
    | false=>exact h
   .exact h
  .exact h
theorem iR:∀{names:List (Str×NameKind)} {acc:List (Str×Addr)} {x:Str},(x,NameKind.free)∈names->(cells.lookup x).isSome=true->((Q0 cells names acc).lookup x).isSome=true
 | [],_,_,h,_=>nomatch h
 | (n,k)::r,acc,x,h,hc=>by
  rcases ck h with e | h
  .cases e
   refine dH (names:=r) ?_;rw[ag (by rfl)];cases hl:cells.lookup n with
   | none=>rw[hl]at hc;cases hc
   | some c=>simp[List.lookup_cons]
  .exact iR (names:=r) h hc
theorem V7(h:∀y∈scope.names,y.2=.free->(env.cells.lookup y.1).isSome=true):closureFor scope env=pure (Q0 env.cells scope.names []):=by
 have go:∀(names:List (Str×NameKind)) (acc:List (Str×Addr)),(∀y∈names,y.2=.free->(env.cells.lookup y.1).isSome=true)->
   (forIn names acc (λ(x:Str×NameKind) (cs:List (Str×Addr))=>match x with
    | (name,kind)=>if (kind==NameKind.free)=true then (do let c <-cellOf env name;pure (ForInStep.yield ((name,c)::cs)):Sem _) else pure (ForInStep.yield cs)):Sem _)=pure (Q0 env.cells names acc):=by
  intro names
  induction names with
  | nil=>intro acc _;rfl
  | cons y r ih=>
   intro acc hy;obtain⟨n,k⟩:=y;rw[List.forIn_cons]
   by_cases hk:(k==NameKind.free)=true
   .have hs:=hy (n,k) b0 (by simpa using hk)
    obtain⟨c,hc⟩:=Option.isSome_iff_exists.mp hs;have hc:env.cells.lookup n=some c:=hc;have e:cellOf env n=pure c:=by unfold cellOf;rw[hc]
    have e2:=ih ((n,c)::acc) λz hz=>hy z (b7 _ hz)
    simp only[hk,if_true,e,Q0,hc];exact e2
   .have e2:=ih acc λz hz=>hy z (b7 _ hz)
    simp only[hk,Q0];exact e2
 unfold closureFor;have g:=go scope.names [] h;exact(congrArg (λm=>m >>= λcs=>(pure cs:Sem _)) g).trans rfl
noncomputable abbrev Ft (X:Cx) (scope:Scope) (C:Addr):Env:=compEnvC scope (Q0 X.env.cells scope.names []) C X.env
noncomputable abbrev eW (X:Cx) (scope:Scope) (M own:List Str) (C:Addr) (bx:Shared) (cx:Hp) (ex:List Addr):Cx where
 prog:=X.prog
 w:=X.w
 K:=X.K
 mg:=X.mg
 base:=X.base
 A:=X.A
 N:=M++own
 bx:=bx
 cx:=cx
 env:=Ft X scope C
 outer:=X.stack
 stack:=X.stack
 ex:=ex
 fn:=λ_=>false
 calm:=X.calm
 pn:=[]
 xe:=λ_ _=>False
structure il(X:Cx)(scope:Scope)(M own:List Str):Prop where
 kind:scope.kind=.function
 fr:(scope.names.all λy=>y.2 != .free||X.env.kindOf y.1==some .cell)=true
 cell:(scope.names.all λy=>y.2 != .cell)=true
 nm:(scope.names.all λy=>y.2 != .local||scope.names.lookup y.1==some .local)=true
 apart:(M.all λx=>scope.names.lookup x != some .local)=true
 aaf:X.env.scope.kind=.function
 Jy:M=X.N\/(M.length=X.N.length/\((M.zip X.N).all λp=>decide (p.1=p.2)||scope.names.all λy=>decide (y.1≠p.1))=true)
theorem il.len(B:il X scope M own):M.length=X.N.length:=by
 rcases B.Jy with h | h
 .rw[h]
 .exact h.1
theorem il.same(B:il X scope M own)(e:M[i]?=some x){k:NameKind}(hx:(x,k)∈scope.names):X.N[i]?=some x:=by
 rcases B.Jy with h | ⟨hl,h⟩
 .rw[<-h];exact e
 .have hi:=(List.getElem?_eq_some_iff.mp e).1
  have Ir:i<X.N.length:=by lia
  have hz:(x,X.N[i])∈M.zip X.N:=by
   have e2:(M.zip X.N)[i]'(by rw[List.length_zip];lia)=(x,X.N[i]):=by
    rw[List.getElem_zip,(List.getElem?_eq_some_iff.mp e).2]
   rw[<-e2];exact List.getElem_mem _
  have:=k6 h _ hz;simp only[Bool.or_eq_true,decide_eq_true_eq]at this;rcases this with z | z
  .rw[fo Ir,<-z]
  .exact absurd rfl (f7 (k6 z (x,k) hx))
theorem il.B5(B:il X scope M own):∀y∈scope.names,y.2=.free->X.env.kindOf y.1=some .cell:=λy hy e=>by
 have:=k6 B.fr y hy;rw[e]at this;simpa using this
theorem il.Hq(B:il X scope M own):∀y∈scope.names,y.2≠.cell:=λy hy e=>by
 have:=k6 B.cell y hy;rw[e]at this;simp at this
theorem il.DI(B:il X scope M own):∀y∈scope.names,y.2=.local->scope.names.lookup y.1=some .local:=λy hy e=>by
 have:=k6 B.nm y hy;rw[e]at this;simpa using this
theorem O2{X:Cx}{scope:Scope}{M own:List Str}(B:il X scope M own):∀{names:List (Str×NameKind)} {x:Str},(∀y∈names,y∈scope.names)->
  ((names.map λ(n,k)=>if (k==NameKind.free&&X.env.scope.kind==.function&&X.env.kindOf n==some .cell) then (n,NameKind.cell) else (n,k)).lookup x=some .cell\/
   (names.map λ(n,k)=>if (k==NameKind.free&&X.env.scope.kind==.function&&X.env.kindOf n==some .cell) then (n,NameKind.cell) else (n,k)).lookup x=some .free)->(x,NameKind.free)∈names/\X.env.kindOf x=some .cell
 | [],x,_,h=>by simp at h
 | (n,k)::r,x,hs,h=>by
  have ih:=@O2 X scope M own B r x (λy hy=>hs y (b7 _ hy));have hn:=hs (n,k) b0;simp only[cn]at h
  by_cases hx:(x==n)=true
  .have e:x=n:=by simpa using hx
   subst e
   by_cases hk:k=.free
   .subst hk
    exact⟨b0,B.B5 _ hn rfl⟩
   .have hc:=B.Hq _ hn
    have Vj:(k==NameKind.free)=false:=by simpa using hk
    simp only[Vj,Bool.false_and,Bool.false_eq_true,if_false,List.lookup_cons,beq_self_eq_true]at h;rcases h with h | h
    .cases h;exact absurd rfl hc
    .cases h;exact absurd rfl hk
  .have kP:(x==n)=false:=by simpa using hx
   have key:∀kk:NameKind,(List.lookup x ((if (k==NameKind.free&&X.env.scope.kind==.function&&X.env.kindOf n==some .cell)=true then (n,NameKind.cell) else (n,k))::(r.map λ(n,k)=>if (k==NameKind.free&&X.env.scope.kind==.function&&X.env.kindOf n==some .cell) then (n,NameKind.cell) else (n,k)))=some kk)->
     (r.map λ(n,k)=>if (k==NameKind.free&&X.env.scope.kind==.function&&X.env.kindOf n==some .cell) then (n,NameKind.cell) else (n,k)).lookup x=some kk:=by
    intro kk q;split at q<;>simpa only [List.lookup_cons,kP] using q
   have:=ih (h.imp (key _) (key _));exact⟨b7 _ this.1,this.2⟩
theorem QC{X:Cx}{scope:Scope}{M own:List Str}(B:il X scope M own):∀{names:List (Str×NameKind)} {x:Str},(∀y∈names,y∈scope.names)->
  (names.map λ(n,k)=>if (k==NameKind.free&&X.env.scope.kind==.function&&X.env.kindOf n==some .cell) then (n,NameKind.cell) else (n,k)).lookup x=some .local->scope.names.lookup x=some .local
 | [],x,_,h=>by simp at h
 | (n,k)::r,x,hs,h=>by
  have ih:=@QC X scope M own B r x (λy hy=>hs y (b7 _ hy));have hn:=hs (n,k) b0;simp only[cn]at h
  by_cases hx:(x==n)=true
  .have e:x=n:=by simpa using hx
   subst e;split at h
   .simp only[List.lookup_cons,beq_self_eq_true]at h
    cases h
   .simp only[List.lookup_cons,beq_self_eq_true]at h
    cases h;exact B.DI _ hn rfl
  .have kP:(x==n)=false:=by simpa using hx
   refine ih ?_;split at h<;>simpa only [List.lookup_cons,kP] using h
theorem zN(B:il X scope M own)(I:Inv X pi σ H s)(hf:∀b∈fp,PL X pi H b)(Va:∀b∈fp,∃o,s.heap.get? b=some o)(hn:h'.Ns s.heap.objs.size (λ_=>none))(hk:∀b o,s.heap.get? b=some o->h'.get? b=some o) :
  Inv (eW X scope M own s.heap.objs.size s H fp) [] (σ++List.replicate own.length none) H { s with heap:=h',toks:=t' }:=by
 have dA:∀x c,(Q0 X.env.cells scope.names []).lookup x=some c->X.env.cells.lookup x=some c:=λx c e=>YH (names:=scope.names) (acc:=[]) (λ_ _ z=>by simp at z) e
 have Iq:∀x,(x,NameKind.free)∈scope.names->X.env.kindOf x=some .cell->∃c,(Q0 X.env.cells scope.names []).lookup x=some c:=λx hx hk=>by
  obtain⟨c,e⟩:=I.ok.has x (.inl hk);exact Option.isSome_iff_exists.mp (iR hx (by rw[e];rfl))
 have zk:∀b∈fp,b<s.heap.objs.size:=λb hb=>let ⟨o,e⟩:=Va b hb;bh e
 refine⟨⟨I.mod,B.kind,I.ok.glob,I.ok.blt,a0 _,λx y c h1 h2=>I.ok.inj x y c (dA x c h1) (dA y c h2),λx hx=>?_,λx c hf _=>absurd hf d5,I.ok.hd,I.ok.frames,.inl rfl,λb hb=>⟨cm (zk b hb),λx c e=>(hf b hb).2.2.2.2.1 x c (dA x c e)⟩,
   I.bs,eJ I.ok.qb I.sz,λb o e hb=>?_,λb hb z=>?_,I.stack,I.Kq⟩,rfl,I.bare,Un.kept hk,⟨_,hn,λi x v e1 e2 e3=>?_⟩,λx c e=>?_,I.aS.fresh (a0 _),λx c e=>I.lg x c (dA x c e),λp hp=>absurd (show p∈([]:List (Addr×Obj)) from hp) (by simp),I.aS.kept hk,?_⟩
 .have q:=O2 B (names:=scope.names) (x:=x) (λ_ z=>z) hx
  exact Iq x q.1 q.2
 .rcases(hf b hb).2.2.2.1 with z | z
  .exact I.ok.yb b o e z
  .exact absurd (hV (bh e) (eJ I.ok.qb z)) (hZ _)
 .rcases ck (I.AG b z) with e | e
  .exact(hf b hb).2.1 e
  .exact(hf b hb).2.2.1 e
 .have hi:i<σ.length:=by
   by_cases hi:i<σ.length
   .exact hi
   .rw[rS (Nat.le_of_not_lt hi),List.getElem?_replicate]at e2
    split at e2<;>cases e2
  rw[kh hi]at e2;rw[kh (by rw[B.len,<-I.len];exact hi)]at e1;obtain⟨m,hm,hl⟩:=I.loc;have nl:scope.names.lookup x≠some .local:=by
   have:=k6 B.apart x (jg e1);simpa using this
  have q:(x,NameKind.free)∈scope.names/\X.env.kindOf x=some .cell:=by
   rcases e3 with e3 | e3 | e3
   .exact absurd (QC B (names:=scope.names) (λ_ z=>z) e3) nl
   .exact O2 B (names:=scope.names) (λ_ z=>z) (.inl e3)
   .exact O2 B (names:=scope.names) (λ_ z=>z) (.inr e3)
  obtain⟨u,r,lk⟩:=hl i x v (B.same e1 q.1) e2 (.inr (.inl q.2));refine⟨u,r,?_⟩;rcases lk with ⟨k1,_⟩ | ⟨_,c,ec,z⟩
  .rw[q.2]at k1;cases k1
  .obtain⟨df,Hw⟩:=Iq x q.1 q.2
   have:df=c:=by
    have:=dA x df Hw;rw[ec]at this;exact(cq this).symm
   subst this;refine .inr ⟨?_,df,Hw,?_⟩
   .rcases e3 with e3 | e3 | e3
    .exact absurd (QC B (names:=scope.names) (λ_ z=>z) e3) nl
    .exact .inl e3
    .exact .inr e3
   .obtain⟨o,ho,hd⟩:=z
    exact⟨o,hk _ _ ho,hd⟩
 .obtain⟨v,o,ho,hd⟩:=I.cell x c (dA x c e)
  exact⟨v,o,hk _ _ ho,hd⟩
 .show (σ++List.replicate own.length none).length=(M++own).length
  rw[gc,gc,List.length_replicate,I.len,B.len]
theorem OC(I:Inv X pi σ H s)(hf:∀b∈fp,PL X pi H b){σ':St}{s':Shared}(J:Inv (eW X scope M own s.heap.objs.size s H fp) [] σ' aa s')(hs:Heap.SameBut s.heap.objs.size s'.heap mI):Inv X pi σ aa { s' with heap:=mI }:=by
 have hC:aa s.heap.objs.size=none:=J.free;have aS:eM X.prog X.w aa mI:=λb u e=>(J.aS b u e).ku (λc v hc q=>(hs.2 c ?_).trans q) (λ_ q=>q) λ_ _ q=>q
 .refine I.Tq (s':={ s' with heap:=mI }) (ch:=fp) J.os ⟨λb o e n hb hx=>?_,λb o e n hb hx=>?_,J.base.free,λb o e hx=>?_,J.base.l5,J.base.mv,J.base.og⟩ aS J.bare λb hb=>?_
  .exact(hs.2 b (cm (bh e))).trans (J.base.keep b o e n hb hx)
  .obtain⟨sl,q⟩:=J.base.slot b o e n hb hx
   exact⟨sl,(hs.2 b (cm (bh e))).trans q⟩
  .obtain⟨b5,q⟩:=J.base.there b o e hx
   exact⟨b5,(hs.2 b (cm (bh e))).trans q⟩
  .obtain⟨_,f1,_,f3,f4,f5⟩:=hf b hb
   exact⟨f3,f1,f4,f5⟩
 .intro z
  subst z;rcases hc with z | z
  .rw[<-z,hC]at e;cases e
  .rw[hC]at z;cases z
def me(X:Cx)(ifs:List Expr)(t:TT):Prop:=
 ∀(pi:List (Addr×Obj)) (s:Shared) (σ:St) (H:Hp) (Q:Bool->Hp->Prop),Inv X pi σ H s->t σ H Q->
  wpAny (model X.prog X.w) X.A (forIn ifs true λc r=>if r=true then do let ok <-isTrue c X.env (eval c X.env);pure (ForInStep.yield ok) else pure (ForInStep.yield r)) (TP X pi σ Q) X.xe s
def So:TT:=λ_ H Q=>Q true H
theorem MQ:me X [] So:=λ_ _ _ H _ I h=>wpAny_tests_nil ⟨H,I,h⟩
theorem MM(h:PT X c t):me X [c] t:=λpi s σ H Q I hw=>wpAny_tests_one (h pi s σ H Q I hw)
theorem lU{target:Expr}{it acc:Value}{env:Env}(I:Nat->Shared->Prop)(turn:∀n s,I n s->wpAny (model prog w) A (pyNext it) (λr bc=>match r with
   | none=>R (.ok .next) bc
   | some v=>wpAny (model prog w) A (letOwnedTupleGo target it v) (λ_ bc=>wpAny (model prog w) A (assign target env v) (λ_ cS=>
     wpAny (model prog w) A (forIn ifs true λc r=>if r=true then do let ok <-isTrue c env (eval c env);pure (ForInStep.yield ok) else pure (ForInStep.yield r)) (λok dQ=>
      if ok=true then wpAny (model prog w) A (eval elt env) (λx AH=>
       wpAny (model prog w) A (call (.builtin "list.append") [acc,x]) (λ_ Ks=>∃m,m<n/\I m Ks) (λ_ _=>False) AH) (λ_ _=>False) dQ
      else ∃m,m<n/\I m dQ) (λ_ _=>False) cS) (λ_ _=>False) bc) (λ_ _=>False) bc) (λ_ _=>False) s)(n:Nat)(h:I n s) :
  codeAny (model prog w) A (.compLoop (.ListComp elt [⟨target,iter,ifs,0⟩] scope pos) 0 it acc env) R s:=by
 refine codeAny_loop rfl I (λn s hI=>?_) n h;show wpAny _ A ((compTurn (.ListComp elt [⟨target,iter,ifs,0⟩] scope pos) 0 it acc env).onRaise (λx=>do noteFrame x env;theTreesLotGoes x)) _ _ s;refine wpAny_noted ?_;rw[compTurn_list];refine ae (wpAny_standAt (ae (ff (turn n s hI) (λr bc h₁=>?_) λ_ _ h'=>h'.elim)));cases r with
 | none=>exact ai h₁
 | some v=>
  refine ae (ff h₁ (λ_ bc h₁=>?_) λ_ _ h'=>h'.elim);refine ae (ff h₁ (λ_ cS ph=>ae (ff ph (λok dQ Am=>?_) λ_ _ h'=>h'.elim)) λ_ _ h'=>h'.elim);cases ok with
  | false=>exact ai ⟨rfl,Am⟩
  | true=>
   exact ae (ae (ff Am (λx AH Ws=>ae (ff Ws (λ_ Ks Wt=>ai (ai ⟨rfl,Wt⟩)) λ_ _ h'=>h'.elim)) λ_ _ h'=>h'.elim))
def nC(wi:TI)(k:Nat)(g:TG)(tt:TT)(te:TE):TE:=λ σ H Q=>wi σ H λJ H1=>∀D,H1 D=none->∃W:Nat->Nat->St->Hp->Prop,
 (∃m,W 0 m (σ++List.replicate k none) (upd H1 D (.lst [])))/\∀i m σ' aa,W i m σ' aa->
  (J.stop i aa/\Q (.ref D) aa)\/(J.go i aa/\∀x H2,J.yo i aa x H2->g x σ' H2 λij H3=>tt ij H3 λc H4=>
   if c=true then te ij H4 λy H5=>∃ys,H5 D=some (.lst ys)/\ys.length<sizeLine/\∃af,af<m/\W (i+1) af ij (upd H5 D (.lst (ys++[y])))
   else ∃af,af<m/\W (i+1) af ij H4)
section
variable{g:TG}{tt:TT}
theorem wG(B:il X scope M own)(hc:X.calm=true)(hg:∀C bx cx ex,PG (eW X scope M own C bx cx ex) tg g)(ht:∀C bx cx ex,me (eW X scope M own C bx cx ex) ifs tt)(he:∀C bx cx ex,PE (eW X scope M own C bx cx ex) elt te){H2:Hp}{cS:Shared}{J:It}{Q:VK}(I2:Inv X pi σ H2 cS)(T:Turn X.prog X.w X.K tg J fp it tn)(st:tn 0 cS.heap)(f2:∀b∈fp,PL X pi H2 b)(q2:∀D,H2 D=none->∃W:Nat->Nat->St->Hp->Prop,
   (∃m,W 0 m (σ++List.replicate own.length none) (upd H2 D (.lst [])))/\∀i m σ' aa,W i m σ' aa->
    (J.stop i aa/\Q (.ref D) aa)\/(J.go i aa/\∀x H2,J.yo i aa x H2->g x σ' H2 λij H3=>tt ij H3 λc H4=>
     if c=true then te ij H4 λy H5=>∃ys,H5 D=some (.lst ys)/\ys.length<sizeLine/\∃af,af<m/\W (i+1) af ij (upd H5 D (.lst (ys++[y])))
     else ∃af,af<m/\W (i+1) af ij H4))(hR:∀D C aa s' m,s'.heap.Ns C m->(∀mI,Heap.SameBut C s'.heap mI->Inv X pi σ aa { s' with heap:=mI })->C≠X.env.locals->(∀x c,X.env.cells.lookup x=some c->c≠C)->cS.heap.objs.size<C->aa C=none->Q (.ref D) aa->RR (.ref D) C (.ok .next) s') :
  wpAny (model X.prog X.w) X.A (newList []) (λacc dQ=>wpAny (model X.prog X.w) X.A (newFunctionEnv scope X.env.globals (Q0 X.env.cells scope.names []) [] X.env.qual none .none (some X.env)) (λHr AH=>
   codeAny (model X.prog X.w) X.A (.compStart (.ListComp elt [⟨tg,iter,ifs,0⟩] scope pos) 0 (.ref it) acc { Hr with scope:=relabel scope X.env }) (RR acc Hr.locals) AH) E dQ) E cS:=by
 have I3:=I2.Js (ys:=[]) (its:=[]) (t':=cS.toks) .nil (by simp);refine jr (wpAny_newFunctionEnv B.Hq (by intro y hy;simp at hy) (λh₁ Vw Wa=>?_) B.kind);have Vb:H2 cS.heap.objs.size=none:=I2.fresh;obtain⟨W,⟨m0,w0⟩,turn⟩:=q2 cS.heap.objs.size Vb;generalize VX:({ cS with heap:=cS.heap.push { cls:=.type "list",data:=.seq ([]:List Value).toArray },toks:=cS.toks }:Shared)=dQ at I3;have e3:dQ.heap=cS.heap.push { cls:=.type "list",data:=.seq ([]:List Value).toArray }:=by rw[<-VX]
 have k3:∀b o,cS.heap.get? b=some o->dQ.heap.get? b=some o:=λb o e=>by rw[e3];exact dg _ e
 have f3:∀b∈fp,PL X pi (upd H2 cS.heap.objs.size (.lst [])) b:=λb hb=>by
  obtain⟨o,e,_⟩:=T.obj 0 _ st b hb;refine⟨?_,(f2 b hb).2⟩;rw[CK (cm (bh e))];exact(f2 b hb).1
 have HH:∀b∈fp,∃o,dQ.heap.get? b=some o:=λb hb=>by
  obtain⟨o,e,_⟩:=T.obj 0 _ st b hb;exact⟨o,k3 b o e⟩
 have k4:∀b o,dQ.heap.get? b=some o->h₁.get? b=some o:=λb o e=>by
  have hb:b<dQ.heap.objs.size:=bh e;have q:(dQ.heap.push { cls:=.type (if (some X.env).isSome then "dict" else "frame"),data:=.dict #[] }).get? b=some o:=dg _ e;have VZ:Heap.SameBut dQ.heap.objs.size (dQ.heap.push { cls:=.type (if (some X.env).isSome then "dict" else "frame"),data:=.dict #[] }) h₁:=by rw[e3];exact Wa
  exact(VZ.2 b (cm hb)).trans q
 have C0:h₁.Ns dQ.heap.objs.size (λ_=>none):=by
  rw[e3];exact Vw
 have J4:=zN (own:=own) (t':=dQ.toks+([]:List (Str×Value)).length) B I3 f3 HH C0 k4;have Kv:tn 0 h₁:=T.keep 0 _ _ st λb _ o e=>k4 b o (k3 b o e)
 have tu:∀{aa:Hp},(∀b∈fp,aa b=none)->∀b∈fp,PL (eW X scope M own dQ.heap.objs.size dQ (upd H2 cS.heap.objs.size (.lst [])) fp) [] aa b:=λ {aa} hn b hb=>by
  obtain⟨_,g1,g2,g3,g4,g5⟩:=f3 b hb;obtain⟨o,e⟩:=HH b hb;refine⟨hn b hb,cm (bh e),λz=>?_,.inl hb,λx c e=>g4 x c (YH (names:=scope.names) (acc:=[]) (λ_ _ z=>by simp at z) e),λp hp=>absurd (show p∈([]:List (Addr×Obj)) from hp) (by simp)⟩;rcases ck (I3.AG b z) with e | e
  .exact g1 e
  .exact g2 e
 have loop:∀s4:Shared,s4={ dQ with heap:=h₁,toks:=dQ.toks+([]:List (Str×Value)).length }->
   codeAny (model X.prog X.w) X.A (.compLoop (.ListComp elt [⟨tg,iter,ifs,0⟩] scope pos) 0 (.ref it) (.ref cS.heap.objs.size) (Ft X scope dQ.heap.objs.size)) (RR (.ref cS.heap.objs.size) dQ.heap.objs.size) s4:=by
  rintro s4 rfl;refine lU (λn s'=>∃i σ' aa,Inv (eW X scope M own dQ.heap.objs.size dQ (upd H2 cS.heap.objs.size (.lst [])) fp) [] σ' aa s'/\tn i s'.heap/\(∀b∈fp,aa b=none)/\W i n σ' aa) ?_ m0
   ⟨0,_,_,J4,Kv,λb hb=>(f3 b hb).1,w0⟩
  rintro n s5 ⟨i,AQ,H5,I5,vf,zl,w5⟩;rcases turn i n AQ H5 w5 with ⟨stop,qn⟩ | ⟨go,step⟩
  .refine a9 (T.done (eW X scope M own dQ.heap.objs.size dQ (upd H2 cS.heap.objs.size (.lst [])) fp) rfl rfl rfl hc i [] s5 AQ H5 _ I5 (tu zl) vf stop) λr s6 ah=>?_
   obtain⟨hr,I6⟩:=ah;subst hr;obtain⟨m6,n6,_⟩:=I6.loc;refine hR _ _ H5 s6 m6 n6 (λmI hs=>OC I3 f3 I6 hs) (iS I3.lt) (λx c e=>?_) (by rw[e3,mE];exact rj _) I6.free qn;obtain⟨v,z⟩:=I3.cell x c e;exact cm z.lt
  .refine a9 (T.item (eW X scope M own dQ.heap.objs.size dQ (upd H2 cS.heap.objs.size (.lst [])) fp) rfl rfl rfl hc i [] s5 AQ H5 _ I5 (tu zl) vf go) λr s6 ah=>?_
   obtain⟨u,hr,h6⟩:=ah;subst hr;refine a9 h6 λ_ s7 ah=>?_
   obtain⟨x,H7,I7,r7,y7,D4,Ua⟩:=ah;have S0:=I7.pinned (tu Ua) (T.obj _ _ D4);refine a9 (hg _ _ _ _ _ s7 AQ H7 x u _ S0 r7 (step x H7 y7)) λ_ s8 ah=>?_
   obtain⟨tJ,H8,I8,q8⟩:=ah;refine a9 (ht _ _ _ _ _ s8 tJ H8 _ I8 q8) λc s9 ah=>?_
   obtain⟨H9,I9,q9⟩:=ah;have again:∀{vd:Shared} {t7:Hp},Inv (eW X scope M own dQ.heap.objs.size dQ (upd H2 cS.heap.objs.size (.lst [])) fp) ([]++cJ fp s7.heap) tJ t7 vd->(∃af,af<n/\W (i+1) af tJ t7)->
     ∃m,m<n/\∃i σ' aa,Inv (eW X scope M own dQ.heap.objs.size dQ (upd H2 cS.heap.objs.size (.lst [])) fp) [] σ' aa vd/\tn i vd.heap/\(∀b∈fp,aa b=none)/\W i m σ' aa:=λ {vd t7} vy ah=>by
    obtain⟨af,hm,Eb⟩:=ah;refine⟨af,hm,i+1,tJ,t7,vy.AN,T.keep _ _ _ D4 λb hb o e=>(vy.pin (b,o) (hJ _ (hJ _ (R6 hb e)))).1,λb hb=>?_,Eb⟩;obtain⟨o,e,d⟩:=T.obj _ _ D4 b hb;exact(vy.pin (b,o) (hJ _ (hJ _ (R6 hb e)))).2.1
   cases c with
   | false=>
    rw[ak d5]at q9 ⊢;exact again I9 q9
   | true=>
    rw[ag rfl]at q9 ⊢;refine a9 (he _ _ _ _ _ s9 tJ H9 _ I9 q9) λy vd ah=>?_
    obtain⟨z,t7,vy,XW,XT⟩:=ah;obtain⟨ys,eD,hz,af,hm,Eb⟩:=XT;refine a9 (YG _ vd tJ t7 (.ref cS.heap.objs.size) [z] (.ref cS.heap.objs.size) [y] (λ_ He=>W (i+1) af tJ He) vy rfl (.cons XW .nil) ⟨_,ys,z,rfl,rfl,eD,hz,Eb⟩) λ_ aba ah=>?_
    obtain⟨_,He,SW,_,XU⟩:=ah;exact again SW ⟨af,hm,XU⟩
 exact codeAny_compStart_list (loop _ rfl) (T.self _ 0 _ _ _ Kv (loop _ rfl))
theorem Nf(B:il X scope M own)(hc:X.calm=true)(hi:PI X tg iter wi)(hg:∀C bx cx ex,PG (eW X scope M own C bx cx ex) tg g)(ht:∀C bx cx ex,me (eW X scope M own C bx cx ex) ifs tt)(he:∀C bx cx ex,PE (eW X scope M own C bx cx ex) elt te)(hs:∀x,foldedSetIterable iter X.env x=pure x:=by intro _;rfl):PE X (.ListComp elt [⟨tg,iter,ifs,0⟩] scope pos) (nC wi own.length g tt te):=by
 intro pi s σ H Q I h;rw[eval_ListComp];have Cq:closureFor scope X.env=pure (Q0 X.env.cells scope.names []):=V7 λy hy e=>by
  obtain⟨c,q⟩:=I.ok.has y.1 (.inl (B.B5 y hy e));rw[q];rfl
 refine wpAny_comprehension_free (use:=none) rfl hs Cq B.kind B.DI (ff (hi pi s σ H _ I h) (λxv bc h₁=>ff h₁ (λAo cS ph=>?_) λ_ _ e=>e) λ_ _ e=>e);obtain⟨it,fp,tn,J,H2,rfl,I2,T,st,f2,q2⟩:=ph;refine wG (RR:=λacc C=>compPost (model X.prog X.w) X.A X.xe none (EP X pi σ Q) acc C) B hc hg ht he I2 T st f2 q2 λD C aa s' m hn hI _ _ _ _ q=>?_
 exact⟨m,hn,λmI Dg=>⟨.ref D,aa,hI mI Dg,rfl,q⟩⟩
theorem MS{y:Str}{py qB:Pos}(hN:X.N.Nodup)(xc:X.N[i]?=some y)(hy:X.env.scope.names.lookup y=some .local)(B:il X scope M own)(hc:X.calm=true)(hi:PI X tg iter wi)(hg:∀C bx cx ex,PG (eW X scope M own C bx cx ex) tg g)(ht:∀C bx cx ex,me (eW X scope M own C bx cx ex) ifs tt)(he:∀C bx cx ex,PE (eW X scope M own C bx cx ex) elt te)(xq:swapsWith (.ListComp elt [⟨tg,iter,ifs,0⟩] scope pos) (some (.Name y py)) qB.line X.env=pure true:=by rfl)(hs:∀x,foldedSetIterable iter X.env x=pure x:=by intro _;rfl):PS X (.Assign [.Name y py] (.ListComp elt [⟨tg,iter,ifs,0⟩] scope pos) qB) (yq (nC wi own.length g tt te) (cV i)):=by
 intro pi s σ H D I h;have Cq:closureFor scope X.env=pure (Q0 X.env.cells scope.names []):=V7 λy hy e=>by
  obtain⟨c,q⟩:=I.ok.has y.1 (.inl (B.B5 y hy e));rw[q];rfl
 rw[exec_Assign_Name_used _ _ _ _ xq];refine ae (wpAny_standAt (ae ?_));show wpAny _ X.A (do let _ <-comprehension (.ListComp elt [⟨tg,iter,ifs,0⟩] scope pos) scope X.env _ (newList []) false (eval iter X.env) (some (assign (.Name y py) X.env))) _ _ s;refine ae (ff (wpAny_comprehension_free (use:=some (assign (.Name y py) X.env)) (Q:=λ_ s'=>SP X pi D .next s') rfl hs Cq B.kind B.DI
  (ff (hi pi s σ H _ I h) (λxv bc h₁=>ff h₁ (λAo cS ph=>?_) λ_ _ e=>e) λ_ _ e=>e)) (λ_ s' hq=>ai (ai hq)) λ_ _ e=>e)
 obtain⟨it,fp,tn,J,H2,rfl,I2,T,st,f2,q2⟩:=ph;refine wG (Q:=λx H1=>cV i x σ H1 D.nx) (RR:=λacc C=>compPost (model X.prog X.w) X.A X.xe (some (assign (.Name y py) X.env)) (λ_ s'=>SP X pi D .next s') acc C) B hc hg ht he I2 T st f2 q2 λL C aa s' m hn hI HQ HU cp uu q=>?_
 show wpAny _ X.A (assign (.Name y py) X.env (.ref L)) _ _ _;have iq:=hI s'.heap (.refl ..);refine wpAny_assign_Name (gG iq hN xc (.inl hy) (v:=.ref L) rfl (λye SV VY=>?_) (.inr hy));obtain⟨a,sb,ha⟩:=VY;have Uy:C≠a:=by
  rcases ha with e | e
  .rw[e];exact HQ
  .exact λz=>HU y a e z.symm
 refine⟨m,hn.sameBut sb Uy,λmI Dg=>⟨_,aa,?_,q⟩⟩;refine SV.turned (it:=C) (t':=ye.toks) (λb o hb e=>(Dg.2 b hb).trans e) uu HQ (.inr ?_) HU λp hp z=>?_
 .exact eJ I2.sz (ml cp)
 .have:=(I2.pin p hp).1
  rw[z]at this;exact absurd (bh this) (Nat.not_lt.mpr (ml cp))
end
theorem bD{ys:List Str}:∀{us:List Value},Vals (ys.map V.str) us->StrsAre us ys:=by
 induction ys with
 | nil=>intro us r;cases r;exact .nil
 | cons y ys ih=>
  intro us r;cases r with
  | cons r t=>
   obtain⟨tk,rfl⟩:=r;exact .cons y tk (ih t)
theorem fY{vs:List Value}{ss:List Str}(h:StrsAre vs ss):Vals (ss.map V.str) vs:=by
 induction h with
 | nil=>exact .nil
 | cons x t h ih=>exact .cons ⟨t,rfl⟩ ih
def rJoin(K:p4):V->List V->Hp->VK->Prop:=λx vs H Q=>∃sep a ys,x=.str sep/\vs=[.ref a]/\b9 K H a (ys.map V.str)/\(ys.map (·.length)).sum+ys.length*sep.length<=16777216/\Q (.str (Txt.join sep ys)) H
theorem Nv:zb X "str.join" (rJoin X.K):=by
 intro pi s σ H x vs v us Q I rx rv h;obtain⟨sep,a,ys,rfl,rfl,hq,aS,q⟩:=h;obtain⟨t,rfl⟩:=rx;obtain⟨u,rfl,ru⟩:=rv.one;cases ru;obtain⟨its,r,p,hz⟩:=I.list hq;refine join_list p.isList (ys:=ys) (by simpa using bD r) aS λt' k=>⟨.str _,H,I.tok k,⟨t',rfl⟩,q⟩
def Bp:V->Option Int->Option Int->Hp->VK->Prop:=λx lo hi H Q=>∃z,x=.str z/\z.length<=sizeLine/\Q (.str (StrLaws.sliceText z lo hi)) H
theorem part_of{v:Value}{o:Option Int}(p:IsPart v o):∃q:Option (Int×Tok),v=partValue q/\q.map (·.1)=o:=by
 cases p with
 | none=>exact⟨none,rfl,rfl⟩
 | int i t=>exact⟨some (i,t),rfl,rfl⟩
theorem Pe:ow X Bp:=by
 intro pi s σ H x v vl vu lo hi sl Q I rx hs pl pu h;obtain⟨z,rfl,hz,q⟩:=h;obtain⟨t,rfl⟩:=rx;obtain⟨ql,rfl,el⟩:=part_of pl;obtain⟨qu,rfl,eu⟩:=part_of pu;refine⟨"str",_,F.slot_str_getitem.lookup,typeIs_str s z t,?_⟩;refine wpAny_getItem_str_slice (l:=ql) (u:=qu) (st:=none) ?_ (by rfl) ?_
 .obtain⟨o,ho,hc,hd⟩:=hs
  exact⟨o,ho,hc,hd⟩
 .unfold sliceMade
  have e:StrLaws.sliceText z lo hi=if (((none:Option (Int×Tok)).map (·.1)).getD 1==1&&(slicePicked z ql qu none).length==z.length)=true then z else ⟨((slicePicked z ql qu none).filterMap (z.cps[·]?)).toArray⟩:=by
   unfold StrLaws.sliceText slicePicked;rw[el,eu];rfl
  rw[e]at q;split
  .rename_i c
   rw[ag c]at q;exact⟨.str z,H,I,⟨t,rfl⟩,q⟩
  .rename_i c
   rw[ak c]at q;refine⟨?_,.str _,H,I.tok _,⟨_,rfl⟩,q⟩;show (List.filterMap _ (slicePicked z ql qu none)).toArray.size<=sizeLine;rw[dv];exact eJ (eJ (List.length_filterMap_le _ _) (sliceIndices_le _ _ _)) hz
def Py(K:p4):V->List V->Hp->VK->Prop:=λx vs H Q=>∃a xs y,x=.ref a/\vs=[y]/\b9 K H a xs/\RP y=true/\xs.all RP=true/\xs.length<1000/\
 sC y xs=true/\∀j:Nat,j<xs.length->(∃z,xs[j]?=some z/\gb z y=true)->(∀i z,i<j->xs[i]?=some z->gb z y=false)->Q (.int j) H
theorem iI{α:Type}(e:α->Bool):∀l:List α,l.any e=true->∃j,∃h:j<l.length,e l[j]=true/\∀m (hm:m<l.length),m<j->e l[m]=false
 | [],h=>by simp at h
 | a::r,h=>by
  by_cases ha:e a=true
  .exact⟨0,by simp,by simpa using ha,λm _ hm=>absurd hm (oC _)⟩
  .have hr:r.any e=true:=by
    rw[List.any_cons,Bool.or_eq_true]at h;exact h.resolve_left ha
   obtain⟨j,hj,h1,h2⟩:=iI e r hr;refine⟨j+1,by simpa using hj,by simpa using h1,λm hm cp=>?_⟩;cases m with
   | zero=>simpa using ha
   | succ m=>simpa using h2 m (by simpa using hm) (by lia)
theorem Lv:zb X "list.index" (Py X.K):=by
 intro pi s σ H x vs v us Q I rx rv h;obtain⟨a,xs,y,rfl,rfl,hq,fy,fx,hn,ib,q⟩:=h;cases rx;obtain⟨u,rfl,ru⟩:=rv.one;obtain⟨its,r,⟨o,n,ho,hc,hd,fS⟩,hz⟩:=I.list hq;have hl:=r.length;have UA:its.any (k9 y)=true:=by rw[mQ r fx];exact ib
 obtain⟨j,hj,h1,h2⟩:=iI (k9 y) its UA;obtain⟨oc,od,aa1,pq⟩:=o;simp only at hc hd fS;subst hc hd fS;have hs:its.toArray.size=its.length:=by simp
 refine call_meets F.slot_list_index ⟨_,ho,rfl⟩ F.entry_list_index (F.args_list_index_2 _ _) (SeqAt.list_indexAt a its.toArray n none pq u (k9 y) j (by simpa using hj) (by omega) (by simpa using h1) (λm hm cp=>by
  have:=h2 m (by simpa using hm) cp;simpa using this)) ⟨ho,λw hw=>?_,?_⟩
 .exact cN ru fy r fx w (by simpa using hw)
 .refine⟨.int j,H,I.tok _,⟨_,rfl⟩,q j (by omega) ?_ λi z hi qw=>?_⟩
  case refine_2=>
   obtain⟨w,hw,jf⟩:=r.get qw;have zD:i<its.length:=by omega
   have e:its[i]=w:=by
    have:its[i]?=some its[i]:=by simp[zD]
    rw[hw]at this;exact(cq this).symm
   have h3:=h2 i zD hi;rw[e,lN jf (k6 fx _ (jg qw))]at h3;exact h3
  have hx:xs[j]?=some xs[j]:=by simp[show j<xs.length by omega]
  obtain⟨w,hw,jf⟩:=r.get hx;refine⟨_,hx,?_⟩;have e:its[j]=w:=by
   have:its[j]?=some its[j]:=by simp[hj]
   rw[hw]at this;exact(cq this).symm
  rw[e,lN jf (k6 fx _ (jg hx))]at h1;exact h1
theorem fU(hc:X.calm=true):fI X (.builtin "max") (λxs H Q=>∃(a:Addr) (ns:List Int),xs=[.ref a]/\b9 X.K H a (ns.map V.int)/\0<ns.length/\∀M,M∈ns->(∀a,a∈ns->a<=M)->Q (.int M) H):=by
 intro pi s σ H xs us Q I r h;obtain⟨a,ns,rfl,hq,hn,q⟩:=h;obtain⟨u,rfl,ru⟩:=vals1 r;cases ru;obtain⟨its,rv,p,hz⟩:=I.list hq;have hi:IntsAre its ns:=intsAre_of rv;obtain⟨xs,e⟩:=hi.allInts.items;have qp:ns=xs.toList.map (·.1):=by rw[<-hi.numsOf,<-nums_intItems,<-e]
 have hsz:0<xs.size:=by
  have h3:=hn;rw[qp,a8,eK]at h3;exact h3
 have pl:=p.isList;rw[e]at pl;refine max_intList (I.ok.hd hc) pl hsz λv h' tk hv hk=>?_
 obtain⟨t,rfl⟩:=intItems_at hv;obtain⟨h1,h2⟩:=argBest_gt (numAt xs) (xs.size-1);refine⟨.int _,H,I.kept hk,⟨t,rfl⟩,q _ ?_ λa ha=>?_⟩
 .rw[qp,numAt_eq];exact getD_mem (by rw[a8,eK];omega)
 .rw[qp]at ha
  obtain⟨j,hj,rfl⟩:=mem_getD ha;rw[a8,eK]at hj;rw[<-numAt_eq];exact h2 j (by omega)
section
variable{p:Addr}{o:HO}
theorem Inv.Kw(I:Inv X pi σ H s)(hf:∀b∈fp,PL X pi H b)(k:∀b ob,b∉fp->s.heap.get? b=some ob->h'.get? b=some ob):Inv X pi σ H { s with heap:=h',toks:=t' }:=by
 refine I.step (g':=s.gens) (d':=s.drawn) (ch:=fp) (λb hb=>?_) (λb ob _ _ hc e _=>k b ob hc e) (λb ob _ _ hc e _=>⟨ob.slots,k b ob hc e⟩) (λ_ _ _ _ n=>n) (λb ob hc e=>⟨ob,k b ob hc e⟩) (λ_ _ e=>e) (λ_ _ _ e=>e) (λb ps e=>⟨#[],by rw[e];simp⟩) (λm hm=>?_) (λb u e=>?_) I.bare
 .obtain⟨_,f1,_,f3,f4,f5⟩:=hf b hb
  exact⟨f3,f1,f4,f5⟩
 .obtain⟨ob,es,ep,ho,r⟩:=hm
  exact⟨ob,es,ep,k _ ob (λz=>(hf _ z).2.1 rfl) ho,r⟩
 .refine(I.aS b u e).ku (λc v hc q=>k c v (λz=>?_) q) (λ_ q=>q) λ_ _ q=>q
  have n:=(hf c z).1;rcases hc with rfl | hc
  .rw[n]at e;cases e
  .rw[n]at hc;cases hc
theorem Inv.D7(I:Inv X pi σ H s)(hf:∀b∈fp,PL X pi H b)(k:∀b ob,b∉fp->s.heap.get? b=some ob->h'.get? b=some ob)(hp:s.heap.objs.size<=p)(new:dw X.prog X.w (upd H p o) h' p o):
  Inv X pi σ (upd H p o) { s with heap:=h',toks:=t' }:=by
 have hn:=I.aS.fresh hp;have up:∀b u,H b=some u->upd H p o b=some u:=λb u e=>by rw[CK (G4 e hn)];exact e
 refine I.step (g':=s.gens) (d':=s.drawn) (ch:=fp) (λb hb=>?_) (λb ob _ _ hc e _=>k b ob hc e) (λb ob _ _ hc e _=>⟨ob.slots,k b ob hc e⟩)
  (λb ob _ e n=>by rw[CK (cm (hV (bh e) hp))];exact n) (λb ob hc e=>⟨ob,k b ob hc e⟩) (λb xs e=>up b _ e) (λb u xs e=>up b _ e) (λb ps e=>⟨#[],by rw[up b _ e];simp⟩) (λm hm=>?_) (λb u e=>?_) I.bare
 .obtain⟨_,f1,_,f3,f4,f5⟩:=hf b hb
  exact⟨f3,f1,f4,f5⟩
 .obtain⟨ob,es,ep,ho,r⟩:=hm
  exact⟨ob,es,ep,k _ ob (λz=>(hf _ z).2.1 rfl) ho,r⟩
 .by_cases hb:b=p
  .subst hb;rw[DP]at e;cases e;exact new
  .rw[CK hb]at e
   refine(I.aS b u e).ku (λc v hc q=>k c v (λz=>?_) q) (λc q=>up c _ q) λc xs q=>up c _ q
   have n:=(hf c z).1;rcases hc with rfl | hc
   .rw[n]at e;cases e
   .rw[n]at hc;cases hc
theorem NO(hf:∀b∈fp,H b=none)(cp:∀b∈fp,b<p):∀b∈fp,upd H p o b=none:=λb hb=>by
 rw[CK (cm (cp b hb))];exact hf b hb
end
noncomputable def Hf(K:p4)(a:Addr):It:=
 ⟨λi H=>∃xs x,b9 K H a xs/\xs[i]?=some x,λi H x aa=>∃p y,H p=none/\x=.ref p/\(∃o:Obj,o.cls=.type "tuple"/\o.dict=none/\aa=upd H p (.bq o (.tup [.int i,y])))/\∀xs,b9 K H a xs->xs[i]?=some y,λi H=>∃xs,b9 K H a xs/\xs.length<=i⟩
theorem xK{k:Nat}(a e it:Addr)(eL:e≠it):
  Turn P w K (.Tuple elts k pos) (Hf K a) [e,it] e (λi h=>(∃old,IsEnum h e it i old)/\h.IsListIter it a i) where
 mem:=by simp
 obj:=λi h st b hb=>by
  obtain⟨⟨old,he⟩,o,ho,hc,hd⟩:=st;rcases ck hb with rfl | hb
  .exact⟨_,he,λv z=>by cases z⟩
  .have:b=it:=by simpa using hb
   subst this;exact⟨o,ho,λv z=>by rw[hd]at z;cases z⟩
 keep:=λi h h' st k=>⟨let ⟨old,he⟩:=st.1;⟨old,k e (by simp) _ he⟩,st.2.at λo q=>k it (by simp) o q⟩
 item:=by
  intro X hP hw hK hc i pi s σ H E I hf st hg;subst hP hw hK;obtain⟨xs,x,hq,hx⟩:=hg;obtain⟨its,rv,p,hz⟩:=I.list hq;obtain⟨u,hu,ru⟩:=rv.get hx;obtain⟨⟨old,he⟩,hit⟩:=st;refine wpAny_pyNext_enum_item he hit p.isList (x:=u) (by simpa using hu) eL λh1 uo Vh Dh dh ko=>⟨_,rfl,?_⟩
  refine wpAny_letOwnedTupleGo_enum (s:={ s with heap:=h1,toks:=s.toks+1 }) uo λh2 UX dC=>?_
  have elt:e<s.heap.objs.size:=bh he;have Wv:it<s.heap.objs.size:=by obtain⟨_,q,_⟩:=hit;exact bh q
  have jw:∀b ob,b∉[e,it]->s.heap.get? b=some ob->h2.get? b=some ob:=λb ob hb q=>by
   have h3:b≠e:=λz=>hb (by simp[z])
   have h4:b≠it:=λz=>hb (by simp[z])
   exact dC.extBut b ob h3 (ko b ob h3 h4 q)
  have sy:h2.get? s.heap.objs.size=some { cls:=.type "tuple",data:=.seq #[.int i s.toks,u] }:=dC.extBut _ _ (iS elt) Dh;have I2:Inv X pi σ (upd H s.heap.objs.size (.bq { cls:=.type "tuple",data:=.seq #[.int i s.toks,u] } (.tup [.int i,x]))) { s with heap:=h2,toks:=s.toks+1 }:=
   I.D7 (fp:=[e,it]) (o:=.bq { cls:=.type "tuple",data:=.seq #[.int i s.toks,u] } (.tup [.int i,x])) hf jw (a0 _) ⟨sy,by show 2<=sizeLine;decide,[.int i s.toks,u],.cons ⟨_,rfl⟩ (.cons ru .nil),⟨_,sy,rfl,_,rfl⟩⟩
  refine⟨.ref s.heap.objs.size,_,I2,rfl,⟨_,x,I.aS.fresh (a0 _),rfl,⟨_,rfl,rfl,rfl⟩,λys hy=>by rw[I.Jr hy hq];exact hx⟩,⟨⟨u,?_⟩,?_⟩,?_⟩
  .exact UX
  .exact Vh.extBut dC.extBut (Ne.symm eL)
  .refine NO (λb hb=>(hf b hb).1) λb hb=>?_
   rcases ck hb with rfl | hb
   .exact elt
   .have:b=it:=by simpa using hb
    subst this;exact Wv
 done:=by
  intro X hP hw hK hc i pi s σ H E I hf st hg;subst hP hw hK;obtain⟨xs,hq,hx⟩:=hg;obtain⟨its,rv,p,hz⟩:=I.list hq;obtain⟨⟨old,he⟩,hit⟩:=st;have hl:=rv.length;exact wpAny_pyNext_enum_end (I.ok.hd hc) he hit p.isList (by simp;lia) λh1 eb=>⟨rfl,I.Kw (t':=s.toks) (fp:=[e,it]) hf λb ob hb q=>eb b ob (λz=>hb (by simp[z])) q⟩
 self:=λA i s Q E st h=>let ⟨old,he⟩:=st.1;wpAny_pyIter_enum he h
def RU(K:p4)(ta:TA):TI:=λ σ H R=>ta σ H λvs H1=>∃a,vs=[.ref a]/\(∃xs,b9 K H1 a xs)/\R (Hf K a) H1
theorem MY{l:Expr}{ta:TA}{pt:Pos}{k:Nat}(hg:Gl X "enumerate")(hm:X.mg "enumerate" = none)(ha:PA X [l] ta)(hs:starEach [l] X.env=[(false,eval l X.env)]:=by rfl):
  PI X (.Tuple elts k pt) (.Call (.Name "enumerate" p) [l] [] pos) (RU X.K ta):=by
 intro pi s σ H R I h;refine Call_ (LQ I hg hm boot_enumerate (PyProof.Rows.callWith_type1 (a9 (ha pos pi s σ H _ I h) λus s1 ah=>?_) hs rfl));obtain⟨vs,H1,I1,r1,q1⟩:=ah;obtain⟨a,rfl,⟨xs,hq⟩,q⟩:=q1;obtain⟨u,rfl,ru⟩:=r1.one;cases ru;obtain⟨its,rv,pl,hz⟩:=I1.list hq;refine call_enumerate_list pl.isList λh' he hi hsz hk=>?_
 refine wpAny_pyIter_enum he ?_;have I2:Inv X pi σ H1 { s1 with heap:=h' }:=I1.kept (t':=s1.toks) hk;refine⟨_,[s1.heap.objs.size+1,s1.heap.objs.size],_,_,H1,rfl,I2,xK a _ _ (Nat.succ_ne_self _),⟨⟨_,he⟩,hi⟩,λb hb=>?_,q⟩;have gu:s1.heap.objs.size<=b:=by
  rcases ck hb with rfl | hb
  .exact ua _
  .have:b=s1.heap.objs.size:=by simpa using hb
   rw[this];exact a0 _
 exact I1.nK gu (I1.aS.fresh gu)
end L2
namespace PySem
open Sem (wp)
open AutoSeq1 (wpAny_loadPart')
namespace F
theorem Ye:typeLookup (.type "tuple") (Str.ofString "__reversed__")=pure none:=by rw[ji,jj];kernel_rfl
theorem Ki:typeLookup (.type "tuple") (Str.ofString "__getitem__")=pure (some (.builtin "tuple.__getitem__")):=by rw[ji,jj];kernel_rfl
theorem Yh:isSubtype (.type "tuple") (.type "dict")=pure false:=by rw[isSubtype_type];kernel_rfl
theorem MC:Slot "reversed" "__init__" "object.__init__":=
 .of (owner:="object") (n:="__init__") (by rw[ji,jj];kernel_rfl) (by decide +kernel) (by decide +kernel) (by decide +kernel)
  (by first | exact .inl (by decide +kernel) | exact .inr (by decide +kernel)) (by rw[isSubtype_type];kernel_rfl)
theorem Yb:TypeCalled "reversed" "reversed.__new__" "object.__init__":=
 ⟨by decide +kernel,create_reversed,⟨_,_,mro_reversed⟩,made_reversed,plain_reversed_new,sub_reversed_self,MC⟩
theorem yd:Slot "reversed" "__next__" "reversed.__next__":=
 .of (owner:="reversed") (n:="__next__") (by rw[ji,jj];kernel_rfl) (by decide +kernel) (by decide +kernel) (by decide +kernel)
  (by first | exact .inl (by decide +kernel) | exact .inr (by decide +kernel)) (by rw[isSubtype_type];kernel_rfl)
theorem Kj:Slot "reversed" "__iter__" "reversed.__iter__":=
 .of (owner:="reversed") (n:="__iter__") (by rw[ji,jj];kernel_rfl) (by decide +kernel) (by decide +kernel) (by decide +kernel)
  (by first | exact .inl (by decide +kernel) | exact .inr (by decide +kernel)) (by rw[isSubtype_type];kernel_rfl)
theorem Kh:entryFor table "reversed.__next__" = some Builtin.«reversed.__next__»:=zo (by kernel_rfl)
theorem Yd:entryFor table "reversed.__iter__" = some Builtin.«dict_keyiterator.__iter__»:=
 entryFor_alias (id':="dict_keyiterator.__iter__") (by kernel_rfl) (by first | rfl | decide +kernel | (unfold String.splitOn;simp +decide [String.splitOnAux])) (by decide +kernel) (by kernel_rfl)
theorem bU:Manifest.owners.lookup (String.ofList ['d','e','s','r','e','v','e','r'].reverse)=some Manifest.sig_reversed:=by kernel_rfl
theorem Kg(a:Value):argsOk "reversed.__next__" ⟨[a],[]⟩:=by
 unfold argsOk;rw[signature?_of (id:="reversed.__next__") (n:=['_','_','t','x','e','n','_','_']) (o:=['d','e','s','r','e','v','e','r']) (by kernel_rfl) bU];kernel_rfl
theorem X9(a:Value):argsOk "reversed.__iter__" ⟨[a],[]⟩:=by
 unfold argsOk;rw[signature?_of (id:="reversed.__iter__") (n:=['_','_','r','e','t','i','_','_']) (o:=['d','e','s','r','e','v','e','r']) (by kernel_rfl) bU];kernel_rfl
theorem Yg:typeLookup (.type "reversed") "__len__" = pure none:=by rw[ji,jj];kernel_rfl
theorem DV:typeLookup (.type "reversed") "__length_hint__" = pure (some (.builtin "reversed.__length_hint__")):=by rw[ji,jj];kernel_rfl
end F
abbrev kX (h:Heap) (r t:Addr) (i:Int):Prop:=h.get? r=some { cls:=.type "reversed",data:=.fields #[.ref t,rawInt i] }
theorem jT(t:Addr)(xs:Array Value)(hz:xs.size<=sizeLine):
  Meets (Builtin.«reversed.__new__» ⟨[.type "reversed",.ref t],[]⟩) (λ_ R s=>jk s.heap t xs/\
   R (.ok (.ret (.ref s.heap.objs.size))) { s with heap:=s.heap.push { cls:=.type "reversed",data:=.fields #[.ref t,rawInt ((xs.size:Int)-1)] },toks:=s.toks+1+1 }):=
 .of_wp λprog w A R s h=>by
  obtain⟨hp,g,d,tk,os⟩:=s;obtain⟨hl,h⟩:=h;have jl:=F.sub_reversed_self;have hT:Shared.TypeIs ⟨hp,g,d,tk,os⟩ (.ref t) "tuple":=hl.typeIs;have h1:=F.Ye;have h2:=F.Ki;have h3:=F.Yh;have zx:((xs.size:Int))<2 ^ 63:=by rw[fq]at hz;lia
  unfold Builtin.«reversed.__new__»
  wp_walk using PyProof.Rows.len_tuple hl zx
  exact⟨_,rfl,h⟩
theorem ME{t:Addr}{xs:Array Value}(hl:jk s.heap t xs)(hz:xs.size<=sizeLine)(h:Q (.ref s.heap.objs.size) { s with heap:=s.heap.push { cls:=.type "reversed",data:=.fields #[.ref t,rawInt ((xs.size:Int)-1)] },toks:=s.toks+1+1 }):wpAny (model prog w) A (call (.type "reversed") [.ref t]) Q E s:=
 callType_new F.Yb (by decide) (F.typeCall_reversed_1 _) (F.newCall_reversed_1 _) (λobj=>F.args_object_init_2 obj _) F.entry_reversed_new (jT t xs hz) ⟨hl,⟨_,dj _ rfl,rfl⟩,h⟩
theorem jU{r t:Addr}{xs:Array Value}{x:Value}{Q:Option Value->Shared->Prop}(hr:kX s.heap r t (i:Int))(ht:jk s.heap t xs)(hx:xs[i]?=some x)(hz:xs.size<=sizeLine)(hQ:∀h' tk,kX h' r t ((i:Int)-1)->Heap.SameBut r s.heap h'->Q (some x) { s with heap:=h',toks:=tk }):wpAny (model prog w) A (pyNext (.ref r)) Q E s:=by
 have hT:s.TypeIs (.ref r) "reversed":=⟨_,hr,rfl⟩
 have cp:i<xs.size:=(Array.getElem?_eq_some_iff.mp hx).1;have zx:((xs.size:Int))<2 ^ 63:=by rw[fq]at hz;lia
 unfold pyNext;refine ae (wpAny_attempt (wpAny_callSpecial?_slot (name:=Str.ofString "__next__") hT F.yd (ir F.yd hT F.Kh ?_ (F.Kg _))));unfold Builtin.«reversed.__next__»;refine ae (wpAny_of_eq (a:=(Value.ref r,[])) rfl ?_);refine ae (wpAny_field hr rfl (x:=.ref t) rfl ?_);refine ae (wpAny_field hr rfl (x:=rawInt (i:Int)) rfl ?_);show wpAny _ _ (if (i:Int)<0 then _ else _) _ _ s;rw[ak (by lia)];refine ae (wpAny_specialOf ht.typeIs F.Ki ?_);rw[ak (by simp)];refine ae (wpAny_mkInt ?_);refine ae (wpAny_attempt (PyProof.Rows.getItem_tuple (j:=i) ht (by lia) (by lia) (by unfold seqIndex?;simp;lia) hx ?_));refine ae (wpAny_field (s:={ s with toks:=s.toks+1 }) hr rfl (x:=rawInt (i:Int)) rfl ?_);refine ae (wpAny_setField_rec (s:={ s with toks:=s.toks+1 }) hr (by simp) λh' Ag kr=>ai ⟨x,rfl,ai (hQ h' _ Ag kr)⟩)
theorem S7{Q:Option Value->Shared->Prop}(hh:A.handled=none)(hk:Heap.ExtBut it h s.heap)(hQ:∀h',Heap.ExtBut it h h'->Q none { s with heap:=h' }) :
  wpAny (model prog w) A.in1 (Builtin.SmallTypes.stopIteration:Sem α) (λ_ _=>False)
   (λe s'=>wpAny (model prog w) A (match (Except.error e:Except Value (Option Value)) with
    | .ok (some v)=>pure (some v)
    | .ok none=>unsupported "iter:the-iterator's-class-has-lost-its-__next__-amid-the-walk"
    | .error e=>do if <-isInstance e (.type "StopIteration") then pure none else throw e) Q E s') s:=by
 unfold Builtin.SmallTypes.stopIteration;refine ae ?_;simp only[newExc,newTuple];refine ae (jr ?_ (by size_fits));refine ae (m:=firstArgMember _ _) (wpAny_of_eq (a:=Value.none) (by first | rfl | (simp only[firstArgMember];rfl)) ?_);refine jr ?_ (by size_fits);simp only[raiseNew];refine ae (wpAny_handled ?_);rw[show A.in1.handled=none from hh];refine ae (ai (wpAny_throw ?_));refine ae (wpAny_isInstance (T:="StopIteration") (b:=true) ⟨_,dj _ rfl,rfl⟩ isSubtype_stop ?_);exact ai (hQ _ ((hk.push _).push _))
theorem nY{r t:Addr}{Q:Option Value->Shared->Prop}(hh:A.handled=none)(hr:kX s.heap r t (-1))(hQ:∀h',Heap.ExtBut r s.heap h'->Q none { s with heap:=h' }):wpAny (model prog w) A (pyNext (.ref r)) Q E s:=by
 have hT:s.TypeIs (.ref r) "reversed":=⟨_,hr,rfl⟩
 unfold pyNext;refine ae (wpAny_attempt (wpAny_callSpecial?_slot (name:=Str.ofString "__next__") hT F.yd (ir F.yd hT F.Kh ?_ (F.Kg _))));unfold Builtin.«reversed.__next__»;refine ae (wpAny_of_eq (a:=(Value.ref r,[])) rfl ?_);refine ae (wpAny_field hr rfl (x:=.ref t) rfl ?_);refine ae (wpAny_field hr rfl (x:=rawInt (-1)) rfl ?_);show wpAny _ _ (if (-1:Int)<0 then _ else _) _ _ s;rw[ag (by decide)];refine ae (jy ?_);refine ae ?_;refine ae (wpAny_setField_rec hr (by simp) λh1 De dh=>?_);refine wpAny_setField_rec (s:={ s with heap:=h1 }) De (by simp) λh2 ux dC=>?_
 refine ae (ff (S7 (s:={ s with heap:=h2 }) (h:=s.heap) (it:=r) (Q:=Q) (E:=E) hh (λb o hb e=>dC.extBut b o hb (dh.extBut b o hb e)) λh' hk=>hQ h' hk) (λ_ _ f=>f.elim) λe s' q=>q)
theorem WK{r t:Addr}{i:Int}(hr:kX s.heap r t i)(h:Q (.ref r) s):wpAny (model prog w) A (pyIter (.ref r)) Q E s:=by
 have hT:s.TypeIs (.ref r) "reversed":=⟨_,hr,rfl⟩
 refine wpAny_pyIter_slot hT F.Kj (ir F.Kj hT F.Yd ?_ (F.X9 _));show wpAny _ _ (ret (.ref r)) _ _ s;exact ai ⟨_,rfl,"reversed",_,hT,F.yd.lookup,h⟩
theorem Walks.rev(hh:A.handled=none)(r t:Addr)(eL:t≠r)(xs:Array Value)(hz:xs.size<=sizeLine):
  Walks prog w A r [r,t] [r] xs.size (λi v=>xs[xs.size-1-i]?=some v) (λi h=>i<=xs.size/\kX h r t ((xs.size:Int)-1-(i:Int))/\jk h t xs) where
 sub:=λb hb=>by simp at hb;simp[hb]
 frame:=λ_ _ _ x hk=>⟨x.1,hk r (by simp) _ x.2.1,let ⟨o,e,c⟩:=x.2.2;⟨o,hk t (by simp) _ e,c⟩⟩
 item:=λi s Q E hi x hQ=>by
  have e:(xs.size:Int)-1-(i:Int)=((xs.size-1-i:Nat):Int):=by omega
  have hr:=x.2.1;rw[e]at hr;have hx:xs[xs.size-1-i]?=some (xs[xs.size-1-i]'(by omega)):=Array.getElem?_eq_getElem (by omega);refine jU hr x.2.2 hx hz λh' tk Ag kr=>?_
  have e2:((xs.size-1-i:Nat):Int)-1=(xs.size:Int)-1-((i+1:Nat):Int):=by omega
  rw[e2]at Ag;exact hQ _ h' tk hx ⟨hi,Ag,let ⟨o,eo,c⟩:=x.2.2;⟨o,(kr.2 t eL).trans eo,c⟩⟩ λb o hb eo=>kr.extBut b o (λh=>hb (by simp[h])) eo
 done:=λs Q E x hQ=>by
  have e:(xs.size:Int)-1-(xs.size:Int)=-1:=by omega
  have hr:=x.2.1;rw[e]at hr;exact nY hh hr λh' Cv=>hQ h' s.toks λb o hb eo=>Cv b o (λh=>hb (by simp[h])) eo
 self:=λ_ _ _ _ x hQ=>WK x.2.1 hQ
end PySem
namespace PySem
open Sem (wp)
open AutoSeq1 (wpAny_loadPart')
namespace F
theorem Kk:Slot "reversed" "__length_hint__" "reversed.__length_hint__":=
 .of (owner:="reversed") (n:="__length_hint__") (by rw[ji,jj];kernel_rfl) (by decide +kernel) (by decide +kernel) (by decide +kernel)
  (by first | exact .inl (by decide +kernel) | exact .inr (by decide +kernel)) (by rw[isSubtype_type];kernel_rfl)
theorem Yc:entryFor table "reversed.__length_hint__" = some Builtin.«reversed.__length_hint__»:=zo (by kernel_rfl)
theorem X2(a:Value):argsOk "reversed.__length_hint__" ⟨[a],[]⟩:=by
 unfold argsOk;rw[signature?_of (id:="reversed.__length_hint__") (n:=['_','_','t','n','i','h','_','h','t','g','n','e','l','_','_']) (o:=['d','e','s','r','e','v','e','r']) (by kernel_rfl) bU];kernel_rfl
end F
theorem jV{r t:Addr}{xs:Array Value}(hr:kX s.heap r t ((xs.size:Int)-1))(ht:jk s.heap t xs)(hz:xs.size<=sizeLine)(h:∀u tk,Q (.int xs.size u) { s with toks:=tk }):wpAny (model prog w) A (call (.builtin "reversed.__length_hint__") [.ref r]) Q E s:=by
 have hT:s.TypeIs (.ref r) "reversed":=⟨_,hr,rfl⟩
 have zx:((xs.size:Int))<2 ^ 63:=by rw[fq]at hz;lia
 refine ir F.Kk hT F.Yc ?_ (F.X2 _);unfold Builtin.«reversed.__length_hint__»;refine ae (wpAny_of_eq (a:=Value.ref r) rfl ?_);refine ae (wpAny_field hr rfl (x:=.ref t) rfl ?_);show wpAny _ _ (if (Value.ref t==Value.none)=true then _ else _) _ _ s;rw[ak (show ¬((Value.ref t==Value.none)=true) from d5)];refine ae (PyProof.Rows.len_tuple ht zx ?_);refine ae (m:=asInt? _) (ai ?_);refine ae (wpAny_field (s:={ s with toks:=s.toks+1+1 }) hr rfl (x:=rawInt ((xs.size:Int)-1)) rfl ?_);show wpAny _ _ (if (xs.size:Int)<(xs.size:Int)-1+1 then _ else _) _ _ _;rw[ak (by lia)];refine ae (wpAny_mkInt (ai ⟨_,rfl,?_⟩));have e:(xs.size:Int)-1+1=xs.size:=by lia
 rw[e];exact h _ _
theorem MD(h:n<=sizeLine):Builtin.List.listFitsIndex (n:Int)=true:=by
 have:=L2.uS;unfold Builtin.List.listFitsIndex;have a:(n:Int)<=(sizeLine:Nat):=by exact_mod_cast h
 have b:((sizeLine:Nat):Int)<2 ^ 63:=by exact_mod_cast this
 generalize ((sizeLine:Nat):Int)=z at a b;simp only[gp,decide_eq_true_eq];constructor<;>lia
theorem DV{r t:Addr}{xs:Array Value}{Q:Bool->Shared->Prop}(hr:kX s.heap r t ((xs.size:Int)-1))(ht:jk s.heap t xs)(hz:xs.size<=sizeLine)
  (h:∀b tk,Q b { s with toks:=tk }):wpAny (model prog w) A (Builtin.List.listLengthHint (.ref r)) Q E s:=by
 have hT:s.TypeIs (.ref r) "reversed":=⟨_,hr,rfl⟩
 unfold Builtin.List.listLengthHint;refine ae (wpAny_specialOf hT F.Yg ?_);refine ae (wpAny_specialOf hT F.DV ?_);generalize qm:("reversed.__length_hint__" : String)=xB
 wp_delta
 rw[show splitId xB=some ("reversed","__length_hint__") from by subst qm;decide +kernel];subst qm;refine ae (wpAny_isInstance (T:="reversed") (b:=true) hT F.sub_reversed_self ?_);refine wpAny_ite_split (λfg=>absurd fg (by decide)) (λ_=>?_);refine wpAny_ite_split (λfg=>absurd fg (by decide +kernel)) (λ_=>?_);refine ae (jy ?_);refine ae (wpAny_of_eq (F.Kk.bind _) ?_);refine ae (wpAny_attempt (jV hr ht hz λu tk=>?_));have ea:asInt? (Value.int (xs.size:Int) u)=pure (some (xs.size:Int)):=rfl;simp only[ea,pure_bind];have hn:¬((xs.size:Int)<0):=by lia
 have e1:((!Builtin.List.listFitsIndex (xs.size:Int))=true)=False:=by
  rw[MD hz];simp
 have e2:(Builtin.List.listTooLong ((xs.size:Int).toNat)=true)=False:=by
  rw[L2.JS (by rw[Int.toNat_natCast];exact hz)];simp
 simp only[e1,e2,hn,if_false];exact ai (h _ _)
theorem MB{r t:Addr}{xs:Array Value}(hh:A.handled=none)(hr:kX s.heap r t ((xs.size:Int)-1))(ht:jk s.heap t xs)(hz:xs.size<=sizeLine)(hQ:∀h' tk acc c,(∀b o,b≠r->s.heap.get? b=some o->h'.get? b=some o)->h'.get? s.heap.objs.size=some { cls:=.type "list",data:=.seq acc c }->ItemsOf (λi v=>xs[xs.size-1-i]?=some v) acc xs.size->Q (.ref s.heap.objs.size) { s with heap:=h',toks:=tk }) :
  wpAny (model prog w) A (call (.type "list") [.ref r]) Q E s:=by
 have Wf:t≠r:=λe=>by
  obtain⟨o,eo,co,_⟩:=ht;rw[e,hr]at eo;cases eo;simp at co
 refine callType_codes (Q₁:=λobj bc=>obj=.ref s.heap.objs.size/\bc={ s with heap:=s.heap.push { cls:=.type "list",data:=.seq #[] } }) F.called_list (F.typeCall_list_1 _) F.entry_list_init (code_list_new _ ⟨rfl,rfl⟩) ?_;rintro obj bc ⟨rfl,rfl⟩;have hS:(s.heap.push { cls:=.type "list",data:=.seq #[] }).get? s.heap.objs.size=some { cls:=.type "list",data:=.seq #[] }:=dj _ rfl;refine⟨⟨_,hS,rfl⟩,F.args_list_init_2 _ _,?_⟩;generalize hH:s.heap.push { cls:=.type "list",data:=.seq #[] }=H1 at hS;have k1:∀b o,s.heap.get? b=some o->H1.get? b=some o:=λb o e=>by rw[<-hH];exact dg _ e
 have De:kX H1 r t ((xs.size:Int)-1):=k1 _ _ hr;have Dh:jk H1 t xs:=let ⟨o,e,c⟩:=ht;⟨o,k1 _ _ e,c⟩
 have Ah:s.heap.objs.size≠r:=iS (bh hr);have Di:t<s.heap.objs.size:=by obtain⟨o,e,_⟩:=ht;exact bh e
 have uj:s.heap.objs.size∉[r,t]:=λz=>by
  rcases ck z with z | z
  .exact Ah z
  .exact absurd (eR z) (iS Di)
 have W:=(Walks.rev (prog:=prog) (w:=w) (A:=A.in1.in1) hh r t Wf xs hz).toS;have loop:∀(h:Heap) (c tk:Nat),kX h r t ((xs.size:Int)-1)->jk h t xs->h.get? s.heap.objs.size=some { cls:=.type "list",data:=.seq #[] c }->(∀b o,b≠r->s.heap.get? b=some o->h.get? b=some o)->
   codeAny (model prog w) A.in1 (.builtin "list.extend.loop" ⟨[.ref s.heap.objs.size,.ref r,.none],[]⟩) (wants (λr cS=>r=.none/\Q (.ref s.heap.objs.size) cS) E) { s with heap:=h,toks:=tk }:=by
  intro h c tk a1 a2 a3 a4;refine codeAny_extend_loopS W hz _ uj .none xs.size 0 _ #[] c rfl (eS _) ⟨eS _,by simpa using a1,a2⟩ a3 (ItemsOf.nil _) λs' gT df hm lh gq=>?_
  rw[Moved.eq_with hm];refine⟨rfl,hQ s'.heap s'.toks gT df (λb o hb e=>hm.heap b o (λz=>?_) (a4 b o hb e)) lh gq⟩;rcases ck z with z | z
  .exact absurd (bh e) (by rw[z];exact hZ _)
  .exact hb (eR z)
 unfold Builtin.«list.__init__»;show wpAny _ _ (do let old <-Builtin.List.listItems (.ref s.heap.objs.size);Builtin.List.listUpdate (.ref s.heap.objs.size) (λ_=>#[]);letGo old.toList.reverse;Builtin.List.listExtendWith (.ref s.heap.objs.size) (.ref r) .none) _ _ _;refine ae ?_;unfold Builtin.List.listItems;refine ae (wpAny_seqItems hS rfl (ai ?_));refine ae (m:=updateSeq s.heap.objs.size (λ_=>#[])) (wpAny_updateSeq hS rfl ?_);have ui:=k7 (Obj.mapSeq (λ_=>(#[]:Array Value))) hS rfl;have k2:∀b o,b≠s.heap.objs.size->H1.get? b=some o->(H1.update s.heap.objs.size (Obj.mapSeq (λ_=>(#[]:Array Value)))).get? b=some o:=λb o hb e=>(Heap.get?_update_other _ _ (Ne.symm hb)).trans e
 generalize wx:H1.update s.heap.objs.size (Obj.mapSeq (λ_=>(#[]:Array Value)))=H2 at ui k2;have ux:kX H2 r t ((xs.size:Int)-1):=k2 _ _ (Ne.symm Ah) De;have sy:jk H2 t xs:=let ⟨o,e,c⟩:=Dh;⟨o,k2 _ _ (cm Di) e,c⟩
 have k3:∀b o,s.heap.get? b=some o->H2.get? b=some o:=λb o e=>k2 b o (cm (bh e)) (k1 b o e)
 refine ae (wpAny_letGo ?_);unfold Builtin.List.listExtendWith;refine ae (wpAny_typeOf (T:="reversed") ⟨_,ux,rfl⟩ ?_);rw[ak (by simp[Builtin.List.listSameRef,Ah])];refine ae (WK ux ?_);refine ae (f6 (DV ux sy hz λb tk=>?_));refine wpAny_ite_split (λ_=>?_) (λ_=>ai ⟨plainId_quiet F.plain_extend_loop _,loop H2 _ tk ux sy ui λb o _ e=>k3 b o e⟩);refine ae (jy ?_);refine ae ?_;show wpAny _ _ (updateSeq s.heap.objs.size (·.push .none) >>= λ_=>updateSeq s.heap.objs.size (·.pop)) _ _ _;refine ae (wpAny_updateSeq ui rfl ?_);have Ig:=k7 (Obj.mapSeq (·.push Value.none)) ui rfl;refine wpAny_updateSeq (hz:=by seq_fits) Ig rfl ?_;have Uv:=k7 (Obj.mapSeq (·.pop)) Ig rfl;have k4:∀b o,b≠s.heap.objs.size->H2.get? b=some o->((H2.update s.heap.objs.size (Obj.mapSeq (·.push Value.none))).update s.heap.objs.size (Obj.mapSeq (·.pop))).get? b=some o:=
  λb o hb e=>(Heap.get?_update_other _ _ (Ne.symm hb)).trans ((Heap.get?_update_other _ _ (Ne.symm hb)).trans e)
 exact ai ⟨plainId_quiet F.plain_extend_loop _,loop _ _ tk (k4 _ _ (Ne.symm Ah) ux) (let ⟨o,e,c⟩:=sy;⟨o,k4 _ _ (cm Di) e,c⟩) Uv λb o _ e=>k4 b o (cm (bh e)) (k3 b o e)⟩
end PySem
namespace L2
open PySem PySem.Spec PyProof.Rows
def Rf(K:p4)(te:TE):TE:=λ σ H Q=>te σ H λx H1=>∃a xs,[x]=[V.ref a]/\dS K H1 a xs/\∀l,H1 l=none->Q (.ref l) (upd H1 l (.lst xs.reverse))
theorem Lf{xs:List V}(r:Vals xs its)(hi:ItemsOf (λi v=>its.toArray[its.toArray.size-1-i]?=some v) acc its.toArray.size):Vals xs.reverse acc.toList:=by
 have e:acc.toList=its.reverse:=by
  apply List.ext_getElem?;intro i;have hs:its.toArray.size=its.length:=by simp
  have h1:=hi.1;rw[hs]at h1
  by_cases cp:i<its.length
  .have ha:acc[i]?=some acc[i]:=by simp[show i<acc.size by omega]
   have h2:=hi.2 i _ ha;rw[Array.getElem?_toList,ha,List.getElem?_reverse cp,<-h2,hs];simp
  .rw[List.getElem?_eq_none (by rw[eK];omega),List.getElem?_eq_none (by rw[List.length_reverse];omega)]
 rw[e];exact r.reverse
theorem Na(hc:X.calm=true)(iz:Gl X "list")(fh:X.mg "list" = none)(ju:Gl X "reversed")(jx:X.mg "reversed" = none)(he:PE X e te)(dh:starEach [Expr.Call (.Name "reversed" p2) [e] [] q2] X.env=[(false,eval (.Call (.Name "reversed" p2) [e] [] q2) X.env)]:=by rfl)(dC:starEach [e] X.env=[(false,eval e X.env)]:=by rfl) :
  PE X (.Call (.Name "list" p1) [.Call (.Name "reversed" p2) [e] [] q2] [] q1) (Rf X.K te):=by
 intro pi s σ H Q I h;refine Call_ (LQ I iz fh boot_list (PyProof.Rows.callWith_type1 ?_ dh rfl));have inner:wpAny (model X.prog X.w) X.A (eval (.Call (.Name "reversed" p2) [e] [] q2) X.env)
   (λv s1=>∃a xs its r H1,v=.ref r/\Inv X pi σ H1 s1/\dS X.K H1 a xs/\Vals xs its/\IsTup s1.heap a its.toArray/\xs.length<=sizeLine/\kX s1.heap r a ((its.toArray.size:Int)-1)/\PL X pi H1 r/\∀l,H1 l=none->Q (.ref l) (upd H1 l (.lst xs.reverse))) X.xe s:=by
  refine Call_ (LQ I ju jx boot_reversed (PyProof.Rows.callWith_type1 (a9 (J7 he JR dC q2 pi s σ H (λvs H1=>∃a xs,vs=[.ref a]/\dS X.K H1 a xs/\∀l,H1 l=none->Q (.ref l) (upd H1 l (.lst xs.reverse))) I ?_) λus s1 ⟨vs,H1,I1,r1,q1⟩=>?_) dC rfl))
  .exact h
  .obtain⟨a,xs,rfl,hq,q⟩:=q1
   obtain⟨u,rfl,ru⟩:=r1.one;cases ru;obtain⟨its,rv,ht,hz⟩:=I1.tuple hq;have hl:=rv.length;refine ME ht (by rw[dv];lia) ?_;refine⟨a,xs,its,_,H1,rfl,I1.kept λb o e=>dg _ e,hq,rv,?_,hz,dj _ rfl,I1.nK (a0 _) (I1.aS.fresh (a0 _)),q⟩;obtain⟨o,eo,c⟩:=ht;exact⟨o,dg _ eo,c⟩
 rw[dh];refine oI (a9 inner λv s1 ah=>?_);obtain⟨a,xs,its,r,H1,ev,I1,hq,rv,ht,hz,hr,hf,q⟩:=ah;refine qe ?_;subst ev;have hl:=rv.length;refine MB (I1.ok.hd hc) hr ht (by rw[dv];lia) λh' tk acc c hk hS hi=>?_
 have I2:Inv X pi σ (upd H1 s1.heap.objs.size (.lst xs.reverse)) { s1 with heap:=h',toks:=tk }:=
  I1.D7 (fp:=[r]) (o:=.lst xs.reverse) (λb hb=>by rw[eR hb];exact hf) (λb ob hb e=>hk b ob (λz=>hb (by simp[z])) e) (a0 _)
   ⟨by rw[List.length_reverse];exact hz,acc.toList,c,Lf rv hi,by simpa using hS⟩
 exact⟨.ref _,_,I2,rfl,q _ (I1.aS.fresh (a0 _))⟩
end L2
namespace PySem
open Sem (wp)
namespace F
theorem Tx:typeLookup (.type "tuple") (Str.ofString "keys")=pure none:=by rw[ji,jj];kernel_rfl
end F
theorem yR{o:Obj}{xs:Array Value}{k:Nat}{Q:Option Value->Shared->Prop}(hx:s.heap.get? a=some o)(hc:o.cls=.type "tuple")(fS:o.data=.seq xs k)(hd:o.dict=none)(hA:A.handled=none)(h:∀h' tk,(∀b ob,s.heap.get? b=some ob->h'.get? b=some ob)->Q none { s with heap:=h',toks:=tk }):wpAny (model prog w) A (getAttr? (.ref a) "keys") Q E s:=by
 obtain⟨c,aq,dat,sl⟩:=o;simp only at hc fS hd;subst hc fS hd;obtain⟨hp,g,d,tk,os⟩:=s;have hT:∀pT,(⟨hp,g,d,pT,os⟩:Shared).TypeIs (.ref a) "tuple":=λ_=>⟨_,hx,rfl⟩
 have f1:=sub_AttributeError;have f3:=F.slot_tuple_getattribute.lookup;have f4:=F.slot_tuple_getattribute.bind (.ref a);have f5:=am_tuple_getattr_none;have n1:(["__module__","__name__","__qualname__","__doc__","__annotations__"]:List Str).contains (Str.ofString "keys")=false:=by decide +kernel
 have n2:(Str.ofString "keys").length+100<=sizeLine:=by decide +kernel
 unfold getAttr? getAttrBy? getAttrBy
 repeat (any_goals (first | assumption | exact hT _ | ((with_reducible show wpAny _ _ (call (Value.builtin "tuple.__getattribute__") _ _) _ _ _);refine call_meets F.slot_tuple_getattribute (hT _) am_entry_tuple_getattribute (F.args_tuple_getattribute_2 _ _) (meets_getattribute_miss_tuple a xs k sl (Str.ofString "keys") _ F.Tx n1 n2) ⟨hx,hA,λh' pT e kP=>?_⟩) | wp_step))
 obtain⟨t',g9,he⟩:=kP.there;show wpAny _ _ (getattributeRaised _ _ _ _ _ _ _) _ _ _;unfold getattributeRaised
 repeat (any_goals (first | assumption | wp_step))
 exact h _ _ kP.keeps
namespace F
theorem qc:plainId "dict.update.loop" = true:=by decide +kernel
theorem zi:entryFor table "dict.update.loop" = some Builtin.«dict.update.loop»:=zo (by kernel_rfl)
end F
section
variable{K:Type}[DecidableEq K]{knd:KeyKind prog w K}
def iP(knd:KeyKind prog w K)(h:Heap):List Value->List (K×Value)->Prop:=Paired λu p=>∃a key,u=Value.ref a/\knd.is p.1 key=true/\jk h a #[key,p.2]
theorem iP.keep{ps:List (K×Value)}{d:Addr}(x:iP knd h us ps)(hd:∀u∈us,u≠.ref d/\u≠.ref it)(k:∀b o,b≠d->b≠it->h.get? b=some o->h'.get? b=some o):iP knd h' us ps:=by
 induction x with
 | nil=>exact .nil
 | cons q t ih=>
  obtain⟨a,key,e,hk,o,ho,hc⟩:=q;refine .cons ⟨a,key,e,hk,o,k _ _ ?_ ?_ ho,hc⟩ (ih λu hu=>hd u (b7 _ hu))
  .rintro rfl;exact(hd _ b0).1 e
  .rintro rfl;exact(hd _ b0).2 e
theorem gF(kvs:List (K×Value))(k:K)(v:Value):(stored kvs k v).length<=kvs.length+1:=by
 unfold stored;split
 .rw[a8];lia
 .rw[gc,oQ];lia
theorem Og{d t:Addr}(hh:A.handled=none)(Cu:d≠t)(hit:it≠t)(si:d≠it)(ie:∀u∈us,u≠.ref d/\u≠.ref it)(hz:us.length<=1000):
  ∀(n i:Nat) (s:Shared) (ps:List (K×Value)) (kvs:List (K×Value)),us.length-i=n->i<=us.length->s.heap.IsTupleIter it t i->jk s.heap t us.toArray->iP knd s.heap (us.drop i) ps->s.heap.DictOf knd d kvs->kvs.length+ps.length<=2000->
   (∀h' tk,h'.DictOf knd d (ps.foldl (λacc p=>stored acc p.1 p.2) kvs)->(∀b o,b≠d->b≠it->s.heap.get? b=some o->h'.get? b=some o)->R (.ok (.ret .none)) { s with heap:=h',toks:=tk })->
   codeAny (model prog w) A (.builtin "dict.update.loop" ⟨[.ref d,.ref it,rawInt i,.none],[]⟩) R s:=by
 intro n
 induction n with
 | zero=>
  intro i s ps kvs hn hi hI hT hP hD hl hR;refine jo F.zi ?_;rw[kj F.qc _];unfold Builtin.«dict.update.loop»;have C2:us.drop i=[]:=List.drop_eq_nil_of_le (by lia);rw[C2]at hP;cases hP;refine ae (wpAny_pyNext_tuple_end (A:=A.in1) hh hI (show s.heap.IsTuple t us.toArray from hT) (by simp;lia) λh' hk=>?_);refine ae (m:=Builtin.Dict.addKeywords d []) (ai ?_);refine ai (hR h' s.toks ?_ λb o _ hb e=>hk b o hb e);obtain⟨o,es,ep,ho,r⟩:=hD;exact⟨o,es,ep,hk _ _ si ho,r⟩
 | succ n ih=>
  intro i s ps kvs hn hi hI hT hP hD hl hR;refine jo F.zi ?_;rw[kj F.qc _];unfold Builtin.«dict.update.loop»;have cp:i<us.length:=by lia
  have Ct:us.drop i=us[i]::us.drop (i+1):=List.drop_eq_getElem_cons cp;rw[Ct]at hP;cases hP with
  | @cons u p D9 pw q rest=>
  obtain⟨a,key,ea,hk,ha⟩:=q;have oT:=ie us[i] (List.getElem_mem cp);refine ae (wpAny_pyNext_tuple_item hI (show s.heap.IsTuple t us.toArray from hT) (x:=us[i]) (by simp[cp]) λh1 kl dh=>?_);have Cn:jk h1 a #[key,p.2]:=let ⟨o,ho,hc⟩:=ha;⟨o,(dh.2 a (λz=>oT.2 (by rw[ea,z]))).trans ho,hc⟩
  have wz:jk h1 t us.toArray:=let ⟨o,ho,hc⟩:=hT;⟨o,(dh.2 t (Ne.symm hit)).trans ho,hc⟩
  have Cc:h1.DictOf knd d kvs:=let ⟨o,es,ep,ho,r⟩:=hD;⟨o,es,ep,(dh.2 d si).trans ho,r⟩
  have Cg:iP knd h1 (us.drop (i+1)) pw:=iP.keep (d:=d) (it:=it) rest (λu hu=>ie u (List.mem_of_mem_drop hu)) λb o _ hb e=>(dh.2 b hb).trans e
  dsimp only;rw[ea];refine ae (f6 ?_);have pair:wpAny (model prog w) A.in1 (Builtin.Dict.pairItems (.ref a)) (λl s'=>l=[key,p.2]/\s'={ s with heap:=h1 }) (λ_ _=>False) { s with heap:=h1 }:=by
   obtain⟨o,ho,hc,m,hd⟩:=Cn;unfold Builtin.Dict.pairItems;refine ae (wpAny_typeOf (T:="tuple") ⟨o,ho,hc⟩ ?_);rw[ag (by simp)];refine ae (wpAny_seqItems ho hd (ai ⟨by simp,rfl⟩))
  refine ae (wpAny_tryCatch (ff pair (λl s' CI=>?_) λ_ _ f=>f.elim));obtain⟨rfl,rfl⟩:=CI;have hlen:kvs.length<=sizeLine:=by rw[fq];lia
  refine f6 (wpAny_dictSet_pairs (s:={ s with heap:=h1 }) hk Cc (λh2 Cd dC=>?_) hlen);refine ai ⟨plainId_quiet F.qc _,?_⟩;have ei:(i:Int)+1=((i+1:Nat):Int):=by lia
  rw[ei];have jw:∀b o,b≠d->h1.get? b=some o->h2.get? b=some o:=λb o hb e=>(dC.2 b hb).trans e
  refine ih (i+1) { s with heap:=h2,toks:=s.toks+1 } pw (stored kvs p.1 p.2) (by lia) (by lia) (kl.at λo e=>jw it o (Ne.symm si) e) (let ⟨o,ho,hc⟩:=wz;⟨o,jw t o (Ne.symm Cu) ho,hc⟩)
   (iP.keep (d:=d) (it:=it) Cg (λu hu=>ie u (List.mem_of_mem_drop hu)) λb o hb _ e=>jw b o hb e) Cd ?_ λh' tk Cb ic=>?_
  .have:=gF kvs p.1 p.2
   rw[kg]at hl;lia
  .exact hR h' tk Cb λb o w4 w8 e=>ic b o w4 w8 (jw b o w4 ((dh.2 b w8).trans e))
end
end PySem
namespace PySem
open Sem (wp)
section
variable{K:Type}[DecidableEq K]{knd:KeyKind prog w K}
theorem iP.mem{ps:List (K×Value)}(x:iP knd h us ps):∀u∈us,∃a,u=.ref a/\a<h.objs.size:=by
 induction x with
 | nil=>intro u hu;cases hu
 | cons q _ ih=>
  intro u hu;rcases ck hu with e | e
  .subst e
   obtain⟨a,key,rfl,_,ob,nT,_⟩:=q;exact⟨a,rfl,bh nT⟩
  .exact ih u e
theorem Oh{t:Addr}{o:Obj}{m:Nat}{ps:List (K×Value)}(hh:A.handled=none)(ho:s.heap.get? t=some o)(hc:o.cls=.type "tuple")(hd:o.dict=none)(fS:o.data=.seq us.toArray m)(hP:iP knd s.heap us ps)(hz:us.length<=1000)(UD:sysModules<s.heap.objs.size)(h:∀h' tk,h'.DictOf knd s.heap.objs.size (ps.foldl (λacc p=>stored acc p.1 p.2) [])->(∀b ob,s.heap.get? b=some ob->h'.get? b=some ob)->Q (.ref s.heap.objs.size) { s with heap:=h',toks:=tk }) :
  wpAny (model prog w) A (call (.type "dict") [.ref t]) Q E s:=by
 refine callType_codes (Q₁:=λobj bc=>obj=.ref s.heap.objs.size/\bc={ s with heap:=s.heap.push { cls:=.type "dict",data:=.dict #[] } }) F.kt_called_dict (F.kt_typeCall_dict_1 _) F.entry_dict_init (kt_code_dict_new _ ⟨rfl,rfl⟩) ?_;rintro obj bc ⟨rfl,rfl⟩;have mN:(s.heap.push { cls:=.type "dict",data:=.dict #[] }).DictOf knd s.heap.objs.size []:=Heap.DictOf.new s.heap;refine⟨mN.typeIs,F.args_dict_init_2 _ _,?_⟩;generalize hH:s.heap.push { cls:=.type "dict",data:=.dict #[] }=H1 at mN;have k1:∀b ob,s.heap.get? b=some ob->H1.get? b=some ob:=λb ob e=>by rw[<-hH];exact dg _ e
 have dh:H1.objs.size=s.heap.objs.size+1:=by rw[<-hH,mE]
 have xu:t<s.heap.objs.size:=bh ho;unfold Builtin.«dict.__init__»;refine ae ?_;unfold Builtin.Dict.selfAndRest;refine ae (wpAny_notOrdered_dict mN.typeIs ?_);show wpAny _ _ (pure (s.heap.objs.size,[Value.ref t])) _ _ _;refine ai ?_;show wpAny _ _ (Builtin.Dict.updateFrom "dict.__init__" s.heap.objs.size (.ref t) [] .none) _ _ _;unfold Builtin.Dict.updateFrom;refine ae (wpAny_typeOf (T:="tuple") ⟨o,k1 _ _ ho,hc⟩ ?_);rw[ag (by decide)];refine ae (yR (s:={ s with heap:=H1 }) (k1 _ _ ho) hc fS hd (show A.in1.in1.handled=none from hh) λH2 tk k2=>?_);rw[ag (by rfl)];refine ae (jy ?_);have qh:jk H2 t us.toArray:=⟨o,k2 _ _ (k1 _ _ ho),hc,m,fS⟩
 refine ae (wpAny_pyIter_tuple (s:={ s with heap:=H2,toks:=tk }) (show H2.IsTuple t us.toArray from qh) ?_);refine ai ⟨plainId_quiet F.qc _,?_⟩;have oS:s.heap.objs.size<H2.objs.size:=by
  obtain⟨od,_,_,kM,_⟩:=mN;exact bh (k2 _ _ kM)
 have ie:∀u∈us,∃a,u=.ref a/\a<s.heap.objs.size:=λu hu=>hP.mem u hu
 have k3:∀b ob,H2.get? b=some ob->(H2.push { cls:=.type "tuple_iterator",data:=.fields #[.ref t,.int 0 0] }).get? b=some ob:=λb ob e=>dg _ e
 refine Og (knd:=knd) (A:=A.in1) (it:=H2.objs.size) (t:=t) (us:=us) hh (iS xu) (iS (Nat.lt_trans xu oS)) (cm oS) (λu hu=>?_) hz us.length 0 _ ps [] (by lia) (eS _) ⟨_,dj _ rfl,rfl,rfl⟩
  (let ⟨ob,e,c⟩:=qh;⟨ob,k3 _ _ e,c⟩) ?_ ?_ ?_ λh' pT hD hk=>?_
 .obtain⟨a,rfl,ha⟩:=ie u hu
  exact⟨λz=>by cases z;exact hZ _ ha,λz=>by cases z;exact hZ _ (Nat.lt_trans ha oS)⟩
 .rw[List.drop_zero]
  refine iP.keep (d:=s.heap.objs.size) (it:=s.heap.objs.size) hP (λu hu=>?_) λb ob _ _ e=>k3 _ _ (k2 _ _ (k1 _ _ e))
  obtain⟨a,rfl,ha⟩:=ie u hu;exact⟨λz=>by cases z;exact hZ _ ha,λz=>by cases z;exact hZ _ ha⟩
 .obtain⟨od,es,ep,kM,r⟩:=mN
  exact⟨od,es,ep,k3 _ _ (k2 _ _ kM),r⟩
 .have e:us.length=ps.length:=Paired.length hP
  simp only[List.length_nil];lia
 .refine⟨rfl,h h' pT hD λb ob e=>hk b ob (cm (bh e)) (cm (Nat.lt_trans (bh e) oS)) (k3 _ _ (k2 _ _ (k1 _ _ e)))⟩
end
end PySem
namespace L2
open PySem PySem.Spec PyProof.Rows
def zT(K:p4)(H:Hp):List V->List (Key×V)->Prop:=Paired λv kv=>∃b,v=.ref b/\dS K H b [kV kv.1,kv.2]
theorem Z9(kvs:List (Key×V)){P:Program}{w:World}:∀{vs:List (Key×Value)} {acc:List (Key×V)} {gT:List (Key×Value)},KV kvs vs->KV acc gT->KV (JT acc kvs) (vs.foldl (λa p=>stored a p.1 p.2) gT):=by
 induction kvs with
 | nil=>intro vs acc gT r ra;cases r;exact ra
 | cons kv kvs ih=>
  intro vs acc gT r ra;cases r with
  | @cons a b l1 l2 q rr=>
   obtain⟨k,v⟩:=kv;obtain⟨uB,u⟩:=b;obtain⟨e,rv⟩:=q;have e:k=uB:=e;subst e;show KV (JT (putK acc k v) kvs) (l2.foldl (λa p=>stored a p.1 p.2) (stored gT k u));exact ih rr (ra.put k rv)
theorem ER(I:Inv X pi σ H s)(h:zT X.K H vs kvs)(g:Vals vs us):∃ps:List (Key×Value),KV kvs ps/\iP (CZ X.prog X.w) s.heap us ps:=by
 induction h generalizing us with
 | nil=>cases g;exact⟨[],.nil,.nil⟩
 | @cons v kv _ _ q t ih=>cases g with
  | cons r rr=>
   obtain⟨ps,h1,h2⟩:=ih rr;obtain⟨b,rfl,hq⟩:=q;cases r;obtain⟨its,rv,ht,_⟩:=I.tuple hq;obtain⟨u1,u2,rfl,r1,r2⟩:=rv.two;exact⟨(kv.1,u2)::ps,.cons ⟨rfl,r2⟩ h1,.cons ⟨b,u1,rfl,cQ r1,ht⟩ h2⟩
end L2
namespace L2
open PySem PySem.Spec PyProof.Rows
theorem V2:∀{vs:List Value} {ss:List Str} {n:Nat},vs.length=n->n=ss.length->(∀(j:Nat) (v:Value),vs[j]?=some v->∃x t,v=Value.str x t/\ss[j]?=some x)->StrsAre vs ss
 | [],[],_,_,_,_=>.nil
 | [],_::_,_,h1,h2,_=>by subst h1;simp at h2
 | _::_,[],_,h1,h2,_=>by subst h2;simp at h1
 | v::vs,x::ss,n,h1,h2,h=>by
  obtain⟨y,t,rfl,e⟩:=h 0 v rfl;have aE:x=y:=cq e;subst aE;refine .cons x t (V2 (n:=ss.length) ?_ rfl λj u hj=>h (j+1) u hj);rw[h2]at h1;simpa using h1
theorem jL{d:Addr}{kvs:List (Key×Value)}{ss:List Str}(hh:A.handled=none)(lo:(d==sysModules)=false)(hD:s.heap.DictOf (CZ prog w) d kvs)(hk:kvs.map (·.1)=ss.map Sum.inr)(dz:kvs.length<64)(h:∀(h1 h':Heap) (tk:Nat) (D:Addr) (out:Array Value) (gE:List Str) (c:Nat),(∀b o,s.heap.get? b=some o->h1.get? b=some o)->D=h1.objs.size->(∀b o,h1.get? b=some o->h'.get? b=some o)->h'.get? D=some { cls:=.type "list",data:=.seq out c }->StrsAre out.toList gE->gE.Perm ss->sortedS gE=true->
   Q (.ref D) { s with heap:=h',toks:=tk }):wpAny (model prog w) A (call (.builtin "sorted") [.ref d]) Q E s:=by
 obtain⟨ep,Co⟩:=hD.dictAt;refine wu kind_sorted plain_sorted entry_sorted (args_sorted1 _) ?_;unfold Builtin.«sorted»;refine ae (m:=checkCount "sorted" 1 1 _) (ai ?_);refine ae (PySem.W.kdu_collect (A:=A.in1) (PySem.W.kdl_dict (knd:=CZ prog w) (kvs:=kvs) (ep:=ep) lo) hh Co (by rw[fq];lia) λh1 tk acc ko gq=>?_);have hl:acc.toList.length=kvs.length:=by rw[eK];exact gq.1
 refine ae (ug ?_ (by rw[hl,fq];lia));have hS:StrsAre acc.toList ss:=by
  refine V2 hl (by rw[<-a8 (f:=(Sum.inr:Str->Key)),<-hk,a8]) λj v e=>?_
  obtain⟨k,x,hx,hi⟩:=gq.2 j v (by rw[<-Array.getElem?_toList];exact e);have e1:(kvs.map (·.1))[j]?=some k:=by rw[gi,hx];rfl
  rw[hk,gi]at e1;cases q:ss[j]? with
  | none=>rw[q]at e1;cases e1
  | some z=>
   rw[q]at e1;have e2:Sum.inr z=k:=cq e1;subst e2;rcases FW (k:=Sum.inr z) (v:=v) hi with ⟨i,t,e3,_⟩ | ⟨y,t,e3,e4⟩
   .cases e3
   .cases e3
    exact⟨z,t,e4,rfl⟩
 have ho:(h1.push (seqObj "list" acc.toList.toArray 0)).get? h1.objs.size=some (seqObj "list" acc.toList.toArray 0):=dj _ rfl;refine ae (f6 (ir slot_list_sort ⟨_,ho,rfl⟩ entry_list_sort (list_sort_treeK strKind_oneLt ho hS.keysOf (λYY Y1 rest e=>keyKind_strs (by rw[<-e];exact hS)) (by rw[hl];exact dz) λg7 hp hs=>⟨_,rfl,?_⟩) (args_list_sort _)));obtain⟨gE,Uq,zr,B9⟩:=sorted_out_str hS hp hs;refine ai ⟨_,rfl,?_⟩;obtain⟨c,hc⟩:=sortedHeap_at (vs:=acc.toList) (out:=(arrOf g7).map (·.2)) ho;refine h h1 _ tk _ _ gE c ko rfl (λb o e=>?_) hc Uq zr B9;have hb:b<h1.objs.size:=bh e;rw[sortedHeap_old (cm hb) (by rw[mE];exact mh hb)];exact dg _ e
theorem lZ(hc:X.calm=true):fI X (.builtin "sorted") (λxs H Q=>∃a kvs ss,xs=[.ref a]/\Rd H a (.dK kvs)/\kvs.map (·.1)=ss.map Sum.inr/\kvs.length<64/\
  ∀p gE,H p=none->gE.Perm ss->sortedS gE=true->Q (.ref p) (upd H p (.lst (gE.map V.str)))):=by
 intro pi s σ H xs us Q I r h;obtain⟨a,kvs,ss,rfl,ha,hk,dz,q⟩:=h;obtain⟨u,rfl,ru⟩:=vals1 r;cases ru;obtain⟨z,lo,vs,rel,dd⟩:=T7 I.aS ha;refine jL (I.ok.hd hc) lo dd (by rw[<-rel.keys];exact hk) (by rw[<-rel.length];exact dz) λh1 h' tk D out gE c k1 eD k2 hD hS hp hs=>?_
 subst eD;have I1:Inv X pi σ H { s with heap:=h1,toks:=tk }:=I.kept k1;have I2:Inv X pi σ (upd H h1.objs.size (.lst (gE.map V.str))) { s with heap:=h',toks:=tk }:=I1.laid (λb o e=>k2 b o e) (a0 _) ⟨?_,out.toList,c,fY hS,by simpa using hD⟩
 .exact⟨.ref _,_,I2,rfl,q _ gE (I1.aS.fresh (a0 _)) hp hs⟩
 .rw[a8,hp.length_eq,<-a8 (f:=(Sum.inr:Str->Key)),<-hk,a8,fq]
  lia
theorem Ts:fI X (.type "tuple") (λxs H Q=>∃p ys,xs=[.ref p]/\b9 X.K H p ys/\∀l o,H l=none->o.cls=.type "tuple"->o.dict=none->Q (.ref l) (upd H l (.bq o (.tup ys)))):=by
 intro pi s σ H xs us Q I r h;obtain⟨p,ys,rfl,hq,q⟩:=h;obtain⟨u,rfl,rx⟩:=vals1 r;cases rx;obtain⟨its,bE,pl,hz⟩:=I.list hq;have hlen:=bE.length;refine call_tuple_list pl.isList (λh' kp=>?_) (by simp only[dv]<;>lia);have I1:Inv X pi σ H { s with heap:=h' }:=I.kept (t':=s.toks) kp;have I2:Inv X pi σ (upd H h'.objs.size (.bq { cls:=.type "tuple",data:=.seq its.toArray } (.tup ys))) { s with heap:=h'.push { cls:=.type "tuple",data:=.seq its.toArray } }:=
  I1.laid (t':=s.toks) (λb o e=>dg _ e) (a0 _) ⟨dj _ rfl,show dw X.prog X.w _ _ _ (.tup ys) from ⟨hz,its,bE,IsTup.new _ _⟩⟩
 exact⟨.ref h'.objs.size,_,I2,rfl,q _ _ (I1.aS.fresh (a0 _)) rfl rfl⟩
end L2
namespace PySem.W
end PySem.W
namespace L2
open PySem PySem.Spec PyProof.Rows
section
variable{o:HO}
theorem dw.there(x:dw P w H h a o):∃ob,h.get? a=some ob:=by
 induction o with
 | lst xs=>obtain⟨_,_,_,_,e⟩:=x;exact⟨_,e⟩
 | tup xs=>obtain⟨_,_,_,ob,e,_⟩:=x;exact⟨_,e⟩
 | dK kvs=>obtain⟨_,_,_,_,ob,_,_,e,_⟩:=x;exact⟨_,e⟩
 | dT kvs=>obtain⟨_,_,_,_,ob,_,_,e,_⟩:=x;exact⟨_,e⟩
 | dF kvs=>obtain⟨_,_,o,_,_,e,_⟩:=x;exact⟨o,e⟩
 | set S n=>obtain⟨ob,_,_,_,e,_⟩:=x;exact⟨_,e⟩
 | own y=>exact x
 | kQ lo hi=>obtain⟨_,_,_,e⟩:=x;exact⟨_,e⟩
 | bq ob u ih=>exact⟨_,x.1⟩
 | qE ps=>exact⟨_,x⟩
 | ext tN=>exact x.2.1
end
section
variable{D:Addr}{o:HO}{m:Str->Option Value}
noncomputable abbrev uf (s:Shared):Heap:=tP.Ay s.heap
noncomputable abbrev EW (X:Cx) (s:Shared):List (Addr×Obj):=UJ (uf s) s.heap X.env.locals
theorem Z8(N:News (uf s) X.env.locals h' ((D,ob)::EW X s)):∀b u,b≠X.env.locals->s.heap.get? b=some u->h'.get? b=some u:=λb u hb e=>
 (N (b,u) (b7 _ (ZC hb (tP.DJ _ _) e))).1
theorem Inv.Xm(I:Inv X pi σ H s)(hm:s.heap.Ns X.env.locals m)(F:Fr (uf s) X.env.locals h' m)(N:News (uf s) X.env.locals h' ((D,ob)::EW X s))(hD:s.heap.get? D=none)(new:dw X.prog X.w (upd H D o) h' D o):Inv X pi σ (upd H D o) { s with heap:=h',toks:=t' }:=by
 have hn:H D=none:=by
  cases q:H D with
  | none=>rfl
  | some u=>
   obtain⟨Xv,e⟩:=(I.aS D u q).there;rw[hD]at e;cases e
 have up:∀b u,H b=some u->upd H D o b=some u:=λb u e=>by rw[CK (G4 e hn)];exact e
 have keep:=Z8 N;refine I.step (g':=s.gens) (d':=s.drawn) (ch:=[]) (λb hb=>nomatch hb) (λb u hL _ _ e _=>keep b u hL e) (λb u hL _ _ e _=>⟨u.slots,keep b u hL e⟩)
  (λb u _ e n=>?_) (λb u _ e=>?_) (λb xs e=>up b _ e) (λb u xs e=>up b _ e) (λb ps e=>⟨#[],by rw[up b _ e];simp⟩) (λaf su=>?_) (λb u e=>?_) I.bare
 .rw[CK (λz=>by rw[z,hD]at e;cases e)]
  exact n
 .by_cases hL:b=X.env.locals
  .subst hL
   obtain⟨ol,_,_,aE,_⟩:=F.ns;exact⟨ol,aE⟩
  .exact⟨u,keep b u hL e⟩
 .have e:af=m:=by
   obtain⟨o1,fc,aad,a1,b1,c1,d1⟩:=hm;obtain⟨o2,qf,Hx,a2,b2,c2,d2⟩:=su;rw[a1]at a2;cases a2;rw[b1]at b2;cases b2;funext x;rw[<-d1 x,<-d2 x]
  rw[e];exact F.ns
 .by_cases hb:b=D
  .subst hb;rw[DP]at e;cases e;exact new
  .rw[CK hb]at e
   refine(I.aS b u e).ku (λc v hc q=>keep c v (λz=>?_) q) (λc q=>up c _ q) λc xs q=>up c _ q
   have n:=I.free;rcases hc with rfl | hc
   .rw[z,n]at e;cases e
   .rw[z,n]at hc;cases hc
end
noncomputable def cH(p q:Str×Int):Bool:=if p.1=q.1 then (if p.2=q.2 then false else decide (p.2<q.2)) else decide (p.1.cps.toList<q.1.cps.toList)
theorem Nj{x y:Addr}{a b:Str}{n m:Int}{t1 t2 t3 t4:Tok}{Q:Bool->Shared->Prop}(hx:IsTup s.heap x #[.str a t1,.int n t2])(hy:IsTup s.heap y #[.str b t3,.int m t4])(h:Q (cH (a,n) (b,m)) s):
  wpAny (model prog w) A (keyLt' (tuples' true) (.ref x) (.ref y)) Q E s:=by
 obtain⟨ox,ex,_,_,dx⟩:=hx;obtain⟨oy,ey,_,_,dy⟩:=hy;refine PySem.W.kat_lt ex dx ey dy ?_;show PySem.W.KatLex prog w A true _ Q [(.str a t1,.str b t3),(.int n t2,.int m t4)] 0 s;refine PySem.W.kat_cons (lO (y:=.str a) (x:=.str b) ⟨_,rfl⟩ ⟨_,rfl⟩ rfl rfl prog w _ _ ?_);unfold cH at h
 by_cases fg:a=b
 .have e1:gb (.str a) (.str b)=true:=by rw[fg];exact beq_self_eq_true b
  rw[e1];rw[ag fg]at h;refine PySem.W.kat_yes (PySem.W.kat_cons (lO (y:=.int n) (x:=.int m) ⟨_,rfl⟩ ⟨_,rfl⟩ rfl rfl prog w _ _ ?_))
  by_cases du:n=m
  .have e2:gb (.int n) (.int m)=true:=by rw[du];exact beq_self_eq_true m
   rw[e2];rw[ag du]at h;refine PySem.W.kat_yes (PySem.W.kat_nil ?_);simpa using h
  .have e2:gb (.int n) (.int m)=false:=(beq_eq_false_iff_ne.mpr du:(n==m)=false)
   rw[e2];rw[ak du]at h;exact PySem.W.kat_no (PySem.W.kat_one _ _ (lt_int h))
 .have e1:gb (.str a) (.str b)=false:=(beq_eq_false_iff_ne.mpr fg:(a==b)=false)
  rw[e1];rw[ak fg]at h;exact PySem.W.kat_no (oneLt_str h)
end L2
namespace PySem.W
noncomputable def KasT.fT{α:Type}(n:Nat)(t9:Nat->Nat->Bool):KasT α->Option α
 | .ret a=>some a
 | .ask i j k=>if i<n/\j<n then (k (t9 i j)).fT n t9 else none
theorem KasT.Kf{n:Nat}{t9:Nat->Nat->Bool}{cmp:Nat->Nat->(Bool->Shared->Prop)->Shared->Prop}{Q:α->Shared->Prop}(hc:∀i j,i<n->j<n->∀C:Bool->Shared->Prop,C (t9 i j) s->cmp i j C s):
  ∀(t:KasT α) {a:α},t.fT n t9=some a->Q a s->t.kasWp cmp Q s
 | .ret a,b,h,q=>by
  have:a=b:=cq h;subst this;exact q
 | .ask i j k,b,h,q=>by
  unfold KasT.fT at h;split at h
  .rename_i jv
   exact hc i j jv.1 jv.2 _ (KasT.Kf hc _ h q)
  .cases h
end PySem.W
namespace PyProof.Rows
open PySem
theorem ZW{vs:List Value}{P:Fin->Shared->Prop}(ho:s.heap.get? a=some (seqObj "list" vs.toArray n))(h2:vs.length<2)(h:P (.done (.ret .none)) { s with heap:=sortedHeap s.heap a vs ((pairsOf vs).map (·.2)) }) :
  wpAny (model prog w) A (Builtin.«list.sort» ⟨[.ref a],[]⟩) P E s:=by
 rw[list_sort_plain];have ha:a<s.heap.objs.size:=bh ho;refine ae (listItems_at ho rfl ?_);refine ae (listUpdate_at ho rfl ?_);obtain⟨e1,II⟩:∃e1,(s.heap.update a (Obj.mapSeq λ_=>#[])).get? a=some (seqObj "list" #[] e1):=⟨_,get?_update_seq ho (λ_=>#[])⟩
 refine ae (seqEpoch_at II rfl ?_);refine ae (wpAny_newTuple ?_);refine ae (ug ?_);refine f6 ?_;have IJ:(((s.heap.update a (Obj.mapSeq λ_=>#[])).push (seqObj "tuple" vs.toArray 0)).push (seqObj "list" #[] 0)).get? a=some (seqObj "list" #[] e1):=by
  rw[Heap.get?_push_ne _ _ _ (by rw[size_push',Heap.size_update];exact cm (mh ha)),Heap.get?_push_ne _ _ _ (by rw[Heap.size_update];exact cm ha)];exact II
 show wpAny (model prog w) A _ P E { s with heap:=((s.heap.update a (Obj.mapSeq λ_=>#[])).push (seqObj "tuple" vs.toArray 0)).push (seqObj "list" #[] 0) };dsimp only;have hsz:vs.toArray.size=vs.length:=by simp
 have zr:vs.toArray.size<2:=by rw[hsz];exact h2
 rw[ag zr,ag zr];refine ae (ai ?_);rw[StateT.run_pure];refine ae (ai ?_);dsimp only;refine ae (seqEpoch_at IJ rfl ?_);refine ae (listUpdate_at IJ rfl ?_ (hsz2:=by rw[Array.size_map];show (pairsOf vs).size<=_;rw[pairsOf_size,fq];lia));simp only[bne_self_eq_false,Bool.false_eq_true,if_false];exact ai h
end PyProof.Rows
namespace L2
open PySem PySem.Spec PyProof.Rows
theorem Ot{a b:Str}(h:a.cps.toList=b.cps.toList):a=b:=by
 obtain⟨x⟩:=a;obtain⟨y⟩:=b;have:x=y:=by simpa using congrArg List.toArray h
 rw[this]
theorem LI{a b:Str}(h:a≠b):decide (b.cps.toList<a.cps.toList)=!decide (a.cps.toList<b.cps.toList):=by
 by_cases h1:a.cps.toList<b.cps.toList
 .rw[dm h1,dn (λh2=>List.lt_irrefl _ (List.lt_trans h1 h2))];rfl
 .rw[dn h1]
  by_cases h2:b.cps.toList<a.cps.toList
  .rw[dm h2];rfl
  .exact absurd (Ot (List.le_antisymm (List.not_lt.mp h2) (List.not_lt.mp h1))) h
end L2
namespace L2
open PySem PySem.Spec PyProof.Rows
noncomputable def rY:Key->Key->Bool
 | .inl i,.inl j=>decide (i<j)
 | .inr x,.inr y=>decide (x.cps.toList<y.cps.toList)
 | .inl _,.inr _=>true
 | .inr _,.inl _=>false
noncomputable def YZ:Key->Key->Bool
 | .inl _,.inl _=>true
 | .inr _,.inr _=>true
 | _,_=>false
noncomputable def Bd(p q:Str×Key):Bool:=if p.1=q.1 then (if p.2=q.2 then false else rY p.2 q.2) else decide (p.1.cps.toList<q.1.cps.toList)
theorem d7{k:Str}{x:Key}{c:Addr}(hc:IsTupleKey (CZ prog w) h [.inr k,x] c):∃o n t u v,h.get? c=some o/\o.cls=.type "tuple"/\o.data=.seq (#[.str k t,v]:Array Value) n/\JV x v=true/\u=t:=by
 obtain⟨o,items,n,ho,dA,hd,hi⟩:=hc;obtain⟨v1,v2,e1,e2,hl⟩:∃v1 v2,JV (.inr k) v1=true/\JV x v2=true/\items.toList=[v1,v2]:=by
  generalize hq:items.toList=l at hi;cases hi with
  | cons h1 t1=>
   cases t1 with
   | cons h2 t2=>
    cases t2;exact⟨_,_,h1,h2,rfl⟩
 rcases FW e1 with ⟨i,t,q,_⟩ | ⟨y,t,q,rfl⟩
 .cases q
 .cases q
  refine⟨o,n,t,t,v2,ho,dA,?_,e2,rfl⟩;rw[hd];congr 1;apply Array.ext';rw[hl]
theorem Z0{x y:Key}{v:Value}(hT:YZ x y=true)(hu:JV x u=true)(hv:JV y v=true)(h:Q (.bool (rY x y)) s):wpAny (model prog w) A (richCompare .Lt u v) Q E s:=by
 rcases FW hu with ⟨i,t,rfl,rfl⟩ | ⟨a,t,rfl,rfl⟩
 .rcases FW hv with ⟨j,t',rfl,rfl⟩ | ⟨b,t',rfl,rfl⟩
  .exact(PyProof.Rows.lt_int h:wpAny (model prog w) A (compareOp .Lt _ _) Q E s)
  .cases hT
 .rcases FW hv with ⟨j,t',rfl,rfl⟩ | ⟨b,t',rfl,rfl⟩
  .cases hT
  .exact(PyProof.Rows.lt_str h:wpAny (model prog w) A (compareOp .Lt _ _) Q E s)
theorem lH{p q:Str×Key}{b:Addr}{P:Fin->Shared->Prop}(hT:YZ p.2 q.2=true\/p.1≠q.1)(hx:IsTupleKey (CZ prog w) s.heap [.inr p.1,p.2] a)(hy:IsTupleKey (CZ prog w) s.heap [.inr q.1,q.2] b)(h:P (.done (.ret (.bool (Bd p q)))) s):
  wpAny (model prog w) A (Builtin.«tuple.__lt__» ⟨[.ref a,.ref b],[]⟩) P E s:=by
 have Cj:=hy.typeIs;obtain⟨oa,na,ta,_,va,C4,_,Cr,zS,_⟩:=d7 hx;obtain⟨ob,nb,tb,_,vb,nT,_,jc,Aa,_⟩:=d7 hy;show wpAny _ _ (isInstance (.ref b) (.type "tuple") >>= _) _ _ s;refine ae (wpAny_isInstance Cj isSubtype_tuple_tuple ?_);simp only[Bool.not_true,Bool.false_eq_true,if_false];refine ae (wpAny_tupleItemsOf C4 Cr ?_);refine ae (wpAny_tupleItemsOf nT jc ?_);refine ae ?_;show wpAny _ _ (forIn [(Value.str p.1 ta,Value.str q.1 tb),(va,vb)] _ _) _ _ _;rw[List.forIn_cons];refine ae ?_;refine ae ((CZ prog w).eqBool (a:=.inr p.1) (b:=.inr q.1) T3 T3 ?_);unfold Bd at h
 by_cases h1:p.1=q.1
 .rw[dm (show (Sum.inr p.1:Key)=.inr q.1 by rw[h1])]
  rw[ag h1]at h;simp only[Bool.not_true,Bool.false_eq_true,if_false];refine ai ?_;show wpAny _ _ (forIn [(va,vb)] _ _) _ _ _;rw[List.forIn_cons];refine ae ?_;refine ae ((CZ prog w).eqBool (a:=p.2) (b:=q.2) zS Aa ?_)
  by_cases h2:p.2=q.2
  .rw[dm h2]
   rw[ag h2]at h;simp only[Bool.not_true,Bool.false_eq_true,if_false];refine ai ?_;show wpAny _ _ (forIn ([]:List (Value×Value)) _ _) _ _ _;rw[List.forIn_nil];refine ai (ai ?_);exact h
  .rw[dn h2]
   rw[ak h2]at h;simp only[Bool.not_false,if_true];refine ae (jy ?_);refine ae (Z0 (hT.resolve_right λz=>z h1) zS Aa ?_);exact ae (ai (ai (ai (ai h))))
 .rw[dn (show ¬(Sum.inr p.1:Key)=.inr q.1 from λe=>h1 (iw e))]
  rw[ak h1]at h;simp only[Bool.not_false,if_true];refine ae (jy ?_);refine ae (Z0 (x:=.inr p.1) (y:=.inr q.1) (u:=.str p.1 ta) (v:=.str q.1 tb) rfl (T3 (prog:=prog) (w:=w) (x:=p.1) (t:=ta)) (T3 (prog:=prog) (w:=w) (x:=q.1) (t:=tb)) ?_);exact ae (ai (ai (ai (ai h))))
noncomputable def cW(p q:FK):Bool:=if p.1=q.1 then (if p.2=q.2 then false else Bd p.2 q.2) else decide (p.1.cps.toList<q.1.cps.toList)
theorem NU{x y:FK}{b:Addr}{Q:Bool->Shared->Prop}(hu:A.units+10<cLine)(hT:YZ x.2.2 y.2.2=true\/x.2.1≠y.2.1)(hx:gk prog w s.heap x a)(hy:gk prog w s.heap y b)(h:Q (cW x y) s):
  wpAny (model prog w) A (keyLt' (tuples' true) (.ref a) (.ref b)) Q E s:=by
 obtain⟨ox,xs,n,t,c,VC,_,US,Iw,hc⟩:=hx;obtain⟨oy,ys,m,t',d,VE,_,UT,Iy,hd⟩:=hy;refine PySem.W.kat_lt VC US VE UT ?_;have z1:xs.size=2:=by rw[<-eK,Iw];rfl
 have z2:ys.size=2:=by rw[<-eK,Iy];rfl
 rw[Iw,Iy,z1,z2];show PySem.W.KatLex prog w A true _ Q [(.str x.1 t,.str y.1 t'),(.ref c,.ref d)] 0 s;refine PySem.W.kat_cons (lO (y:=.str x.1) (x:=.str y.1) ⟨_,rfl⟩ ⟨_,rfl⟩ rfl rfl prog w _ _ ?_);unfold cW at h
 by_cases fg:x.1=y.1
 .have e1:gb (.str x.1) (.str y.1)=true:=by rw[fg];exact beq_self_eq_true y.1
  rw[e1];rw[ag fg]at h;refine PySem.W.kat_yes (PySem.W.kat_cons (wpAny_eqBool_tuple (x:=fN x) (y:=fN y) (by lia) hc hd ?_))
  by_cases h2:x.2=y.2
  .have e2:fN x=fN y:=by unfold fN;rw[h2]
   rw[dm e2];rw[ag h2]at h;exact PySem.W.kat_yes (PySem.W.kat_nil h)
  .have e2:¬fN x=fN y:=λe=>by
    simp only[fN,List.cons.injEq,Sum.inr.injEq,and_true]at e;exact h2 (Prod.ext e.1 e.2)
   rw[dn e2];rw[ak h2]at h;refine PySem.W.kat_no (PySem.W.kat_one _ _ ?_);have Ii:=hc.typeIs;have Ux:=hd.typeIs;exact wpAny_richCompare_same_room (op:=.Lt) Ii Ux F.slot_tuple_lt (ir F.slot_tuple_lt Ii F.entry_tuple_lt (lH (p:=x.2) (q:=y.2) hT hc hd ⟨_,rfl,(λe=>nomatch e),h⟩) (F.args_tuple_lt_2 _ _)) (by lia)
 .have e1:gb (.str x.1) (.str y.1)=false:=(beq_eq_false_iff_ne.mpr fg:(x.1==y.1)=false)
  rw[e1];rw[ak fg]at h;exact PySem.W.kat_no (oneLt_str h)
end L2
section
set_option genInjectivity false
namespace WL
open PySem L2
inductive D where
 | au | bl (b:Bool) | int (i:Int) | str (x:Str) | tup (xs:List D) | lst (xs:List D) | aq (ks:List Key) (vs:List D) | bP (ns:List Int) | ao (i:Nat)
inductive MO where
 | lst (xs:List D) | aq (ks:List Key) (vs:List D) | fd (ks:List FK)
abbrev Mem:=List MO
abbrev DS:=List (Option D)
mutual
noncomputable def D.beq:D->D->Bool
 | .au,.au=>true
 | .bl a,.bl b=>a==b
 | .int a,.int b=>decide (a=b)
 | .str a,.str b=>decide (a=b)
 | .tup a,.tup b=>D.kb a b
 | .lst a,.lst b=>D.kb a b
 | .aq k a,.aq l b=>decide (k=l)&&D.kb a b
 | .bP a,.bP b=>decide (a=b)
 | .ao a,.ao b=>decide (a=b)
 | _,_=>false
noncomputable def D.kb:List D->List D->Bool
 | [],[]=>true
 | a::r,b::q=>D.beq a b&&D.kb r q
 | _,_=>false
end
mutual
theorem D.beq_refl:∀d:D,D.beq d d=true
 | .au=>rfl
 | .bl a=>(show (a==a)=true from beq_self_eq_true a)
 | .int a=>(show decide (a=a)=true from dm rfl)
 | .str a=>(show decide (a=a)=true from dm rfl)
 | .tup a=>D.vT a
 | .lst a=>D.vT a
 | .aq k a=>(show (decide (k=k)&&D.kb a a)=true from by rw[dm (rfl:k=k),D.vT a];rfl)
 | .bP a=>(show decide (a=a)=true from dm rfl)
 | .ao a=>(show decide (a=a)=true from dm rfl)
theorem D.vT:∀d:List D,D.kb d d=true
 | []=>rfl
 | a::r=>(show (D.beq a a&&D.kb r r)=true from by rw[D.beq_refl a,D.vT r];rfl)
end
mutual
theorem D.eq_of_beq:∀{a b:D},D.beq a b=true->a=b
 | .au,b,h=>by cases b with
  | au=>rfl
  | _=>cases (show false=true from h)
 | .bl a,b,h=>by cases b with
  | bl c=>exact congrArg D.bl (LawfulBEq.eq_of_beq (show (a==c)=true from h))
  | _=>cases (show false=true from h)
 | .int a,b,h=>by cases b with
  | int c=>exact congrArg D.int (f7 (show decide (a=c)=true from h))
  | _=>cases (show false=true from h)
 | .str a,b,h=>by cases b with
  | str c=>exact congrArg D.str (f7 (show decide (a=c)=true from h))
  | _=>cases (show false=true from h)
 | .tup a,b,h=>by cases b with
  | tup c=>exact congrArg D.tup (D.wj (show D.kb a c=true from h))
  | _=>cases (show false=true from h)
 | .lst a,b,h=>by cases b with
  | lst c=>exact congrArg D.lst (D.wj (show D.kb a c=true from h))
  | _=>cases (show false=true from h)
 | .aq k a,b,h=>by cases b with
  | aq l c=>
   have h:(decide (k=l)&&D.kb a c)=true:=h;rw[gp]at h;rw[f7 h.1,D.wj h.2]
  | _=>cases (show false=true from h)
 | .bP a,b,h=>by cases b with
  | bP c=>exact congrArg D.bP (f7 (show decide (a=c)=true from h))
  | _=>cases (show false=true from h)
 | .ao a,b,h=>by cases b with
  | ao c=>exact congrArg D.ao (f7 (show decide (a=c)=true from h))
  | _=>cases (show false=true from h)
theorem D.wj:∀{a b:List D},D.kb a b=true->a=b
 | [],b,h=>by cases b with
  | nil=>rfl
  | cons _ _=>cases (show false=true from h)
 | a::r,b,h=>by cases b with
  | nil=>cases (show false=true from h)
  | cons c q=>
   have h:(D.beq a c&&D.kb r q)=true:=h;rw[gp]at h;rw[D.eq_of_beq h.1,D.wj h.2]
end
noncomputable def D.clean:D->Bool
 | .tup xs=>cy xs
 | .lst xs=>cy xs
 | .aq _ xs=>cy xs
 | .ao _=>false
 | _=>true
where cy:List D->Bool
 | []=>true
 | a::r=>D.clean a&&cy r
inductive By where | add | sub | mul | mod
inductive rg where | eq | ne | lt | le | gt | ge | isin | is | qz
inductive B1 where
 | len | list (mu:Bool) | tuple | int | all | max | sorted (mu:Bool) | yh (mu:Bool) | D2 (mu:Bool) | dict (mu:Bool) | tf (mu:Bool) | zh (mu:Bool) | D3 (mu:Bool) | yi (mu:Bool) | AD (mu:Bool) | AM | group
inductive Tg where | nm (i:Nat) | tp (ts:List Tg)
mutual
inductive Ex where
 | var (i:Nat) | con (d:D) | bin (o:By) (a b:Ex) | cat (mu:Bool) (a b:Ex) | cmp (o:rg) (a b:Ex) | uz (t:Te) (a b:Ex)
 | tup (as:i5) | lst (mu:Bool) (as:i5) | Hu (mu:Bool) (ks:List Key) (as:i5) | ix (a b:Ex) | sF (a b:Ex) | xS (a b:Ex) | sl (a:Ex) (lo hi:Oe)
 | call (f:String) (as:i5) | b1 (b:B1) (a:Ex) | max2 (a b:Ex) | get (d k z:Ex) | pop (a:Ex) | app (l a:Ex) | ext (l a:Ex)
 | index (l a:Ex) | join (s l:Ex) | comp (mu:Bool) (k:Nat) (g:Tg) (i:Ie) (t:Te) (e:Ex) | DC (mu:Bool) (a b:Ex) | Hz | DO (a:Ex) | upd (d e:Ex)
inductive i5 where | nil | cons (a:Ex) (r:i5)
inductive Te where | val (a:Ex) | and (a b:Te) | or (a b:Te) | not (a:Te) | tt
inductive Oe where | no | pt (a:Ex)
inductive Ie where | seq (a:Ex) | kQ (a:Ex) | enum (a:Ex) | keys (a:Ex)
end
mutual
inductive Sm where
 | set (i:Nat) (a:Ex) | asg (g:Tg) (a:Ex) | put (d k v:Ex) | drop (a:Ex) | ret (a:Ex) | ite (t:Te) (a b:bg) | bo (t:Te) (b:bg) | fr (g:Tg) (i:Ie) (b:bg) | B4 (d k:Ex)
inductive bg where | nil | cons (s:Sm) (r:bg)
end
noncomputable def W9:D->Mem->Option (List D)
 | .tup xs,_=>some xs
 | .lst xs,_=>some xs
 | .bP ns,_=>some (ns.map .int)
 | .ao i,m=>match m[i]? with | some (.lst xs)=>some xs | _=>none
 | _,_=>none
noncomputable def G5:D->Mem->Option (List D)
 | .lst xs,_=>some xs
 | .bP ns,_=>some (ns.map .int)
 | .ao i,m=>match m[i]? with | some (.lst xs)=>some xs | _=>none
 | _,_=>none
noncomputable def HN:D->Mem->Option (List Key×List D)
 | .aq ks vs,_=>some (ks,vs)
 | .ao i,m=>match m[i]? with | some (.aq ks vs)=>some (ks,vs) | _=>none
 | _,_=>none
noncomputable def bw(mu:Bool)(xs:List D)(m:Mem):D×Mem:=if mu then (.ao m.length,m++[.lst xs]) else (.lst xs,m)
noncomputable def gX(mu:Bool)(ks:List Key)(vs:List D)(m:Mem):D×Mem:=if mu then (.ao m.length,m++[.aq ks vs]) else (.aq ks vs,m)
noncomputable def O5:D->Option Key
 | .int i=>some (.inl i)
 | .str x=>some (.inr x)
 | _=>none
noncomputable def HB:List Key->List D->Key->Option D
 | k::ks,v::vs,x=>if k=x then some v else HB ks vs x
 | _,_,_=>none
noncomputable def jW:List Key->List D->Key->D->List D
 | k::ks,v::vs,x,y=>(if k=x then y else v)::jW ks vs x y
 | _,_,_,_=>[]
noncomputable def putD(ks:List Key)(vs:List D)(x:Key)(y:D):List Key×List D:=if ks.any λk=>decide (k=x) then (ks,jW ks vs x y) else (ks++[x],vs++[y])
mutual
noncomputable def nX:D->Option PyData
 | .au=>some .none
 | .bl b=>some (.bool b)
 | .int i=>some (.int i)
 | .str x=>some (.str x)
 | .tup xs=>(cG xs).map .tuple
 | .lst xs=>(cG xs).map .list
 | _=>none
noncomputable def cG:List D->Option (List PyData)
 | []=>some []
 | a::r=>(nX a).bind λx=>(cG r).map (x::·)
end
noncomputable def R7(a b:D):Option Bool:=(nX a).bind λx=>(nX b).bind λy=>if x.canLay0&&y.canLay0&&decide (min x.depth y.depth<=60) then some (PyData.eqv x y) else none
noncomputable def kH:D->D->Option Bool
 | .int a,.int b=>some (decide (a=b))
 | .str a,.str b=>some (decide (a=b))
 | a,b=>R7 a b
noncomputable def D.qy:D->Bool
 | .au=>true
 | _=>false
noncomputable def D.sD(b:Bool):D->Bool
 | .bl c=>c==b
 | _=>false
noncomputable def D.flat:D->Bool
 | .int _=>true
 | .str _=>true
 | _=>false
noncomputable def inD(x:D)(xs:List D):Bool:=xs.any λy=>match x,y with
 | .int a,.int b=>decide (a=b)
 | .str a,.str b=>decide (a=b)
 | _,_=>false
noncomputable def jF:D->Mem->Option Bool
 | .au,_=>some false
 | .bl b,_=>some b
 | .int i,_=>some (i != 0)
 | .tup xs,_=>some (!xs.isEmpty)
 | .lst xs,_=>some (!xs.isEmpty)
 | .bP ns,_=>some (!ns.isEmpty)
 | .ao i,m=>match m[i]? with | some (.lst xs)=>some (!xs.isEmpty) | some (.aq ks _)=>some (!ks.isEmpty) | _=>none
 | _,_=>none
noncomputable def YK:By->D->D->Mem->Option (D×Mem)
 | .add,.int a,.int b,m=>some (.int (a+b),m)
 | .sub,.int a,.int b,m=>some (.int (a-b),m)
 | .mul,.int a,.int b,m=>if (-(2 ^ 64)<a/\a<2 ^ 64)\/(-(2 ^ 64)<b/\b<2 ^ 64) then some (.int (a*b),m) else none
 | .mod,.int a,.int b,m=>if 0<b then some (.int (a % b),m) else none
 | .add,.str a,.str b,m=>if a.length+b.length<=1000 then some (.str (a++b),m) else none
 | .add,.tup a,.tup b,m=>if a.length+b.length<=10000 then some (.tup (a++b),m) else none
 | _,_,_,_=>none
noncomputable def N5:rg->D->D->Option Bool
 | .eq,a,b=>kH a b
 | .ne,a,b=>(kH a b).map (!·)
 | .lt,.int a,.int b=>some (decide (a<b))
 | .le,.int a,.int b=>some (decide (a<=b))
 | .gt,.int a,.int b=>some (decide (b<a))
 | .ge,.int a,.int b=>some (decide (b<=a))
 | .isin,x,.tup xs=>if x.flat&&xs.all D.flat then some (inD x xs) else none
 | .isin,x,.lst xs=>if x.flat&&xs.all D.flat then some (inD x xs) else none
 | .is,x,.au=>some x.qy
 | .qz,x,.au=>some (!x.qy)
 | .is,x,.bl b=>some (x.sD b)
 | .qz,x,.bl b=>some (!x.sD b)
 | _,_,_=>none
noncomputable def jz:D->D->Mem->Option D
 | .tup xs,.int i,_=>c9 xs i
 | .lst xs,.int i,_=>c9 xs i
 | .bP ns,.int i,_=>(c9 ns i).map .int
 | .str z,.int i,_=>if z.length<=1000 then (c9 z.cps.toList i).map λc=>.str ⟨#[c]⟩ else none
 | .ao r,.int i,m=>match m[r]? with | some (.lst xs)=>c9 xs i | _=>none
 | _,_,_=>none
noncomputable def cutD(xs:List D)(lo hi:Option Int):List D:=(xs.drop (HT.bt xs.length 0 lo)).take (HT.bt xs.length xs.length hi-HT.bt xs.length 0 lo)
noncomputable def ng:D->Option Int->Option Int->Option D
 | .tup xs,lo,hi=>some (.tup (cutD xs lo hi))
 | .lst xs,lo,hi=>some (.lst (cutD xs lo hi))
 | .bP ns,lo,hi=>some (.lst (cutD (ns.map .int) lo hi))
 | .str z,lo,hi=>if z.length<=1000 then some (.str (StrLaws.sliceText z lo hi)) else none
 | _,_,_=>none
noncomputable def dW:List D->Option (List Bool)
 | []=>some []
 | .bl b::r=>(dW r).map (b::·)
 | _=>none
noncomputable def intsOf:List D->Option (List Int)
 | []=>some []
 | .int b::r=>(intsOf r).map (b::·)
 | _=>none
noncomputable def strsOf:List D->Option (List Str)
 | []=>some []
 | .str b::r=>(strsOf r).map (b::·)
 | _=>none
noncomputable def pairsOf:List D->Option (List Key×List D)
 | []=>some ([],[])
 | .tup [k,v]::r=>match O5 k,pairsOf r with
  | some k,some (ks,vs)=>some (k::ks,v::vs)
  | _,_=>none
 | _=>none
noncomputable def FT:List Key->List D->List Key->List D->List Key×List D
 | ks,vs,k::r,v::q=>FT (putD ks vs k v).1 (putD ks vs k v).2 r q
 | ks,vs,_,_=>(ks,vs)
noncomputable def rT:List Int->Option Int
 | []=>none
 | a::r=>some (r.foldl (λx y=>if y > x then y else x) a)
noncomputable def findD(x:D):List D->Nat->Option Nat
 | [],_=>none
 | y::r,i=>if inD x [y] then some i else findD x r (i+1)
noncomputable def FQ(a b:Str):Bool:=!decide (b.cps.toList<a.cps.toList)
noncomputable def CN(l:List Str):List Str:=l.mergeSort FQ
noncomputable def KQ:List D->Option (List (Str×Int))
 | []=>some []
 | .tup [.str a,.int b]::r=>(KQ r).map ((a,b)::·)
 | _=>none
noncomputable def K4(p:Str×Int):D:=.tup [.str p.1,.int p.2]
noncomputable def JH(ps:List (Str×Int)):List (Str×Int):=ps.mergeSort λp q=>FQ p.1 q.1
noncomputable def uniq:List Str->List Str
 | []=>[]
 | x::r=>if x∈r then uniq r else x::uniq r
noncomputable def dE:Key->D
 | .inl i=>.int i
 | .inr x=>.str x
noncomputable def fD(k:FK):D:=.tup [.str k.1,.tup [.str k.2.1,dE k.2.2]]
noncomputable def nI:D->Option FK
 | .tup [.str a,.tup [.str b,x]]=>(O5 x).map λk=>(a,b,k)
 | _=>none
noncomputable def XD(ks:List FK)(k:FK):List FK:=if ks.any (λx=>decide (x=k)) then ks else ks++[k]
noncomputable def PB(k:FK):Bool:=match k.2.2 with
 | .inl _=>decide (k.2.1=Str.ofString "page")
 | .inr _=>!decide (k.2.1=Str.ofString "page")
noncomputable def VJ(p q:FK):Bool:=!cW q p
noncomputable def G8(l:List FK):List FK:=l.mergeSort VJ
noncomputable def FF:List FK->List FK
 | []=>[]
 | x::r=>if r.any (λy=>decide (y=x))=true then FF r else x::FF r
noncomputable def T6:List D->Option (List FK)
 | []=>some []
 | d::r=>(nI d).bind λk=>(T6 r).map λks=>k::ks
abbrev iO:=List (Str×List (Str×Key))
noncomputable def GQ(g:iO)(k:FK):iO:=if g.any (λp=>decide (p.1=k.1))=true then g.map (λp=>if p.1=k.1 then (p.1,p.2++[k.2]) else p) else g++[(k.1,[k.2])]
noncomputable def JM(g:iO):D:=.aq (g.map λp=>.inr p.1) (g.map λp=>.lst (p.2.map λt=>.tup [.str t.1,dE t.2]))
noncomputable def de:B1->D->Mem->Option (D×Mem)
 | .len,.str z,m=>if z.length<=1000 then some (.int z.length,m) else none
 | .len,d,m=>match W9 d m,HN d m with
  | some xs,_=>some (.int xs.length,m)
  | none,some (ks,_)=>some (.int ks.length,m)
  | none,none=>none
 | .list mu,d,m=>(W9 d m).map λxs=>bw mu xs m
 | .tuple,.tup xs,m=>some (.tup xs,m)
 | .tuple,d,m=>(G5 d m).map λxs=>(.tup xs,m)
 | .int,.int i,m=>some (.int i,m)
 | .int,.bl b,m=>some (.int (if b then 1 else 0),m)
 | .all,d,m=>(G5 d m).bind λxs=>(dW xs).map λbs=>(.bl (bs.all id),m)
 | .max,d,m=>(G5 d m).bind λxs=>(intsOf xs).bind λns=>(rT ns).map λx=>(.int x,m)
 | .yh mu,d,m=>(HN d m).bind λ(ks,_)=>if ks.length<64 then (strsOf (ks.map kD)).map λss=>bw mu ((CN ss).map .str) m else none
 | .sorted mu,d,m=>(G5 d m).bind λxs=>(KQ xs).bind λps=>if xs.length<=4/\(ps.map (·.1)).Nodup then some (bw mu ((JH ps).map K4) m) else none
 | .D2 mu,.ao i,m=>match m[i]? with
  | some (.fd ks)=>if ks.length<64/\ks.all PB=true then some (bw mu ((G8 ks).map fD) m) else none
  | _=>none
 | .dict mu,.tup xs,m=>(pairsOf xs).bind λ(ks,vs)=>if ks.length<=1000 then some (gX mu (FT [] [] ks vs).1 (FT [] [] ks vs).2 m) else none
 | .tf mu,.tup xs,m=>some (bw mu xs.reverse m)
 | .zh mu,d,m=>(G5 d m).bind λxs=>(pairsOf xs).bind λ(ks,vs)=>if ks.length<=1000 then some (gX mu (FT [] [] ks vs).1 (FT [] [] ks vs).2 m) else none
 | .D3 mu,d,m=>(HN d m).bind λ(ks,vs)=>(strsOf (ks.map kD)).bind λss=>(intsOf vs).bind λns=>if ss.length<=4/\ss.Nodup then some (bw mu ((JH (ss.zip ns)).map K4) m) else none
 | .yi mu,d,m=>(G5 d m).bind λxs=>(intsOf xs).bind λns=>if ns.length<=4000/\ns.all (λn=>decide (0<=n/\n<=2))=true then some (bw mu ((([0,1,2]:List Int).filter λv=>decide (v∈ns)).map .int) m) else none
 | .AD mu,d,m=>(G5 d m).bind λxs=>(T6 xs).bind λks=>if ks.length<64/\ks.Nodup/\ks.all PB=true then some (bw mu ((G8 ks).map fD) m) else none
 | .AM,d,m=>(G5 d m).bind λxs=>if xs.length<=1000 then some (.tup xs.reverse,m) else none
 | .group,.tup xs,m=>(T6 xs).bind λks=>if ks.length<=1000 then some (JM (ks.foldl GQ []),m) else none
 | _,_,_=>none
where kD:Key->D
 | .inl i=>.int i
 | .inr x=>.str x
mutual
noncomputable def JQ:Tg->D->DS->Option DS
 | .nm i,d,σ=>some (σ.set i (some d))
 | .tp ts,.tup xs,σ=>if ts.length=xs.length then PK ts xs σ else none
 | _,_,_=>none
noncomputable def PK:List Tg->List D->DS->Option DS
 | [],[],σ=>some σ
 | t::ts,x::xs,σ=>(JQ t x σ).bind λ σ'=>PK ts xs σ'
 | _,_,_=>none
end
noncomputable def lL(n:Nat):Tg->Bool
 | .nm i=>decide (n<=i)
 | .tp ts=>DM n ts
where DM (n:Nat):List Tg->Bool
 | []=>true
 | t::r=>lL n t&&DM n r
structure Walk where
 xs:List D
 Ti:Option Nat:=none
noncomputable def Walk.ok(w:Walk)(m:Mem):Bool:=match w.Ti with
 | none=>true
 | some i=>match m[i]? with | some (.lst ys)=>D.kb w.xs ys | _=>false
noncomputable def ZR:List D->List D->List D
 | a::r,b::q=>.tup [a,b]::ZR r q
 | _,_=>[]
noncomputable def V6:List D->Nat->List D
 | [],_=>[]
 | a::r,n=>.tup [.int n,a]::V6 r (n+1)
noncomputable def T9(w:Walk)(f:D->Mem->Option (Option D×Mem)):List D->Mem->Option (List D×Mem)
 | [],m=>if w.ok m then some ([],m) else none
 | d::r,m=>if w.ok m then (f d m).bind λ(o,m1)=>(T9 w f r m1).bind λ(ys,m2)=>some (o.toList++ys,m2) else none
section
variable(C:String->List D->Mem->Option (D×Mem))
mutual
noncomputable def ev:Ex->DS->Mem->Option (D×Mem)
 | .var i,σ,m=>match σ[i]? with | some (some d)=>some (d,m) | _=>none
 | .con d,_,m=>some (d,m)
 | .bin o a b,σ,m=>(ev a σ m).bind λ(x,m1)=>(ev b σ m1).bind λ(y,m2)=>YK o x y m2
 | .cat mu a b,σ,m=>(ev a σ m).bind λ(x,m1)=>(ev b σ m1).bind λ(y,m2)=>match x,y with
  | .lst xs,.lst ys=>if xs.length+ys.length<=10000 then some (bw mu (xs++ys) m2) else none
  | _,_=>none
 | .cmp o a b,σ,m=>(ev a σ m).bind λ(x,m1)=>(ev b σ m1).bind λ(y,m2)=>(N5 o x y).map λc=>(.bl c,m2)
 | .uz t a b,σ,m=>(et t σ m).bind λ(c,m1)=>if c then ev a σ m1 else ev b σ m1
 | .tup as,σ,m=>(gn as σ m).bind λ(xs,m1)=>if xs.length<=1000 then some (.tup xs,m1) else none
 | .lst mu as,σ,m=>(gn as σ m).bind λ(xs,m1)=>if xs.length<=1000 then some (bw mu xs m1) else none
 | .Hu mu ks as,σ,m=>(gn as σ m).bind λ(xs,m1)=>if xs.length=ks.length/\ks.length<=15 then some (gX mu (FT [] [] ks xs).1 (FT [] [] ks xs).2 m1) else none
 | .ix a b,σ,m=>(ev a σ m).bind λ(x,m1)=>(ev b σ m1).bind λ(y,m2)=>(jz x y m2).map λd=>(d,m2)
 | .sF a b,σ,m=>(ev a σ m).bind λ(x,m1)=>(ev b σ m1).bind λ(y,m2)=>(HN x m2).bind λ(ks,vs)=>(O5 y).bind λk=>(HB ks vs k).map λd=>(d,m2)
 | .xS a b,σ,m=>(ev a σ m).bind λ(x,m1)=>(ev b σ m1).bind λ(y,m2)=>(HN y m2).bind λ(ks,vs)=>(O5 x).map λk=>(.bl (!(HB ks vs k).isSome),m2)
 | .sl a lo hi,σ,m=>(ev a σ m).bind λ(x,m1)=>(eo lo σ m1).bind λ(l,m2)=>(eo hi σ m2).bind λ(h,m3)=>(ng x l h).map λd=>(d,m3)
 | .call f as,σ,m=>(gn as σ m).bind λ(xs,m1)=>C f xs m1
 | .b1 b a,σ,m=>(ev a σ m).bind λ(x,m1)=>de b x m1
 | .max2 a b,σ,m=>(ev a σ m).bind λ(x,m1)=>(ev b σ m1).bind λ(y,m2)=>match x,y with | .int i,.int j=>some (.int (if j > i then j else i),m2) | _,_=>none
 | .get d k z,σ,m=>(ev d σ m).bind λ(x,m1)=>(HN x m1).bind λ_=>(ev k σ m1).bind λ(y,m2)=>(ev z σ m2).bind λ(u,m3)=>(HN x m3).bind λ(ks,vs)=>(O5 y).map λk=>((HB ks vs k).getD u,m3)
 | .pop a,σ,m=>(ev a σ m).bind λ(x,m1)=>match x with
  | .ao i=>match m1[i]? with
   | some (.lst xs)=>(xs[xs.length-1]?).map λd=>(d,m1.set i (.lst xs.dropLast))
   | _=>none
  | _=>none
 | .app l a,σ,m=>(ev l σ m).bind λ(x,m1)=>(G5 x m1).bind λ_=>(ev a σ m1).bind λ(y,m2)=>match x with
  | .ao i=>match m2[i]? with
   | some (.lst xs)=>if y.clean&&decide (xs.length<100000) then some (.au,m2.set i (.lst (xs++[y]))) else none
   | _=>none
  | _=>none
 | .ext l a,σ,m=>(ev l σ m).bind λ(x,m1)=>(G5 x m1).bind λ_=>(ev a σ m1).bind λ(y,m2)=>match x with
  | .ao i=>match m2[i]?,y with
   | some (.lst xs),.lst ys=>if D.clean.cy ys&&decide (xs.length+ys.length<=100000) then some (.au,m2.set i (.lst (xs++ys))) else none
   | some (.lst xs),.tup ys=>if D.clean.cy ys&&decide (xs.length+ys.length<=100000) then some (.au,m2.set i (.lst (xs++ys))) else none
   | _,_=>none
  | _=>none
 | .index l a,σ,m=>(ev l σ m).bind λ(x,m1)=>(G5 x m1).bind λ_=>(ev a σ m1).bind λ(y,m2)=>(G5 x m2).bind λxs=>if y.flat&&xs.all D.flat&&decide (xs.length<1000) then (findD y xs 0).map λ(k:Nat)=>(D.int (k:Int),m2) else none
 | .join s l,σ,m=>(ev s σ m).bind λ(x,m1)=>(ev l σ m1).bind λ(y,m2)=>match x with
  | .str sep=>(G5 y m2).bind λxs=>(strsOf xs).bind λys=>if (ys.map (·.length)).sum+ys.length*sep.length<=100000 then some (.str (Txt.join sep ys),m2) else none
  | _=>none
 | .comp mu k g i t e,σ,m=>if lL σ.length g then (ei i σ m).bind λ(w,m1)=>(T9 w (λd m=>(JQ g d (σ++List.replicate k none)).bind λ σ1=>(et t σ1 m).bind λ(c,m2)=>if c then (ev e σ1 m2).map λ(y,m3)=>(some y,m3) else some (none,m2)) w.xs m1).bind λ(ys,m2)=>
   if ys.length<=1000 then some (bw mu ys m2) else none
  else none
 | .DC mu a b,σ,m=>(ev a σ m).bind λ(x,m1)=>(ev b σ m1).bind λ(y,m2)=>match x,y with
  | .lst xs,.lst ys=>if xs.length<=1000 then some (bw mu (ZR xs ys) m2) else none
  | _,_=>none
 | .Hz,_,m=>some (.ao m.length,m++[.fd []])
 | .DO a,σ,m=>(ev a σ m).bind λ(x,m1)=>match x with
  | .ao i=>match m1[i]? with
   | some (.lst (d::r))=>some (d,m1.set i (.lst r))
   | _=>none
  | _=>none
 | .upd d e,σ,m=>(ev d σ m).bind λ(x,m1)=>(HN x m1).bind λ_=>(ev e σ m1).bind λ(y,m2)=>match x,y with
  | .ao i,.aq ks vs=>match m2[i]? with
   | some (.aq iE iN)=>if D.clean.cy vs&&decide (iE.length+ks.length<=1000) then some (.au,m2.set i (.aq (FT iE iN ks vs).1 (FT iE iN ks vs).2)) else none
   | _=>none
  | _,_=>none
noncomputable def gn:i5->DS->Mem->Option (List D×Mem)
 | .nil,_,m=>some ([],m)
 | .cons a r,σ,m=>(ev a σ m).bind λ(x,m1)=>(gn r σ m1).map λ(xs,m2)=>(x::xs,m2)
noncomputable def et:Te->DS->Mem->Option (Bool×Mem)
 | .val a,σ,m=>(ev a σ m).bind λ(x,m1)=>(jF x m1).map λc=>(c,m1)
 | .and a b,σ,m=>(et a σ m).bind λ(c,m1)=>if c then et b σ m1 else some (false,m1)
 | .or a b,σ,m=>(et a σ m).bind λ(c,m1)=>if c then some (true,m1) else et b σ m1
 | .not a,σ,m=>(et a σ m).map λ(c,m1)=>(!c,m1)
 | .tt,_,m=>some (true,m)
noncomputable def eo:Oe->DS->Mem->Option (Option Int×Mem)
 | .no,_,m=>some (none,m)
 | .pt a,σ,m=>(ev a σ m).bind λ(x,m1)=>match x with | .int i=>some (some i,m1) | _=>none
noncomputable def ei:Ie->DS->Mem->Option (Walk×Mem)
 | .seq a,σ,m=>(ev a σ m).bind λ(x,m1)=>(W9 x m1).map λxs=>(⟨xs,match x with | .ao i=>some i | _=>none⟩,m1)
 | .kQ a,σ,m=>(ev a σ m).bind λ(x,m1)=>match x with | .int j=>if -(2 ^ 62)<=j/\j<2 ^ 62 then some (⟨(List.range j.toNat).map λ(i:Nat)=>.int i,none⟩,m1) else none | _=>none
 | .enum a,σ,m=>(ev a σ m).bind λ(x,m1)=>match x with | .lst xs=>some (⟨V6 xs 0,none⟩,m1) | _=>none
 | .keys a,σ,m=>(ev a σ m).bind λ(x,m1)=>match x with | .aq ks _=>some (⟨ks.map dE,none⟩,m1) | _=>none
end
inductive Out where | nx (σ:DS) | rt (d:D)
noncomputable def N8(t:DS->Mem->Option (Bool×Mem))(b:DS->Mem->Option (Out×Mem)):Nat->DS->Mem->Option (Out×Mem)
 | 0,_,_=>none
 | n+1,σ,m=>(t σ m).bind λ(c,m1)=>if c then (b σ m1).bind λ(o,m2)=>match o with
  | .nx σ'=>N8 t b n σ' m2
  | .rt d=>some (.rt d,m2)
  else some (.nx σ,m1)
noncomputable def forL(w:Walk)(g:Tg)(b:DS->Mem->Option (Out×Mem)):List D->DS->Mem->Option (Out×Mem)
 | [],σ,m=>if w.ok m then some (.nx σ,m) else none
 | d::r,σ,m=>if w.ok m then (JQ g d σ).bind λ σ1=>(b σ1 m).bind λ(o,m1)=>match o with
  | .nx σ'=>forL w g b r σ' m1
  | .rt x=>some (.rt x,m1)
  else none
variable(W:Nat)
mutual
noncomputable def ex:Sm->DS->Mem->Option (Out×Mem)
 | .set i a,σ,m=>(ev C a σ m).map λ(x,m1)=>(.nx (σ.set i (some x)),m1)
 | .asg g a,σ,m=>(ev C a σ m).bind λ(x,m1)=>(JQ g x σ).map λ σ'=>(.nx σ',m1)
 | .put d k v,σ,m=>(ev C v σ m).bind λ(z,m1)=>(ev C d σ m1).bind λ(x,m2)=>(ev C k σ m2).bind λ(y,m3)=>match x with
  | .ao i=>match m3[i]?,O5 y with
   | some (.aq ks vs),some k=>if z.clean&&decide (ks.length<10000) then some (.nx σ,m3.set i (.aq (putD ks vs k z).1 (putD ks vs k z).2)) else none
   | _,_=>none
  | _=>none
 | .drop a,σ,m=>(ev C a σ m).map λ(_,m1)=>(.nx σ,m1)
 | .ret a,σ,m=>(ev C a σ m).map λ(x,m1)=>(.rt x,m1)
 | .ite t a b,σ,m=>(et C t σ m).bind λ(c,m1)=>if c then aI a σ m1 else aI b σ m1
 | .bo t b,σ,m=>N8 (et C t) (λ σ m=>aI b σ m) W σ m
 | .fr g i b,σ,m=>(ei C i σ m).bind λ(w,m1)=>forL w g (λ σ m=>aI b σ m) w.xs σ m1
 | .B4 d k,σ,m=>(ev C d σ m).bind λ(x,m1)=>(ev C k σ m1).bind λ(y,m2)=>match x with
  | .ao i=>match m2[i]?,nI y with
   | some (.fd ks),some k=>if ks.length<10000 then some (.nx σ,m2.set i (.fd (XD ks k))) else none
   | _,_=>none
  | _=>none
noncomputable def aI:bg->DS->Mem->Option (Out×Mem)
 | .nil,σ,m=>some (.nx σ,m)
 | .cons s r,σ,m=>(ex s σ m).bind λ(o,m1)=>match o with
  | .nx σ'=>aI r σ' m1
  | .rt d=>some (.rt d,m1)
end
end
noncomputable def outD(n:Nat)(m:Mem):D->Option D
 | .ao i=>if i<n then none else match m[i]? with
  | some (.lst xs)=>if D.clean.cy xs then some (.lst xs) else none
  | some (.aq ks vs)=>if D.clean.cy vs then some (.aq ks vs) else none
  | _=>none
 | d=>if d.clean then some d else none
structure Fn where
 ps:Nat
 ns:Nat
 body:bg
noncomputable def CG(W:Nat)(ab:String->Option Fn):Nat->String->List D->Mem->Option (D×Mem)
 | 0,_,_,_=>none
 | n+1,f,xs,m=>(ab f).bind λF=>if xs.length=F.ps then
   (aI (CG W ab n) W F.body (xs.map some++List.replicate (F.ns-F.ps) none) m).bind λ(o,m1)=>match o with
    | .rt d=>(outD m.length m1 d).map λd=>(d,m1.take m.length)
    | .nx _=>some (.au,m1.take m.length)
   else none
end WL
end
variable{C:String->List WL.D->WL.Mem->Option (WL.D×WL.Mem)}{d:WL.D}{ds:List WL.D}{g:WL.Tg}{ip:WL.Ie}{m:WL.Mem}{pa pb pc:WL.Ex}{ab:String->Option WL.Fn}
namespace WL
open PySem PySem.Spec PyProof.Rows L2
def ma(K:p4)(H:Hp)(a:Addr)(vs:List V):Prop:=∃o:Obj,o.cls=.type "tuple"/\o.dict=none/\
 (H a=some (.bq o (.tup vs))\/(K.lookup a=some o/\∃(its:Array Value) (n:Nat),o.data=.seq its n/\its.size<=sizeLine/\Vals vs its.toList))
def qa(K:p4)(H:Hp)(a:Addr)(vs:List V):Prop:=(∃o,H a=some (.bq o (.lst vs)))\/
  ∃(o:Obj) (its:Array Value) (n:Nat),K.lookup a=some o/\o.cls=.type "list"/\o.dict=none/\o.data=.seq its n/\its.size<=sizeLine/\Vals vs its.toList
theorem ma.sq(h:ma K H a vs):dS K H a vs:=by
 obtain⟨o,hc,hd,h | ⟨hk,its,n,e,z,r⟩⟩:=h
 .exact .inl (.inr ⟨o,h⟩)
 .exact .inr ⟨o,its,n,hk,hc,e,z,r⟩
theorem qa.sq(h:qa K H a vs):b9 K H a vs:=by
 rcases h with ⟨o,h⟩ | h
 .exact .inl (.inr ⟨o,h⟩)
 .exact .inr h
mutual
def At(K:p4)(ρ:List Addr)(H:Hp):D->V->Prop
 | .au,v=>v=.au
 | .bl b,v=>v=.bl b
 | .int i,v=>v=.int i
 | .str x,v=>v=.str x
 | .tup xs,v=>∃a vs,v=.ref a/\ma K H a vs/\a7 K ρ H xs vs
 | .lst xs,v=>∃a o vs,v=.ref a/\H a=some (.bq o (.lst vs))/\a7 K ρ H xs vs
 | .aq ks xs,v=>∃a o kvs,v=.ref a/\H a=some (.bq o (.dK kvs))/\kvs.map (·.1)=ks/\a7 K ρ H xs (kvs.map (·.2))
 | .bP ns,v=>∃a,v=.ref a/\qa K H a (ns.map V.int)
 | .ao i,v=>∃a,ρ[i]?=some a/\v=.ref a
def a7(K:p4)(ρ:List Addr)(H:Hp):List D->List V->Prop
 | [],vs=>vs=[]
 | d::r,vs=>∃v vr,vs=v::vr/\At K ρ H d v/\a7 K ρ H r vr
end
def J6(H aa:Hp):Prop:=∀a o u,H a=some (.bq o u)->aa a=some (.bq o u)
def i8(ρ ρ':List Addr):Prop:=∀(i:Nat) (a:Addr),ρ[i]?=some a->ρ'[i]?=some a
theorem i8.refl(ρ:List Addr):i8 ρ ρ:=λ_ _ h=>h
theorem i8.pre(h:ρ <+: ρ'):i8 ρ ρ':=λi a e=>by
 obtain⟨t,rfl⟩:=h;have hi:=(List.getElem?_eq_some_iff.mp e).1;rw[kh hi];exact e
theorem i8.take(ρ:List Addr)(n:Nat):i8 (ρ.take n) ρ:=i8.pre (List.take_prefix n ρ)
theorem ma.mono(hf:J6 H aa):ma K H a vs->ma K aa a vs
 | ⟨o,c,d,.inl h⟩=>⟨o,c,d,.inl (hf _ _ _ h)⟩
 | ⟨o,c,d,.inr h⟩=>⟨o,c,d,.inr h⟩
theorem qa.mono(hf:J6 H aa):qa K H a vs->qa K aa a vs
 | .inl bf=>by
  obtain⟨o,h⟩:=bf;exact .inl ⟨o,hf _ _ _ h⟩
 | .inr h=>.inr h
mutual
theorem At.dq(hf:J6 H aa)(hr:i8 ρ ρ'):∀{d:D} {v:V},At K ρ H d v->At K ρ' aa d v
 | .au,_,h=>h
 | .bl _,_,h=>h
 | .int _,_,h=>h
 | .str _,_,h=>h
 | .tup _,_,bf=>by
  obtain⟨a,vs,e,h,q⟩:=bf;exact⟨a,vs,e,h.mono hf,a7.dq hf hr q⟩
 | .lst _,_,bf=>by
  obtain⟨a,o,vs,e,h,q⟩:=bf;exact⟨a,o,vs,e,hf _ _ _ h,a7.dq hf hr q⟩
 | .aq _ _,_,bf=>by
  obtain⟨a,o,kvs,e,h,k,q⟩:=bf;exact⟨a,o,kvs,e,hf _ _ _ h,k,a7.dq hf hr q⟩
 | .bP _,_,bf=>by
  obtain⟨a,e,h⟩:=bf;exact⟨a,e,h.mono hf⟩
 | .ao _,_,bf=>by
  obtain⟨a,h,e⟩:=bf;exact⟨a,hr _ _ h,e⟩
theorem a7.dq(hf:J6 H aa)(hr:i8 ρ ρ'):∀{d:List D} {v:List V},a7 K ρ H d v->a7 K ρ' aa d v
 | [],_,h=>h
 | _::_,_,bf=>by
  obtain⟨a,b,e,p,q⟩:=bf;exact⟨a,b,e,At.dq hf hr p,a7.dq hf hr q⟩
end
mutual
theorem At.clean(hf:J6 H aa):∀{d:D} {v:V},d.clean=true->At K ρ H d v->At K ρ' aa d v
 | .au,_,_,h=>h
 | .bl _,_,_,h=>h
 | .int _,_,_,h=>h
 | .str _,_,_,h=>h
 | .tup _,_,c,bf=>by
  obtain⟨a,vs,e,h,q⟩:=bf;exact⟨a,vs,e,h.mono hf,a7.clean hf c q⟩
 | .lst _,_,c,bf=>by
  obtain⟨a,o,vs,e,h,q⟩:=bf;exact⟨a,o,vs,e,hf _ _ _ h,a7.clean hf c q⟩
 | .aq _ _,_,c,bf=>by
  obtain⟨a,o,kvs,e,h,k,q⟩:=bf;exact⟨a,o,kvs,e,hf _ _ _ h,k,a7.clean hf c q⟩
 | .bP _,_,_,bf=>by
  obtain⟨a,e,h⟩:=bf;exact⟨a,e,h.mono hf⟩
 | .ao _,_,c,_=>nomatch c
theorem a7.clean(hf:J6 H aa):∀{d:List D} {v:List V},D.clean.cy d=true->a7 K ρ H d v->a7 K ρ' aa d v
 | [],_,_,h=>h
 | _::_,_,c,bf=>by
  obtain⟨a,b,e,p,q⟩:=bf;have df:=Bool.and_eq_true_iff.mp c;exact⟨a,b,e,At.clean hf df.1 p,a7.clean hf df.2 q⟩
end
theorem a7.len:∀{ds:List D} {vs:List V},a7 K ρ H ds vs->vs.length=ds.length
 | [],_,h=>by cases (show _=[] from h);rfl
 | _::_,_,⟨_,_,e,_,q⟩=>by subst e;simp[a7.len q]
theorem a7.get:∀{ds:List D} {vs:List V} {i:Nat} {d:D},a7 K ρ H ds vs->ds[i]?=some d->∃v,vs[i]?=some v/\At K ρ H d v
 | [],_,_,_,_,e=>by simp at e
 | _::_,_,0,_,bf,aE=>by
  obtain⟨v,_,e,p,_⟩:=bf;subst e;have:=cq (by simpa using aE);subst this;exact⟨v,rfl,p⟩
 | _::_,_,i+1,_,bf,aE=>by
  obtain⟨v,_,e,p,q⟩:=bf;subst e;obtain⟨w,h1,h2⟩:=a7.get (i:=i) q (by simpa using aE);exact⟨w,by simpa using h1,h2⟩
theorem a7.app:∀{as bs:List D} {vs us:List V},a7 K ρ H as vs->a7 K ρ H bs us->a7 K ρ H (as++bs) (vs++us)
 | [],_,_,_,h,h'=>by cases (show _=[] from h);exact h'
 | _::_,_,_,_,⟨v,r,e,p,q⟩,h'=>by subst e;exact⟨v,r++_,rfl,p,a7.app q h'⟩
theorem a7.one(h:At K ρ H d v):a7 K ρ H [d] [v]:=⟨v,[],rfl,h,rfl⟩
theorem a7.snoc(h:a7 K ρ H ds vs)(h':At K ρ H d v):a7 K ρ H (ds++[d]) (vs++[v]):=h.app (.one h')
theorem a7.take:∀{ds:List D} {vs:List V} (n:Nat),a7 K ρ H ds vs->a7 K ρ H (ds.take n) (vs.take n)
 | [],_,n,h=>by cases (show _=[] from h);simp[a7]
 | _::_,_,0,_=>rfl
 | _::_,_,n+1,⟨v,r,e,p,q⟩=>by subst e;exact⟨v,r.take n,rfl,p,a7.take n q⟩
theorem a7.drop:∀{ds:List D} {vs:List V} (n:Nat),a7 K ρ H ds vs->a7 K ρ H (ds.drop n) (vs.drop n)
 | [],_,n,h=>by cases (show _=[] from h);simp[a7]
 | _::_,_,0,h=>h
 | _::_,_,n+1,⟨v,r,e,p,q⟩=>by subst e;exact a7.drop n q
theorem a7.rev:∀{ds:List D} {vs:List V},a7 K ρ H ds vs->a7 K ρ H ds.reverse vs.reverse
 | [],_,h=>by cases (show _=[] from h);rfl
 | _::_,_,bf=>by
  obtain⟨v,r,e,p,q⟩:=bf;subst e;rw[List.reverse_cons,List.reverse_cons];exact(a7.rev q).snoc p
theorem a7.ints:∀(ns:List Int),a7 K ρ H (ns.map D.int) (ns.map V.int)
 | []=>rfl
 | n::r=>⟨_,_,rfl,rfl,a7.ints r⟩
def ni(K:p4)(ρ:List Addr)(H:Hp)(a:Addr):MO->Prop
 | .lst xs=>∃vs,H a=some (.lst vs)/\a7 K ρ H xs vs
 | .aq ks xs=>∃kvs,H a=some (.dK kvs)/\kvs.map (·.1)=ks/\a7 K ρ H xs (kvs.map (·.2))
 | .fd ks=>∃xs:List (FK×Addr),H a=some (.dF xs)/\xs.map (·.1)=ks/\∀x∈xs,At K ρ H (fD x.1) (.ref x.2)
structure bp(K:p4)(ρ:List Addr)(m:Mem)(H:Hp):Prop where
 len:ρ.length=m.length
 nd:ρ.Nodup
 at':∀(j:Nat) (a:Addr) (o:MO),ρ[j]?=some a->m[j]?=some o->ni K (ρ.take j) H a o
structure Go(ρ ρ':List Addr)(H aa:Hp):Prop where
 fr:∀b o,H b=some o->b∉ρ->aa b=some o
 ex:ρ <+: ρ'
 nw:∀b∈ρ',b∈ρ\/H b=none
def eQ(K:p4)(ρ:List Addr)(H:Hp)(aj:DS)(σ:L2.St):Prop:=aj.length=σ.length/\∀(i:Nat) (d:D),aj[i]?=some (some d)->∃v,σ[i]?=some (some v)/\At K ρ H d v
section
variable{az c8:List Addr}{H1 H2:Hp}{af:Mem}
theorem ni.mono(hf:J6 H aa)(hr:i8 ρ ρ'):∀{o:MO},ni K ρ H a o->aa a=H a->ni K ρ' aa a o
 | .lst _,bf,h=>by
  obtain⟨vs,e,q⟩:=bf;exact⟨vs,h.trans e,q.dq hf hr⟩
 | .aq _ _,bf,h=>by
  obtain⟨kvs,e,k,q⟩:=bf;exact⟨kvs,h.trans e,k,q.dq hf hr⟩
 | .fd _,bf,h=>by
  obtain⟨xs,e,k,q⟩:=bf;exact⟨xs,h.trans e,k,λx hx=>(q x hx).dq hf hr⟩
theorem ni.ne:∀{o:MO},ni K ρ H a o->∃u,H a=some u/\∀ob w,u≠.bq ob w
 | .lst _,⟨vs,e,_⟩=>⟨_,e,λ_ _ z=>nomatch z⟩
 | .aq _ _,⟨vs,e,_⟩=>⟨_,e,λ_ _ z=>nomatch z⟩
 | .fd _,⟨vs,e,_⟩=>⟨_,e,λ_ _ z=>nomatch z⟩
theorem bp.obj(M:bp K ρ m H)(h:a∈ρ):∃j o,ρ[j]?=some a/\m[j]?=some o/\ni K (ρ.take j) H a o:=by
 obtain⟨j,hj,e⟩:=nz h;have e1:ρ[j]?=some a:=by rw[fo hj,e]
 have hm:j<m.length:=by rw[<-M.len];exact hj
 exact⟨j,m[j],e1,fo hm,M.at' j a _ e1 (fo hm)⟩
theorem bp.there(M:bp K ρ m H)(h:a∈ρ):∃u,H a=some u/\∀ob w,u≠.bq ob w:=by
 obtain⟨j,o,_,_,q⟩:=M.obj h;exact q.ne
theorem bp.Xq(M:bp K ρ m H){o:Obj}{u:HO}(h:H a=some (.bq o u)):a∉ρ:=λq=>by
 obtain⟨w,e,n⟩:=M.there q;rw[h]at e;exact n o u (cq e).symm
theorem bp.fresh(M:bp K ρ m H)(h:H a=none):a∉ρ:=λq=>by
 obtain⟨w,e,n⟩:=M.there q;rw[h]at e;cases e
theorem Go.fz(M:bp K ρ m H)(g:Go ρ ρ' H aa):J6 H aa:=λa o u h=>g.fr a _ h (M.Xq h)
theorem Go.refl(ρ:List Addr)(H:Hp):Go ρ ρ H H:=⟨λ_ _ h _=>h,List.prefix_rfl,λ_ h=>.inl h⟩
theorem Go.trans(a:Go ρ az H H1)(b:Go az c8 H1 H2):Go ρ c8 H H2 where
 fr:=λc o h n=>b.fr c o (a.fr c o h n) λz=>(a.nw c z).elim n λq=>by rw[h]at q;cases q
 ex:=a.ex.trans b.ex
 nw:=λc h=>by
  rcases b.nw c h with z | z
  .exact a.nw c z
  .by_cases hc:c∈ρ
   .exact .inl hc
   .cases q:H c with
    | none=>exact .inr rfl
    | some o=>rw[a.fr c o q hc]at z;cases z
theorem At.mono(M:bp K ρ m H)(g:Go ρ ρ' H aa)(h:At K ρ H d v):At K ρ' aa d v:=h.dq (g.fz M) (.pre g.ex)
theorem a7.mono(M:bp K ρ m H)(g:Go ρ ρ' H aa){d:List D}(h:a7 K ρ H d v):a7 K ρ' aa d v:=h.dq (g.fz M) (.pre g.ex)
theorem eQ.dq(hf:J6 H aa)(hr:i8 ρ ρ')(h:eQ K ρ H aj σ):eQ K ρ' aa aj σ:=⟨h.1,λi d e=>let ⟨v,aE,a⟩:=h.2 i d e;⟨v,aE,a.dq hf hr⟩⟩
theorem eQ.mono(M:bp K ρ m H)(g:Go ρ ρ' H aa)(h:eQ K ρ H aj σ):eQ K ρ' aa aj σ:=h.dq (g.fz M) (.pre g.ex)
theorem eQ.set(h:eQ K ρ H aj σ)(i:Nat)(a:At K ρ H d v):eQ K ρ H (aj.set i (some d)) (σ.set i (some v)):=by
 refine⟨by simpa using h.1,λj e q=>?_⟩
 by_cases hj:i=j
 .subst hj
  have hi:i<aj.length:=by
   have:=(List.getElem?_eq_some_iff.mp q).1;simpa using this
  rw[List.getElem?_set_self hi]at q;have cg:d=e:=cq (cq q);subst cg;exact⟨v,List.getElem?_set_self (by rw[<-h.1];exact hi),a⟩
 .rw[List.getElem?_set_ne hj]at q
  obtain⟨w,e1,a1⟩:=h.2 j e q;exact⟨w,by rw[List.getElem?_set_ne hj];exact e1,a1⟩
theorem qX{p:Addr}{o:HO}(hp:H p=none):J6 H (upd H p o):=λa ob u h=>by rw[CK (G4 h hp)];exact h
theorem QD{p:Addr}{o:HO}(hp:H p=none):Go ρ ρ H (upd H p o):=⟨λb ob h _=>by rw[CK (G4 h hp)];exact h,List.prefix_rfl,λ_ h=>.inl h⟩
theorem bp.keep(M:bp K ρ m H)(hf:J6 H aa)(h:∀a∈ρ,aa a=H a):bp K ρ m aa:=
 ⟨M.len,M.nd,λj a o e1 e2=>(M.at' j a o e1 e2).mono hf (.refl _) (h a (jg e1))⟩
theorem bp.new(M:bp K ρ m H){p:Addr}{o:HO}(hp:H p=none):bp K ρ m (upd H p o):=
 M.keep (qX hp) λa ha=>CK λe=>M.fresh hp (e▸ha)
theorem bp.push(M:bp K ρ m H){p:Addr}{o:HO}{q:MO}(hp:H p=none)(h:ni K ρ (upd H p o) p q):bp K (ρ++[p]) (m++[q]) (upd H p o):=by
 have hn:p∉ρ:=M.fresh hp;refine⟨by simp[M.len],List.nodup_append.mpr ⟨M.nd,by simp,λa ha b hb=>?_⟩,λj a u e1 e2=>?_⟩
 .have:b=p:=by simpa using hb
  subst this;exact λz=>hn (z▸ha)
 .by_cases hj:j<ρ.length
  .rw[kh hj]at e1
   rw[kh (by rw[<-M.len];exact hj)]at e2;rw[List.take_append_of_le_length (ml hj)];exact(M.at' j a u e1 e2).mono (qX hp) (.refl _) (CK λe=>hn (e▸jg e1))
  .have sm:j=ρ.length:=by
    have:=(List.getElem?_eq_some_iff.mp e1).1;simp at this;lia
   subst sm;have BO:p=a:=by simpa using e1
   rw[M.len]at e2;have BQ:q=u:=by simpa using e2
   subst BO BQ;rw[List.take_append_of_le_length (a0 _),List.take_length];exact h
theorem lF(M:bp K ρ m H){p:Addr}{o:HO}(hp:H p=none):Go ρ (ρ++[p]) H (upd H p o):=⟨λb ob h _=>by rw[CK (G4 h hp)];exact h,List.prefix_append _ _,λb h=>by
 rcases cz h with h | h
 .exact .inl h
 .have:b=p:=by simpa using h
  subst this;exact .inr hp⟩
theorem bp.write(M:bp K ρ m H){o:HO}{q:MO}(ha:ρ[j]?=some a)(h:ni K (ρ.take j) (upd H a o) a q):bp K ρ (m.set j q) (upd H a o)/\Go ρ ρ H (upd H a o):=by
 have hm:a∈ρ:=jg ha;obtain⟨u,hu,nf⟩:=M.there hm;have hf:J6 H (upd H a o):=λb ob w e=>by
  rw[CK]
  .exact e
  .rintro rfl;rw[hu]at e;exact nf ob w (cq e)
 have hj:j<ρ.length:=(List.getElem?_eq_some_iff.mp ha).1;refine⟨⟨by simpa using M.len,M.nd,λi b w e1 e2=>?_⟩,λb ob e n=>by rw[CK λz=>n (by rw[z];exact hm)];exact e,List.prefix_rfl,λ_ h=>.inl h⟩
 by_cases hi:j=i
 .subst hi
  rw[List.getElem?_set_self (by rw[<-M.len];exact hj)]at e2;rw[ha]at e1;cases e1;cases e2;exact h
 .rw[List.getElem?_set_ne hi]at e2
  refine(M.at' i b w e1 e2).mono hf (.refl _) (CK ?_);rintro rfl;obtain⟨h1,e3⟩:=List.getElem?_eq_some_iff.mp ha;obtain⟨h2,e4⟩:=List.getElem?_eq_some_iff.mp e1;exact hi ((List.getElem_inj M.nd).mp (e3.trans e4.symm))
theorem bp.cut(M:bp K ρ m H)(n:Nat):bp K (ρ.take n) (m.take n) H:=by
 refine⟨by simp[M.len],M.nd.sublist (List.take_sublist n ρ),λj a o e1 e2=>?_⟩;have hj:j<n:=by
  have:=(List.getElem?_eq_some_iff.mp e1).1;simp at this;lia
 rw[List.getElem?_take_of_lt hj]at e1 e2;rw[List.take_take,Nat.min_eq_left (ml hj)];exact M.at' j a o e1 e2
end
def iU:HO->Prop
 | .lst _=>True
 | .dK _=>True
 | _=>False
section
variable{σ:L2.St}
theorem freeze(I:Inv X pi σ H s){u:HO}(h:H a=some u)(hu:iU u):∃o,Inv X pi σ (upd H a (.bq o u)) s:=by
 obtain⟨o,ho⟩:∃o,s.heap.get? a=some o:=by
  have q:=I.aS a u h;cases u with
  | lst xs=>obtain⟨_,_,_,_,e⟩:=q;exact⟨_,e⟩
  | dK kvs=>obtain⟨_,_,_,_,o,_,_,e,_⟩:=q;exact⟨o,e⟩
  | _=>exact False.elim hu
 have nn:∀b,H b=none->b≠a:=λb n z=>by subst z;rw[h]at n;cases n
 have nt:∀b w,H b=some w->¬iU w->b≠a:=λb w n c z=>by subst z;rw[h]at n;cases n;exact c hu
 refine⟨o,I.ok,I.os,I.bare,⟨I.base.keep,I.base.slot,λb ob e n hx=>?_,I.base.there,λb xs e=>?_,λb ob w e=>?_,λb ps e=>?_⟩,I.loc,I.cell,?_,λx c e=>?_,λp hp=>?_,λb w e=>?_,I.len⟩
 .have q:=I.base.free b ob e n hx
  rw[CK (nn b q)];exact q
 .have q:=I.base.l5 b xs e
  rw[CK (nt b _ q λz=>z)];exact q
 .have q:=I.base.mv b ob w e
  rw[CK (nt b _ q λz=>z)];exact q
 .obtain⟨more,q⟩:=I.base.og b ps e
  exact⟨more,by rw[CK (nt b _ q λz=>z)];exact q⟩
 .rw[CK (nn _ I.free)];exact I.free
 .rw[CK (nn _ (I.lg x c e))];exact I.lg x c e
 .obtain⟨e1,e2,e3⟩:=I.pin p hp
  exact⟨e1,by rw[CK (nn _ e2)];exact e2,e3⟩
 .have st:∀{c:Addr} {x:HO},dw X.prog X.w H s.heap c x->dw X.prog X.w (upd H a (.bq o u)) s.heap c x:=λ {c x} q=>
   q.ku (λ_ _ _ z=>z) (λd z=>by rw[CK (nt d _ z λz=>z)];exact z) λd xs z=>by rw[CK (nt d _ z λz=>z)];exact z
  by_cases hb:b=a
  .subst hb
   rw[DP]at e;cases e;exact⟨ho,st (I.aS b u h)⟩
  .rw[CK hb]at e
   exact st (I.aS b w e)
def Fz(Q:VK):VK:=λv H=>Q v H\/∃a u,v=.ref a/\H a=some u/\iU u/\∀o,Q v (upd H a (.bq o u))
theorem _root_.L2.EP.fz{Q:VK}(h:EP X pi σ (Fz Q) u s):EP X pi σ Q u s:=by
 obtain⟨v,aa,I,r,q | ⟨a,w,e,ha,c,q⟩⟩:=h
 .exact⟨v,aa,I,r,q⟩
 .obtain⟨o,iq⟩:=freeze I ha c
  exact⟨v,_,iq,r,q o⟩
end
section
variable{t t':TE}
theorem _root_.L2.PE.fz(h:PE X e t):PE X e (λ σ H Q=>t σ H (Fz Q)):=λpi s σ H Q I q=>a9 (h pi s σ H _ I q) λ_ _ z=>L2.EP.fz z
theorem _root_.L2.PE.imp(h:PE X e t)(hi:∀σ H Q,t' σ H Q->t σ H Q):PE X e t':=λpi s σ H Q I q=>h pi s σ H Q I (hi σ H Q q)
theorem _root_.L2.PE.qx(h:PE X e t)(hi:∀σ H Q,t' σ H Q->t σ H (Fz Q)):PE X e t':=h.fz.imp hi
theorem _root_.L2.PT.imp{t t':TT}(h:PT X e t)(hi:∀σ H Q,t' σ H Q->t σ H Q):PT X e t':=λpi s σ H Q I q=>h pi s σ H Q I (hi σ H Q q)
theorem _root_.L2.PW.imp{t t':TT}(h:PW X e t)(hi:∀σ H Q,t' σ H Q->t σ H Q):PW X e t':=λw pi s σ H Q I q=>h w pi s σ H Q I (hi σ H Q q)
theorem _root_.L2.PA.imp{t t':TA}(h:PA X es t)(hi:∀σ H Q,t' σ H Q->t σ H Q):PA X es t':=λpos pi s σ H Q I q=>h pos pi s σ H Q I (hi σ H Q q)
theorem _root_.L2.PO.imp{e:Option Expr}{t t':TO}(h:PO X e t)(hi:∀σ H Q,t' σ H Q->t σ H Q):PO X e t':=λpi s σ H Q I q=>h pi s σ H Q I (hi σ H Q q)
theorem _root_.L2.PS.imp{t t':TS}(h:PS X st t)(hi:∀D σ H,t' D σ H->t D σ H):PS X st t':=λpi s σ H D I q=>h pi s σ H D I (hi D σ H q)
theorem _root_.L2.eP.imp{st:List Stmt}{t t':TS}(h:eP X st t)(hi:∀D σ H,t' D σ H->t D σ H):eP X st t':=λpi s σ H D I q=>h pi s σ H D I (hi D σ H q)
end
section
variable(C:String->List D->Mem->Option (D×Mem))(W:Nat)(K:p4)
def en(ρ:List Addr)(H:Hp)(d:D)(af:Mem)(Q:VK):Prop:=∀v aa ρ',Go ρ ρ' H aa->bp K ρ' af aa->At K ρ' aa d v->Q v aa
def tD(p:Ex):TE:=λ σ H Q=>∃aj m ρ d af,eQ K ρ H aj σ/\bp K ρ m H/\ev C p aj m=some (d,af)/\en K ρ H d af Q
def tw(p:i5):TA:=λ σ H Q=>∃aj m ρ ds af,eQ K ρ H aj σ/\bp K ρ m H/\gn C p aj m=some (ds,af)/\∀vs aa ρ',Go ρ ρ' H aa->bp K ρ' af aa->a7 K ρ' aa ds vs->Q vs aa
def fi(p:Te):TT:=λ σ H Q=>∃aj m ρ c af,eQ K ρ H aj σ/\bp K ρ m H/\et C p aj m=some (c,af)/\∀aa ρ',Go ρ ρ' H aa->bp K ρ' af aa->Q c aa
def AJ(p:Oe):TO:=λ σ H Q=>∃aj m ρ c af,eQ K ρ H aj σ/\bp K ρ m H/\eo C p aj m=some (c,af)/\∀aa ρ',Go ρ ρ' H aa->bp K ρ' af aa->Q c aa
def oe(g:Tg):TG:=λv σ H Q=>∃aj ρ d ky,eQ K ρ H aj σ/\At K ρ H d v/\JQ g d aj=some ky/\∀σ',eQ K ρ H ky σ'->Q σ' H
noncomputable def yp(gs:List Tg):oz:=λvs σ H Q=>∃aj ρ ds ky,eQ K ρ H aj σ/\a7 K ρ H ds vs/\PK gs ds aj=some ky/\∀σ',eQ K ρ H ky σ'->Q σ' H
def yT(ρ:List Addr)(H:Hp)(o:Out)(af:Mem)(E:Ends):Prop:=∀aa ρ',Go ρ ρ' H aa->bp K ρ' af aa->match o with
 | .nx ky=>∀σ',eQ K ρ' aa ky σ'->E.nx σ' aa
 | .rt d=>∀v,At K ρ' aa d v->E.rt v aa
def l3(p:Sm):TS:=λE σ H=>∃aj m ρ o af,eQ K ρ H aj σ/\bp K ρ m H/\ex C W p aj m=some (o,af)/\yT K ρ H o af E
def Y9(p:bg):TS:=λE σ H=>∃aj m ρ o af,eQ K ρ H aj σ/\bp K ρ m H/\aI C W p aj m=some (o,af)/\yT K ρ H o af E
end
section
variable{az:List Addr}{H1:Hp}{m1 af:Mem}{Q:VK}
theorem en.go(h:en K ρ H d af Q)(g:Go ρ az H H1):en K az H1 d af Q:=λv aa ρ' g' M A=>h v aa ρ' (g.trans g') M A
theorem en.here(h:en K ρ H d m1 Q)(M:bp K ρ m1 H)(A:At K ρ H d v):Q v H:=h v H ρ (.refl _ _) M A
theorem en.tup{xs:List D}(h:en K ρ H (.tup xs) m1 Q)(M:bp K ρ m1 H)(A:a7 K ρ H xs vs){p:Addr}(hp:H p=none){o:Obj}(hc:o.cls=.type "tuple")(hd:o.dict=none):Q (.ref p) (upd H p (.bq o (.tup vs))):=
 h _ _ ρ (QD hp) (M.new hp) ⟨p,vs,rfl,⟨o,hc,hd,.inl DP⟩,A.mono M (QD hp)⟩
theorem en.lst{mu:Bool}{xs:List D}(h:en K ρ H (bw mu xs m1).1 (bw mu xs m1).2 Q)(M:bp K ρ m1 H)(A:a7 K ρ H xs vs){p:Addr}(hp:H p=none):Fz Q (.ref p) (upd H p (.lst vs)):=by
 have KG:a7 K ρ (upd H p (.lst vs)) xs vs:=A.mono M (QD hp);cases mu with
 | true=>
  refine .inl (h _ _ (ρ++[p]) (lF M hp) (M.push hp ⟨vs,DP,KG⟩) ⟨p,?_,rfl⟩);rw[<-M.len];simp
 | false=>
  refine .inr ⟨p,_,rfl,DP,trivial,λo=>?_⟩;rw[u9];exact h _ _ ρ (QD hp) (M.new hp) ⟨p,o,vs,rfl,DP,A.mono M (QD hp)⟩
theorem en.aq{xs:List D}(h:en K ρ H (gX mu ks xs m1).1 (gX mu ks xs m1).2 Q)(M:bp K ρ m1 H)(hk:kvs.map (·.1)=ks)(A:a7 K ρ H xs (kvs.map (·.2))){p:Addr}(hp:H p=none):
  Fz Q (.ref p) (upd H p (.dK kvs)):=by
 cases mu with
 | true=>
  refine .inl (h _ _ (ρ++[p]) (lF M hp) (M.push hp ⟨kvs,DP,hk,A.mono M (QD hp)⟩) ⟨p,?_,rfl⟩);rw[<-M.len];simp
 | false=>
  refine .inr ⟨p,_,rfl,DP,trivial,λo=>?_⟩;rw[u9];exact h _ _ ρ (QD hp) (M.new hp) ⟨p,o,kvs,rfl,DP,hk,A.mono M (QD hp)⟩
end
noncomputable def yx(sc:Scope)(x:Str):Bool:=match sc.names.lookup x with | some .local=>true | some .cell=>true | _=>false
noncomputable def Bk(sc:Scope)(x:Str):Bool:=match sc.names.lookup x with | some .local=>true | some .cell=>true | some .free=>true | _=>false
noncomputable def B3(X:Cx)(x:Str):Bool:=X.fn x||(match X.env.scope.names.lookup x with | some .local=>true | _=>false)
theorem EZ(h:yx sc x=true):Loc sc x:=by unfold yx at h;split at h<;>first | exact Or.inl (by assumption) | exact Or.inr (by assumption) | cases h
theorem OV(h:Bk sc x=true):zf sc x:=by unfold Bk at h;split at h<;>first | exact Or.inl (by assumption) | exact Or.inr (Or.inl (by assumption)) | exact Or.inr (Or.inr (by assumption)) | cases h
theorem vJ(h:B3 X x=true):X.fn x=true\/X.env.scope.names.lookup x=some .local:=by
 rcases Bool.or_eq_true_iff.mp h with h | h
 .exact .inl h
 .split at h<;>first | exact .inr (by assumption) | cases h
theorem BK(i:Nat)(hN:X.N[i]?=some x:=by kernel_rfl)(hv:Bk X.env.scope x=true:=by kernel_rfl)(hd:(x==("__debug__" : Str))=false:=by decide)(jt:(x==("__classdict__" : Str))=false:=by decide):PE X (.Name x pos) (tD C X.K (.var i)):=(P0 hN (OV hv) hd jt).imp λ σ H Q ah=>by
 obtain⟨aj,m,ρ,d,af,S,M,e,q⟩:=ah;change (match aj[i]? with | some (some d)=>some (d,m) | _=>none)=_ at e;split at e
 .rename_i d' hd
  cases e;obtain⟨v,e1,a⟩:=S.2 i _ hd;exact⟨v,e1,q.here M a⟩
 .cases e
theorem bR(h:PE X e (tC v))(a:∀ρ H,At X.K ρ H d v):PE X e (tD C X.K (.con d)):=h.imp λ σ H Q ah=>by
 obtain⟨aj,m,ρ,d',af,S,M,e,q⟩:=ah;cases e;exact q.here M (a ρ H)
theorem BP{i:Int}{j pos}:PE X (.Constant (.int i) j pos) (tD C X.K (.con (.int i))):=bR EU λ_ _=>rfl
theorem gM{i:Bool}{j pos}:PE X (.Constant (.bool i) j pos) (tD C X.K (.con (.bl i))):=bR F3 λ_ _=>rfl
theorem DG{i:Str}{j pos}:PE X (.Constant (.str i) j pos) (tD C X.K (.con (.str i))):=bR PZ λ_ _=>rfl
theorem bQ{j pos}:PE X (.Constant .none j pos) (tD C X.K (.con .au)):=bR P1 λ_ _=>rfl
theorem BW:PA X [] (tw C X.K .nil):=(JR (X:=X)).imp λ σ H Q ah=>by
 obtain⟨aj,m,ρ,ds,af,S,M,e,q⟩:=ah;cases e;exact q [] H ρ (.refl _ _) M rfl
theorem BJ{p:Ex}{ps:i5}(ha:PE X e (tD C X.K p))(hr:PA X es (tw C X.K ps))(hs:starEach (e::es) X.env=(false,eval e X.env)::starEach es X.env:=by kernel_rfl):PA X (e::es) (tw C X.K (.cons p ps)):=
 (J7 ha hr hs).imp λ σ H Q ah=>by
 obtain⟨aj,m,ρ,ds,af,S,M,e,q⟩:=ah;obtain⟨⟨x,m1⟩,e1,e⟩:=aT e;obtain⟨⟨xs,m2⟩,e2,e⟩:=cj e;cases e;refine⟨aj,m,ρ,x,m1,S,M,e1,λv H1 az g1 M1 A1=>⟨aj,m1,az,xs,af,S.mono M g1,M1,e2,λvs H2 c8 g2 M2 A2=>q _ H2 c8 (g1.trans g2) M2 ⟨v,vs,rfl,A1.mono M1 g2,A2⟩⟩⟩
def zR(K:p4)(f:D->D->Mem->Option (D×Mem))(r:R2):Prop:=∀(ρ:List Addr) (m af:Mem) (H:Hp) (dx dy d:D) (x y:V) (Q:VK),
 bp K ρ m H->At K ρ H dx x->At K ρ H dy y->f dx dy m=some (d,af)->en K ρ H d af Q->r x y H (Fz Q)
theorem Fz.of{Q:VK}{v:V}(h:Q v H):Fz Q v H:=.inl h
theorem S8{p:Ex}{r:R2}{f:D->D->Mem->Option (D×Mem)}(h:PE X e (vh r (tD C X.K pa) (tD C X.K pb)))(hf:zR X.K f r)(he:∀σ m,ev C p σ m=(ev C pa σ m).bind λz=>(ev C pb σ z.2).bind λy=>f z.1 y.1 y.2):PE X e (tD C X.K p):=
 h.qx λ σ H Q ah=>by
 obtain⟨aj,m,ρ,d,af,S,M,e,q⟩:=ah;rw[he]at e;obtain⟨⟨x,m1⟩,e1,e⟩:=aT e;obtain⟨⟨y,m2⟩,e2,e⟩:=aT e;exact⟨aj,m,ρ,x,m1,S,M,e1,λv H1 az g1 M1 A1=>⟨aj,m1,az,y,m2,S.mono M g1,M1,e2,λw H2 c8 g2 M2 A2=>hf c8 m2 af H2 x y d v w Q M2 (A1.mono M1 g2) A2 e (q.go (g1.trans g2))⟩⟩
def GV(K:p4)(f:D->Mem->Option (D×Mem))(r:V->Hp->VK->Prop):Prop:=∀(ρ:List Addr) (m af:Mem) (H:Hp) (dx d:D) (x:V) (Q:VK),
 bp K ρ m H->At K ρ H dx x->f dx m=some (d,af)->en K ρ H d af Q->r x H (Fz Q)
theorem bO{p:Ex}{r:V->Hp->VK->Prop}{f:D->Mem->Option (D×Mem)}(h:PE X e (λ σ H Q=>tD C X.K pa σ H λx H1=>r x H1 Q))(hf:GV X.K f r)(he:∀σ m,ev C p σ m=(ev C pa σ m).bind λz=>f z.1 z.2):PE X e (tD C X.K p):=
 h.qx λ σ H Q ah=>by
 obtain⟨aj,m,ρ,d,af,S,M,e,q⟩:=ah;rw[he]at e;obtain⟨⟨x,m1⟩,e1,e⟩:=aT e;exact⟨aj,m,ρ,x,m1,S,M,e1,λv H1 az g1 M1 A1=>hf az m1 af H1 x d v Q M1 A1 e (q.go g1)⟩
section
theorem JF(h:n<=100000):n<=sizeLine:=eJ h (by rw[fq];decide)
def A4(K:p4):R2:=λx y H Q=>∃a b xs ys,x=.ref a/\y=.ref b/\ma K H a xs/\ma K H b ys/\xs.length+ys.length<=sizeLine/\
 (xs=[]->Q (.ref b) H)/\(xs≠[]->ys=[]->Q (.ref a) H)/\(xs≠[]->ys≠[]->∀p o,H p=none->o.cls=.type "tuple"->o.dict=none->Q (.ref p) (upd H p (.bq o (.tup (xs++ys)))))
theorem Np:eB X (binaryOp .Add) (A4 X.K):=by
 intro pi s σ H x y v u Q I rx ry h;obtain⟨a,b,xs,ys,rfl,rfl,ha,hb,hz,q0,q1,q2⟩:=h;cases rx;cases ry;obtain⟨its,r1,p1,_⟩:=I.tuple ha.sq;obtain⟨gd,r2,p2,_⟩:=I.tuple hb.sq
 by_cases hx:xs=[]
 .have hi:its=[]:=r1.Ax.mpr hx
  obtain⟨⟨cls,dd,data,sl⟩,ho,hc,n,hd⟩:=id p1;obtain⟨⟨Hs,nE,data2,pM⟩,o4,qj,n2,hd2⟩:=id p2;simp only at hc hd qj hd2;subst hc hd qj hd2;exact concat_meets ⟨_,ho,rfl⟩ ⟨_,o4,rfl⟩ noFill_tuple_add seq_tuple_add PySem.F.slot_tuple_add PySem.F.entry_tuple_add (PySem.F.args_tuple_add_2 _ _)
   (tuple_addW0 a b its.toArray gd.toArray n n2 dd nE sl pM (by simp[hi])) ⟨ho,o4,⟨.ref b,H,I,rfl,q0 hx⟩⟩
 .refine HT.Tt p1 p2 (λz=>hx (r1.Ax.mp z)) (λz=>⟨.ref a,H,I,rfl,q1 hx (r2.Ax.mp z)⟩) (λz=>?_) (by rw[<-r1.length,<-r2.length];exact hz)
  refine⟨.ref s.heap.objs.size,_,I.laid (t':=s.toks) (o:=.bq { cls:=.type "tuple",data:=.seq (its++gd).toArray } (.tup (xs++ys))) (λb ob q=>dg _ q) (a0 _) ?_,rfl,q2 hx (λw=>z (r2.Ax.mpr w)) _ _ (I.aS.fresh (a0 _)) rfl rfl⟩;exact⟨dj _ rfl,by rw[gc];exact hz,_,r1.append r2,IsTup.new _ _⟩
theorem Nq:eB X (binaryOp .Add) (λx y H Q=>lP (λi j=>.int (i+j)) x y H Q\/(∃i j,x=.str i/\y=.str j/\i.length+j.length<=sizeLine/\Q (.str (i++j)) H)\/A4 X.K x y H Q):=Xx.or (Xy.or Np)
theorem Mo:zR X.K (YK .add) (λx y H Q=>lP (λi j=>.int (i+j)) x y H Q\/(∃i j,x=.str i/\y=.str j/\i.length+j.length<=sizeLine/\Q (.str (i++j)) H)\/A4 X.K x y H Q):=by
 intro ρ m af H dx dy d x y Q M ax ay e q;cases dx with
 | int i=>
  cases dy with
  | int j=>
   cases (show some (D.int (i+j),m)=some (d,af) from e);cases ax;cases ay;exact .inl ⟨_,_,rfl,rfl,.of (q.here M rfl)⟩
  | _=>cases (show (none:Option (D×Mem))=some (d,af) from e)
 | str i=>
  cases dy with
  | str j=>
   have e:(if i.length+j.length<=1000 then some (D.str (i++j),m) else none)=some (d,af):=e
   by_cases hl:i.length+j.length<=1000
   .rw[ag hl]at e
    cases e;cases ax;cases ay;exact .inr (.inl ⟨_,_,rfl,rfl,JF (by lia),.of (q.here M rfl)⟩)
   .rw[ak hl]at e
    cases e
  | _=>cases (show (none:Option (D×Mem))=some (d,af) from e)
 | tup xs=>
  cases dy with
  | tup ys=>
   have e:(if xs.length+ys.length<=10000 then some (D.tup (xs++ys),m) else none)=some (d,af):=e
   by_cases hl:xs.length+ys.length<=10000
   .rw[ag hl]at e
    cases e;obtain⟨a,vs,rfl,ha,as⟩:=ax;obtain⟨b,us,rfl,hb,bs⟩:=ay;have l1:=as.len;have l2:=bs.len;refine .inr (.inr ⟨a,b,vs,us,rfl,rfl,ha,hb,JF (by lia),λz=>.of ?_,λ_ z=>.of ?_,λ_ _ p o hp hc hd=>.of (q.tup M (as.app bs) hp hc hd)⟩)
    .have:xs=[]:=List.eq_nil_of_length_eq_zero (by rw[<-l1,z];rfl)
     subst this;exact q.here M ⟨b,us,rfl,hb,bs⟩
    .have:ys=[]:=List.eq_nil_of_length_eq_zero (by rw[<-l2,z];rfl)
     subst this;rw[ue]at q;exact q.here M ⟨a,vs,rfl,ha,as⟩
   .rw[ak hl]at e
    cases e
  | _=>cases (show (none:Option (D×Mem))=some (d,af) from e)
 | _=>cases (show (none:Option (D×Mem))=some (d,af) from e)
theorem Mh:zR X.K (YK .sub) (lP λi j=>.int (i-j)):=by
 intro ρ m af H dx dy d x y Q M ax ay e q;cases dx with
 | int i=>
  cases dy with
  | int j=>
   cases (show some (D.int (i-j),m)=some (d,af) from e);cases ax;cases ay;exact⟨_,_,rfl,rfl,.of (q.here M rfl)⟩
  | _=>cases (show (none:Option (D×Mem))=some (d,af) from e)
 | _=>cases (show (none:Option (D×Mem))=some (d,af) from e)
theorem Mi:zR X.K (YK .mul) (rI yY λi j=>.int (i*j)):=by
 intro ρ m af H dx dy d x y Q M ax ay e q;cases dx with
 | int i=>
  cases dy with
  | int j=>
   have e:(if (-(2 ^ 64)<i/\i<2 ^ 64)\/(-(2 ^ 64)<j/\j<2 ^ 64) then some (D.int (i*j),m) else none)=some (d,af):=e
   by_cases h:(-(2 ^ 64)<i/\i<2 ^ 64)\/(-(2 ^ 64)<j/\j<2 ^ 64)
   .rw[ag h]at e
    cases e;cases ax;cases ay;exact⟨_,_,rfl,rfl,h,.of (q.here M rfl)⟩
   .rw[ak h]at e
    cases e
  | _=>cases (show (none:Option (D×Mem))=some (d,af) from e)
 | _=>cases (show (none:Option (D×Mem))=some (d,af) from e)
theorem Mj:zR X.K (YK .mod) (rI (λ_ j=>0<j) λi j=>.int (i % j)):=by
 intro ρ m af H dx dy d x y Q M ax ay e q;cases dx with
 | int i=>
  cases dy with
  | int j=>
   have e:(if 0<j then some (D.int (i % j),m) else none)=some (d,af):=e
   by_cases h:0<j
   .rw[ag h]at e
    cases e;cases ax;cases ay;exact⟨_,_,rfl,rfl,h,.of (q.here M rfl)⟩
   .rw[ak h]at e
    cases e
  | _=>cases (show (none:Option (D×Mem))=some (d,af) from e)
 | _=>cases (show (none:Option (D×Mem))=some (d,af) from e)
variable{a:Expr}
theorem GZ(ha:PE X a (tD C X.K pa))(hb:PE X b (tD C X.K pb)):PE X (.BinOp a .Add b pos) (tD C X.K (.bin .add pa pb)):=S8 (oH Nq ha hb) Mo λ_ _=>rfl
theorem bM(ha:PE X a (tD C X.K pa))(hb:PE X b (tD C X.K pb)):PE X (.BinOp a .Sub b pos) (tD C X.K (.bin .sub pa pb)):=S8 (oH P6 ha hb) Mh λ_ _=>rfl
theorem KJ(ha:PE X a (tD C X.K pa))(hb:PE X b (tD C X.K pb)):PE X (.BinOp a .Mult b pos) (tD C X.K (.bin .mul pa pb)):=S8 (oH P7 ha hb) Mi λ_ _=>rfl
theorem KN(ha:PE X a (tD C X.K pa))(hb:PE X b (tD C X.K pb)):PE X (.BinOp a .Mod b pos) (tD C X.K (.bin .mod pa pb)):=S8 (oH P8 ha hb) Mj λ_ _=>rfl
def Rt:R2:=λx y H Q=>∃l b xs zs,x=.ref l/\y=.ref b/\Rd H l (.lst xs)/\Rd H b (.lst zs)/\xs.length+zs.length<=sizeLine/\∀p,H p=none->Q (.ref p) (upd H p (.lst (xs++zs)))
theorem Nn:eB X (binaryOp .Add) Rt:=by
 intro pi s σ H x y v u Q I rx ry h;obtain⟨l,b,xs,zs,rfl,rfl,hH,hB,hz,q⟩:=h;cases rx;cases ry;obtain⟨z,its,n,r,e⟩:=hH.ok I.aS;obtain⟨z2,gd,n2,r2,e2⟩:=hB.ok I.aS;have hl:=r.length;have nS:=r2.length;refine PySem.P.add_list e e2 ?_ (by rw[dv,dv];omega);have ea:its.toArray++gd.toArray=(its++gd).toArray:=by simp
 rw[ea];exact⟨.ref _,_,I.Js (t':=s.toks) (r.append r2) (by rw[gc];omega),rfl,q _ I.fresh⟩
theorem EA(ha:PE X a (tD C X.K pa))(hb:PE X b (tD C X.K pb))(mu:Bool:=false):PE X (.BinOp a .Add b pos) (tD C X.K (.cat mu pa pb)):=
 S8 (f:=λx y m2=>match x,y with | .lst xs,.lst ys=>if xs.length+ys.length<=10000 then some (bw mu (xs++ys) m2) else none | _,_=>none) (oH Nn ha hb) (by
  intro ρ m af H dx dy d x y Q M ax ay e q;cases dx<;>cases dy<;>simp only at e<;>try (cases e;done)
  split at e
  .rename_i xs ys hl
   obtain⟨a,o,vs,rfl,ha,as⟩:=ax;obtain⟨b,b5,us,rfl,hb,bs⟩:=ay;have l1:=as.len;have l2:=bs.len;have aE:=cq e;have cg:en X.K ρ H (bw mu (xs++ys) m).1 (bw mu (xs++ys) m).2 Q:=by rw[aE];exact q
   exact⟨a,b,vs,us,rfl,rfl,.inr ⟨o,ha⟩,.inr ⟨b5,hb⟩,JF (by lia),λp hp=>cg.lst M (as.app bs) hp⟩
  .cases e) λ_ _=>rfl
end
end WL
namespace L2
open PySem PySem.Spec PyProof.Rows
theorem cR{M:Model}{v:Value}{b:Bool}(hv:∀i,v≠.builtin i)(h:Q (.bool (!(v==.bool b))) s):wpAny M A (compareOp .IsNot v (.bool b)) Q E s:=by
 cases v<;>first | exact ai h | exact absurd rfl (hv _)
theorem Nl:eB X (compareOp .IsNot) (λx y H Q=>∃b,y=.bl b/\Q (.bl (!decide (x=.bl b))) H):=by
 intro pi s σ H x y v u Q I rx ry h;obtain⟨b,rfl,q⟩:=h;cases ry;refine cR (λi e=>?_) (G9 I q ?_)
 .subst e
  cases x<;>first
   | (cases rx;done)
   | (obtain⟨t,h⟩:=rx;cases h;done)
 cases x<;>first
  | (cases rx;rfl)
  | (obtain⟨t,rfl⟩:=rx;rfl)
  | (cases rx;cases b<;>(rename_i c;cases c<;>rfl))
end L2
namespace WL
open PySem PySem.Spec PyProof.Rows L2
section
variable{σ:L2.St}
mutual
theorem SM(I:Inv X pi σ H s):∀{d:D} {x:V} {u:Value} {p:PyData},At X.K ρ H d x->nX d=some p->RelV x u->∃as,Reads s.heap u p as
 | .au,_,_,_,a,e,r=>by cases a;cases e;cases r;exact⟨_,.none⟩
 | .bl b,_,_,_,a,e,r=>by cases a;cases e;cases r;exact⟨_,.bool b⟩
 | .int i,_,_,_,a,e,r=>by cases a;cases e;obtain⟨t,rfl⟩:=r;exact⟨_,.int i t⟩
 | .str i,_,_,_,a,e,r=>by cases a;cases e;obtain⟨t,rfl⟩:=r;exact⟨_,.str i t⟩
 | .tup xs,_,_,_,bf,e,r=>by
  obtain⟨a,vs,ex,h,as⟩:=bf;subst ex;cases r;obtain⟨ps,e1,rfl⟩:=cj (show (cG xs).map PyData.tuple=some _ from e);obtain⟨its,rv,⟨o,ho,hc,n,hd⟩,_⟩:=I.tuple h.sq;obtain⟨bs,q⟩:=SN I as e1 rv;exact⟨_,.tuple ho hc hd (by simpa using q)⟩
 | .lst xs,_,_,_,bf,e,r=>by
  obtain⟨a,o,vs,ex,h,as⟩:=bf;subst ex;cases r;obtain⟨ps,e1,rfl⟩:=cj (show (cG xs).map PyData.list=some _ from e);obtain⟨its,rv,⟨o,n,ho,hc,_,hd⟩,_⟩:=I.list (X:=X) (.inl (.inr ⟨o,h⟩));obtain⟨bs,q⟩:=SN I as e1 rv;exact⟨_,.list ho hc hd (by simpa using q)⟩
 | .aq _ _,_,_,_,_,e,_=>nomatch e
 | .bP _,_,_,_,_,e,_=>nomatch e
 | .ao _,_,_,_,_,e,_=>nomatch e
theorem SN(I:Inv X pi σ H s):∀{ds:List D} {xs:List V} {us:List Value} {ps:List PyData},a7 X.K ρ H ds xs->cG ds=some ps->Vals xs us->∃as,ReadsAll s.heap us ps as
 | [],_,_,_,a,e,r=>by
  cases (show _=[] from a);cases e;cases r;exact⟨_,.nil⟩
 | d::ds,_,_,_,bf,e,r=>by
  obtain⟨v,vr,ex,a,as⟩:=bf;subst ex;obtain⟨p,e1,e⟩:=aT (show (nX d).bind _=some _ from e);obtain⟨ps,e2,rfl⟩:=cj e;cases r with
  | cons r1 r2=>
   obtain⟨Z3,q1⟩:=SM I a e1 r1;obtain⟨oB,q2⟩:=SN I as e2 r2;exact⟨_,.cons q1 q2⟩
end
end
section
def G2(K:p4)(o:rg)(r:R2):Prop:=∀(ρ:List Addr) (m:Mem) (H:Hp) (dx dy:D) (x y:V) (c:Bool) (Q:VK),bp K ρ m H->At K ρ H dx x->At K ρ H dy y->N5 o dx dy=some c->Q (.bl c) H->r x y H Q
def TV(X:Cx)(o:rg)(op:CmpOp):Prop:=∃r,eB X (compareOp op) r/\G2 X.K o r
def AZ(K:p4)(neg:Bool):R2:=λx y H Q=>∃ρ dx dy px py,At K ρ H dx x/\At K ρ H dy y/\nX dx=some px/\nX dy=some py/\px.canLay0=true/\py.canLay0=true/\min px.depth py.depth<=60/\Q (.bl (if neg then !PyData.eqv px py else PyData.eqv px py)) H
theorem Nm(hu:X.A.units+64<cLine):eB X (compareOp .Eq) (AZ X.K false):=by
 intro pi s σ H x y v u Q I rx ry h;obtain⟨ρ,dx,dy,px,py,ax,ay,ex,ey,lx,ly,hd,q⟩:=h;obtain⟨as,r1⟩:=SM I ax ex rx;obtain⟨bs,r2⟩:=SM I ay ey ry;exact SeqAt.eqOverData X.prog X.w X.A X.xe s v u px py as bs _ r1 r2 lx ly (by lia) ⟨.bl _,H,I,rfl,q⟩
theorem Lo(hu:X.A.units+64<cLine):eB X (compareOp .NotEq) (AZ X.K true):=by
 intro pi s σ H x y v u Q I rx ry h;obtain⟨ρ,dx,dy,px,py,ax,ay,ex,ey,lx,ly,hd,q⟩:=h;obtain⟨as,r1⟩:=SM I ax ex rx;obtain⟨bs,r2⟩:=SM I ay ey ry;exact SeqAt.neOverData X.prog X.w X.A X.xe s v u px py as bs _ r1 r2 lx ly (by lia) ⟨.bl _,H,I,rfl,q⟩
theorem vR{x:V}{c:Bool}(neg:Bool){Q:VK}(ax:At K ρ H dx x)(ay:At K ρ H dy y)(e:R7 dx dy=some c)(q:Q (.bl (if neg then !c else c)) H):AZ K neg x y H Q:=by
 unfold R7 at e;obtain⟨px,e1,e⟩:=aT e;obtain⟨py,e2,e⟩:=aT e;split at e
 .rename_i h
  have aE:=cq e;rw[gp,gp,decide_eq_true_eq]at h;exact⟨ρ,dx,dy,px,py,ax,ay,e1,e2,h.1.1,h.1.2,h.2,by rw[aE];exact q⟩
 .cases e
theorem Fl{a b:Int}:decide (V.int a=V.int b)=decide (a=b):=by simp
theorem Fj{a b:Str}:decide (V.str a=V.str b)=decide (a=b):=by simp
theorem HS(hu:X.A.units+64<cLine:=by assumption):TV X .eq .Eq:=by
 refine⟨_,Xz.or (Nm hu),λ ρ m H dx dy x y c Q M ax ay e q=>?_⟩;have e:kH dx dy=some c:=e;unfold kH at e;split at e
 .cases ax;cases ay;cases e
  exact .inl ⟨rfl,by rw[Fl];exact q⟩
 .cases ax;cases ay;cases e
  exact .inl ⟨rfl,by rw[Fj];exact q⟩
 .exact .inr (vR false ax ay e q)
theorem dI(hu:X.A.units+64<cLine:=by assumption):TV X .ne .NotEq:=by
 refine⟨_,XA.or (Lo hu),λ ρ m H dx dy x y c Q M ax ay e q=>?_⟩;obtain⟨k,e0,rfl⟩:=cj (show (kH dx dy).map (!·)=some c from e);clear e
 rename kH dx dy=some k=>e
 unfold kH at e;split at e
 .cases ax;cases ay;cases e
  exact .inl ⟨rfl,by rw[Fl];exact q⟩
 .cases ax;cases ay;cases e
  exact .inl ⟨rfl,by rw[Fj];exact q⟩
 .exact .inr (vR true ax ay e q)
theorem lV{o:rg}{g:Int->Int->Bool}(h:eB X (compareOp op) (lP λi j=>.bl (g i j)))(hc:∀dx dy c,N5 o dx dy=some c->∃i j,dx=.int i/\dy=.int j/\c=g i j):TV X o op:=
 ⟨_,h,λ ρ m H dx dy x y c Q M ax ay e q=>by
  obtain⟨i,j,rfl,rfl,rfl⟩:=hc dx dy c e;cases ax;cases ay;exact⟨i,j,rfl,rfl,q⟩⟩
theorem ZG:TV X .lt .Lt:=lV Rx λdx dy c e=>by
 cases dx with
 | int i=>
  cases dy with
  | int j=>
   cases (show some (decide (i<j))=some c from e);exact⟨_,_,rfl,rfl,rfl⟩
  | _=>cases (show (none:Option Bool)=some c from e)
 | _=>cases (show (none:Option Bool)=some c from e)
theorem vZ:TV X .le .LtE:=lV Ry λdx dy c e=>by
 cases dx with
 | int i=>
  cases dy with
  | int j=>
   cases (show some (decide (i<=j))=some c from e);exact⟨_,_,rfl,rfl,rfl⟩
  | _=>cases (show (none:Option Bool)=some c from e)
 | _=>cases (show (none:Option Bool)=some c from e)
theorem wA:TV X .gt .Gt:=lV Rz λdx dy c e=>by
 cases dx with
 | int i=>
  cases dy with
  | int j=>
   cases (show some (decide (j<i))=some c from e);exact⟨_,_,rfl,rfl,rfl⟩
  | _=>cases (show (none:Option Bool)=some c from e)
 | _=>cases (show (none:Option Bool)=some c from e)
theorem Gf:TV X .ge .GtE:=lV RA λdx dy c e=>by
 cases dx with
 | int i=>
  cases dy with
  | int j=>
   cases (show some (decide (j<=i))=some c from e);exact⟨_,_,rfl,rfl,rfl⟩
  | _=>cases (show (none:Option Bool)=some c from e)
 | _=>cases (show (none:Option Bool)=some c from e)
theorem QY{x:V}(a:At K ρ H d x):decide (x=.au)=d.qy:=by
 cases d with
 | au=>cases a;rfl
 | bl _=>cases a;rfl
 | int _=>cases a;rfl
 | str _=>cases a;rfl
 | tup _=>obtain⟨_,_,rfl,_⟩:=a;rfl
 | lst _=>obtain⟨_,_,_,rfl,_⟩:=a;rfl
 | aq _ _=>obtain⟨_,_,_,rfl,_⟩:=a;rfl
 | bP _=>obtain⟨_,rfl,_⟩:=a;rfl
 | ao _=>obtain⟨_,_,rfl⟩:=a;rfl
theorem Sl{x:V}{b:Bool}(a:At K ρ H d x):decide (x=.bl b)=d.sD b:=by
 cases d with
 | au=>cases a;rfl
 | bl c=>cases a;cases b<;>cases c<;>rfl
 | int _=>cases a;rfl
 | str _=>cases a;rfl
 | tup _=>obtain⟨_,_,rfl,_⟩:=a;rfl
 | lst _=>obtain⟨_,_,_,rfl,_⟩:=a;rfl
 | aq _ _=>obtain⟨_,_,_,rfl,_⟩:=a;rfl
 | bP _=>obtain⟨_,rfl,_⟩:=a;rfl
 | ao _=>obtain⟨_,_,rfl⟩:=a;rfl
theorem Ln:eB X (compareOp .IsNot) (λx y H Q=>(y=.au/\Q (.bl (!decide (x=.au))) H)\/∃b,y=.bl b/\Q (.bl (!decide (x=.bl b))) H):=by
 intro pi s σ H x y v u Q I rx ry h;rcases h with h | h
 .exact Nk _ _ _ _ _ _ _ _ _ I rx ry h
 .exact Nl _ _ _ _ _ _ _ _ _ I rx ry h
theorem pN:TV X .qz .IsNot:=by
 refine⟨_,Ln,λ ρ m H dx dy x y c Q M ax ay e q=>?_⟩;cases dy with
 | au=>
  cases ay;have aE:(!dx.qy)=c:=cq (show some _=some c from e);exact Or.inl ⟨rfl,by rw[QY ax,aE];exact q⟩
 | bl b=>
  cases ay;have aE:(!dx.sD b)=c:=cq (show some _=some c from e);exact Or.inr ⟨b,rfl,by rw[Sl ax,aE];exact q⟩
 | _=>cases e
theorem U7{x:V}(f:d.flat=true)(a:At K ρ H d x):RP x=true/\∀{d':D} {y:V},d'.flat=true->At K ρ H d' y->gb y x=inD d [d']:=by
 cases d<;>cases f
 .cases a
  refine⟨rfl,λ {d' y} f' i9=>?_⟩;cases d'<;>cases f'<;>cases i9
  .simp[gb,inD,Bool.beq_eq_decide_eq,eq_comm]
  .simp[gb,inD]
 .cases a
  refine⟨rfl,λ {d' y} f' i9=>?_⟩;cases d'<;>cases f'<;>cases i9
  .simp[gb,inD]
  .simp[gb,inD,Bool.beq_eq_decide_eq,eq_comm]
theorem Lz(x y:D)(r:List D):inD x (y::r)=(inD x [y]||inD x r):=by simp[inD]
theorem X3{ρ:List Addr}{H:Hp}{d:D}{x:V}(f:d.flat=true)(a:At K ρ H d x):∀{ds:List D} {vs:List V},ds.all D.flat=true->a7 K ρ H ds vs->vs.all RP=true/\sC x vs=inD d ds
 | [],_,_,as=>by cases (show _=[] from as);exact⟨rfl,rfl⟩
 | e::r,_,fs,bf=>by
  obtain⟨v,vr,ev,a1,as⟩:=bf;subst ev;rw[List.all_cons,gp]at fs;obtain⟨h1,h2⟩:=X3 f a fs.2 as;refine⟨by rw[List.all_cons,(U7 fs.1 a1).1,h1];rfl,?_⟩;rw[Lz,<-h2,<-(U7 f a).2 fs.1 a1];rfl
theorem Ew{dx dy:D}{x:V}{c:Bool}(neg:Bool){Q:VK}(hs:dy=.tup ds\/dy=.lst ds)(ax:At K ρ H dx x)(ay:At K ρ H dy y)(e:(if dx.flat&&ds.all D.flat then some (if neg then !inD dx ds else inD dx ds) else none)=some c)(q:Q (.bl c) H):Kc K neg x y H Q:=by
 split at e
 .rename_i h
  rw[gp]at h;have aE:=cq e;rcases hs with rfl | rfl
  .obtain⟨a,vs,rfl,ha,as⟩:=ay
   obtain⟨f2,i2⟩:=X3 h.1 ax h.2 as;exact⟨a,vs,rfl,.inr ha.sq,(U7 h.1 ax).1,f2,by rw[i2,aE];exact q⟩
  .obtain⟨a,o,vs,rfl,ha,as⟩:=ay
   obtain⟨f2,i2⟩:=X3 h.1 ax h.2 as;exact⟨a,vs,rfl,.inl (.inl (.inr ⟨o,ha⟩)),(U7 h.1 ax).1,f2,by rw[i2,aE];exact q⟩
 .cases e
theorem w6:TV X .isin .In:=⟨_,yC,λ ρ m H dx dy x y c Q M ax ay e q=>by
 cases dy with
 | tup ds=>exact Ew false (.inl rfl) ax ay e q
 | lst ds=>exact Ew false (.inr rfl) ax ay e q
 | _=>cases e⟩
variable{a:Expr}{o b5:rg}{aa7:CmpOp}
theorem Fo{r:R2}(hr:G2 X.K o r){σ:L2.St}{Q:VK}(h:tD C X.K (.cmp o pa pb) σ H Q):vh r (tD C X.K pa) (tD C X.K pb) σ H Q:=by
 obtain⟨aj,m,ρ,d,af,S,M,e,q⟩:=h;obtain⟨⟨x,m1⟩,e1,e⟩:=aT e;obtain⟨⟨y,m2⟩,e2,e⟩:=aT e;obtain⟨k,e3,e⟩:=cj e;cases e;exact⟨aj,m,ρ,x,m1,S,M,e1,λv H1 az g1 M1 A1=>⟨aj,m1,az,y,af,S.mono M g1,M1,e2,λw H2 c8 g2 M2 A2=>hr c8 af H2 x y v w k Q M2 (A1.mono M1 g2) A2 e3 (q _ _ c8 (g1.trans g2) M2 rfl)⟩⟩
theorem R5(k:TV X o op)(ha:PE X a (tD C X.K pa))(hb:PE X b (tD C X.K pb))(hm:behindInMarks op b=false:=by kernel_rfl):PE X (.Compare a [op] [b] pos) (tD C X.K (.cmp o pa pb)):=by
 obtain⟨r,h,hr⟩:=k;exact(Ng h ha hb hm).imp λ σ H Q q=>Fo hr q
theorem DN(k:TV X o op)(ha:PE X a (tD C X.K pa))(hb:PE X b (tD C X.K pb))(hm:behindInMarks op b=false:=by kernel_rfl):PT X (.Compare a [op] [b] pos) (fi C X.K (.val (.cmp o pa pb))):=by
 obtain⟨r,h,hr⟩:=k;refine(MR h ha hb hm).imp λ σ H Q ah=>?_
 obtain⟨aj,m,ρ,c,af,S,M,e,q⟩:=ah;refine Fo hr ?_;obtain⟨⟨x,m1⟩,e1,e⟩:=aT e;obtain⟨k,e2,e⟩:=cj e;cases e;have hx:∃z,x=.bl z:=by
  obtain⟨_,_,e1⟩:=aT e1;obtain⟨_,_,e1⟩:=aT e1;obtain⟨z,_,e1⟩:=cj e1;cases e1;exact⟨z,rfl⟩
 obtain⟨z,rfl⟩:=hx;cases e2;exact⟨aj,m,ρ,_,af,S,M,e1,λv H1 az g1 M1 A1=>⟨_,A1,q H1 az g1 M1⟩⟩
theorem OZ{x:V}{c:Bool}(M:bp K ρ m H)(A:At K ρ H d x)(e:jF d m=some c):Bv K x H c:=by
 cases d with
 | au=>cases A;cases e;rfl
 | bl b=>cases A;cases e;rfl
 | int i=>cases A;cases e;rfl
 | str x=>cases e
 | aq _ _=>cases e
 | tup xs=>
  obtain⟨a,vs,rfl,h,as⟩:=A;cases e;refine .inr (.inl ⟨vs,h.sq,?_⟩);have:=as.len;cases xs<;>cases vs<;>simp_all
 | lst xs=>
  obtain⟨a,o,vs,rfl,h,as⟩:=A;cases e;refine .inl ⟨vs,.inl (.inr ⟨o,h⟩),?_⟩;have:=as.len;cases xs<;>cases vs<;>simp_all
 | bP ns=>
  obtain⟨a,rfl,h⟩:=A;cases e;refine .inl ⟨_,h.sq,?_⟩;cases ns<;>rfl
 | ao i=>
  obtain⟨a,hi,rfl⟩:=A;have e:(match m[i]? with | some (.lst xs)=>some (!xs.isEmpty) | some (.aq ks _)=>some (!ks.isEmpty) | _=>none)=some c:=e;split at e
  .rename_i xs hm
   cases e;obtain⟨vs,hv,as⟩:=M.at' i a _ hi hm;refine .inl ⟨vs,.of hv,?_⟩;have:=as.len;cases xs<;>cases vs<;>simp_all
  .rename_i ks us hm
   cases e;obtain⟨kvs,hv,hk,as⟩:=M.at' i a _ hi hm;refine .inr (.inr ⟨kvs,hv,?_⟩);subst hk;cases kvs<;>rfl
  .cases e
theorem R3(ha:PE X a (tD C X.K pa))(he:∀whole,isTrue a X.env whole=(do let v <-whole;standAt a.pos;holding [v] (truthy v)):=by intro _;kernel_rfl):PT X a (fi C X.K (.val pa)):=
 (Lh ha he).imp λ σ H Q ah=>by
 obtain⟨aj,m,ρ,c,af,S,M,e,q⟩:=ah;obtain⟨⟨x,m1⟩,e1,e⟩:=aT e;obtain⟨k,e2,e⟩:=cj e;cases e;exact⟨aj,m,ρ,x,af,S,M,e1,λv H1 az g1 M1 A1=>⟨_,OZ M1 A1 e2,q H1 az g1 M1⟩⟩
variable{ta tb:Te}{rest:List Expr}
theorem Ep(ha:PT X a (fi C X.K ta)):PT X (.UnaryOp .Not a pos) (fi C X.K (.not ta)):=(PH ha).imp λ σ H Q ah=>by
 obtain⟨aj,m,ρ,c,af,S,M,e,q⟩:=ah;obtain⟨⟨k,m1⟩,e1,e⟩:=cj e;cases e;exact⟨aj,m,ρ,k,af,S,M,e1,q⟩
theorem aF(ha:PT X a (fi C X.K ta)):PW X (.BoolOp .And [a] pos) (fi C X.K ta):=MI ha
theorem rA(ha:PT X a (fi C X.K ta)):PW X (.BoolOp .Or [a] pos) (fi C X.K ta):=Pz ha
theorem YB(ha:PT X a (fi C X.K ta))(hb:PW X (.BoolOp .And (b::rest) pos) (fi C X.K tb)):PW X (.BoolOp .And (a::b::rest) pos) (fi C X.K (.and ta tb)):=(PD ha hb).imp λ σ H Q ah=>by
 obtain⟨aj,m,ρ,c,af,S,M,e,q⟩:=ah;obtain⟨⟨k,m1⟩,e1,e⟩:=aT e;refine⟨aj,m,ρ,k,m1,S,M,e1,λH1 az g1 M1=>?_⟩;cases k with
 | false=>
  try dsimp only at e
  rw[ak d5]at e ⊢;cases e;exact q H1 az g1 M1
 | true=>
  try dsimp only at e
  rw[ag rfl]at e ⊢;exact⟨aj,m1,az,c,af,S.mono M g1,M1,e,λH2 c8 g2 M2=>q H2 c8 (g1.trans g2) M2⟩
theorem AX(ha:PT X a (fi C X.K ta))(hb:PW X (.BoolOp .Or (b::rest) pos) (fi C X.K tb)):PW X (.BoolOp .Or (a::b::rest) pos) (fi C X.K (.or ta tb)):=(Ru ha hb).imp λ σ H Q ah=>by
 obtain⟨aj,m,ρ,c,af,S,M,e,q⟩:=ah;obtain⟨⟨k,m1⟩,e1,e⟩:=aT e;refine⟨aj,m,ρ,k,m1,S,M,e1,λH1 az g1 M1=>?_⟩;cases k with
 | true=>
  try dsimp only at e
  rw[ag rfl]at e ⊢;cases e;exact q H1 az g1 M1
 | false=>
  try dsimp only at e
  rw[ak d5]at e ⊢;exact⟨aj,m1,az,c,af,S.mono M g1,M1,e,λH2 c8 g2 M2=>q H2 c8 (g1.trans g2) M2⟩
theorem Ez(hc:PT X c (fi C X.K ta))(ha:PE X a (tD C X.K pa))(hb:PE X b (tD C X.K pb)):PE X (.IfExp c a b pos) (tD C X.K (.uz ta pa pb)):=(Ll hc ha hb).imp λ σ H Q ah=>by
 obtain⟨aj,m,ρ,d,af,S,M,e,q⟩:=ah;obtain⟨⟨k,m1⟩,e1,e⟩:=aT e;refine⟨aj,m,ρ,k,m1,S,M,e1,λH1 az g1 M1=>?_⟩;cases k with
 | true=>
  try dsimp only at e
  rw[ag rfl]at e ⊢;exact⟨aj,m1,az,d,af,S.mono M g1,M1,e,q.go g1⟩
 | false=>
  try dsimp only at e
  rw[ak d5]at e ⊢;exact⟨aj,m1,az,d,af,S.mono M g1,M1,e,q.go g1⟩
end
def eA(K:p4)(ρ:List Addr)(H:Hp)(ks:List Key)(ds:List D)(kvs:List (Key×V)):Prop:=kvs.map (·.1)=ks/\a7 K ρ H ds (kvs.map (·.2))
theorem eA.look:∀{kvs:List (Key×V)} {ks:List Key} {ds:List D} (k:Key),eA K ρ H ks ds kvs->(∀d,HB ks ds k=some d->∃v,KD kvs k=some v/\At K ρ H d v)/\(HB ks ds k=none->KD kvs k=none)
 | [],_,ds,k,bf=>by
  obtain⟨e,a⟩:=bf;subst e;cases ds with
  | nil=>exact⟨λd h=>by simp[HB]at h,λ_=>rfl⟩
  | cons d r=>obtain⟨_,_,e,_⟩:=a;simp at e
 | p::r,_,ds,k,bf=>by
  obtain⟨e,a⟩:=bf;subst e;cases ds with
  | nil=>exact absurd (show List.map (·.2) (p::r)=[] from a) (by simp)
  | cons d ds=>
   obtain⟨v,vr,e,a1,a2⟩:=a;simp only[cn,List.cons.injEq]at e;obtain⟨rfl,rfl⟩:=e;have ih:=eA.look (kvs:=r) k ⟨rfl,a2⟩
   by_cases hk:p.1=k
   .refine⟨λd' h=>?_,λh=>?_⟩
    .simp only[cn,HB,ag hk,Option.some.injEq]at h
     subst h;exact⟨_,JD hk,a1⟩
    .simp[cn,HB,ag hk]at h
   .refine⟨λd' h=>?_,λh=>?_⟩
    .simp only[cn,HB,ak hk]at h
     rw[J0 hk];exact ih.1 d' h
    .simp only[cn,HB,ak hk]at h
     rw[J0 hk];exact ih.2 h
theorem eA.rep{k:Key}(a:At K ρ H d v):∀{kvs:List (Key×V)} {ks:List Key} {ds:List D},eA K ρ H ks ds kvs->eA K ρ H ks (jW ks ds k d) (kvs.map λkv=>if kv.1=k then (kv.1,v) else kv)
 | [],_,ds,bf=>by
  obtain⟨e,b⟩:=bf;subst e;refine⟨rfl,?_⟩;simp[jW,a7]
 | p::r,_,ds,bf=>by
  obtain⟨e,b⟩:=bf;subst e;cases ds with
  | nil=>exact absurd (show List.map (·.2) (p::r)=[] from b) (by simp)
  | cons x ds=>
   obtain⟨w,vr,e,a1,a2⟩:=b;simp only[cn,List.cons.injEq]at e;obtain⟨rfl,rfl⟩:=e;obtain⟨h1,h2⟩:=eA.rep a (kvs:=r) (ds:=ds) ⟨rfl,a2⟩;refine⟨?_,?_⟩
   .simp only[cn]
    rw[h1];congr 1;split<;>rfl
   .simp only[cn,jW]
    refine⟨_,_,rfl,?_,h2⟩
    by_cases hk:p.1=k
    .simp only[ag hk];exact a
    .simp only[ak hk];exact a1
theorem eA.put{k:Key}(a:At K ρ H d v)(h:eA K ρ H ks ds kvs):eA K ρ H (putD ks ds k d).1 (putD ks ds k d).2 (putK kvs k v):=by
 have e:(ks.any λx=>decide (x=k))=kvs.any λkv=>decide (kv.1=k):=by rw[<-h.1,List.any_map];rfl
 unfold putD putK;rw[e];split
 .exact h.rep a
 .exact⟨by rw[dt,h.1];rfl,by rw[dt];exact h.2.snoc a⟩
theorem eA.AB:∀{more:List (Key×V)} {bj:List Key} {oD:List D} {kvs:List (Key×V)} {ks:List Key} {ds:List D},eA K ρ H ks ds kvs->eA K ρ H bj oD more->eA K ρ H (FT ks ds bj oD).1 (FT ks ds bj oD).2 (JT kvs more)
 | [],_,oD,kvs,ks,ds,h,bf=>by
  obtain⟨e,a⟩:=bf;subst e;have:FT ks ds [] oD=(ks,ds):=by cases oD<;>simp[FT]
  rw[List.map_nil,this];exact h
 | p::r,_,oD,kvs,ks,ds,h,bf=>by
  obtain⟨e,a⟩:=bf;subst e;cases oD with
  | nil=>exact absurd (show List.map (·.2) (p::r)=[] from a) (by simp)
  | cons x oD=>
   obtain⟨w,vr,e,a1,a2⟩:=a;simp only[cn,List.cons.injEq]at e;obtain⟨rfl,rfl⟩:=e;rw[cn];unfold FT;exact eA.AB (more:=r) (h.put a1) ⟨rfl,a2⟩
theorem eA.nil:eA K ρ H [] [] []:=⟨rfl,rfl⟩
theorem eA.dq{aa:Hp}{ρ':List Addr}(hf:J6 H aa)(hr:i8 ρ ρ'){ks:List Key}{ds:List D}{kvs:List (Key×V)}(h:eA K ρ H ks ds kvs):eA K ρ' aa ks ds kvs:=⟨h.1,h.2.dq hf hr⟩
theorem eN{x:V}{k:Key}(a:At K ρ H d x)(e:O5 d=some k):x=kV k:=by
 cases d<;>simp only[O5]at e<;>cases e<;>cases a<;>rfl
theorem T8(M:bp K ρ m H){x:V}(a:At K ρ H d x)(e:HN d m=some (ks,ds)):∃p kvs,x=.ref p/\Rd H p (.dK kvs)/\eA K ρ H ks ds kvs:=by
 cases d with
 | aq bj vs=>
  cases e;obtain⟨p,o,kvs,rfl,h,hk,as⟩:=a;exact⟨p,kvs,rfl,.inr ⟨o,h⟩,hk,as⟩
 | ao i=>
  obtain⟨p,hi,rfl⟩:=a;have e:(match m[i]? with | some (.aq ks vs)=>some (ks,vs) | _=>none)=some (ks,ds):=e;split at e
  .rename_i hm
   cases e;obtain⟨kvs,h,hk,as⟩:=M.at' i p _ hi hm;exact⟨p,kvs,rfl,.inl h,hk,as.dq (λ_ _ _ z=>z) (.take ρ i)⟩
  .cases e
 | _=>cases e
theorem J8(M:bp K ρ m H){x:V}(a:At K ρ H d x)(e:G5 d m=some ds):∃p vs,x=.ref p/\b9 K H p vs/\a7 K ρ H ds vs:=by
 cases d with
 | lst xs=>
  cases e;obtain⟨p,o,vs,rfl,h,as⟩:=a;exact⟨p,vs,rfl,.inl (.inr ⟨o,h⟩),as⟩
 | bP ns=>
  cases e;obtain⟨p,rfl,h⟩:=a;exact⟨p,_,rfl,h.sq,.ints ns⟩
 | ao i=>
  obtain⟨p,hi,rfl⟩:=a;have e:(match m[i]? with | some (.lst xs)=>some xs | _=>none)=some ds:=e;split at e
  .rename_i hm
   cases e;obtain⟨vs,h,as⟩:=M.at' i p _ hi hm;exact⟨p,vs,rfl,.of h,as.dq (λ_ _ _ z=>z) (.take ρ i)⟩
  .cases e
 | _=>cases e
theorem Eu(M:bp K ρ m H){x:V}(a:At K ρ H d x)(e:W9 d m=some ds):∃p vs,x=.ref p/\(b9 K H p vs\/dS K H p vs)/\a7 K ρ H ds vs:=by
 cases d with
 | tup xs=>
  cases e;obtain⟨p,vs,rfl,h,as⟩:=a;exact⟨p,vs,rfl,.inr h.sq,as⟩
 | lst xs=>obtain⟨p,vs,e,h,as⟩:=J8 M a (show G5 (.lst xs) m=some ds from e);exact⟨p,vs,e,.inl h,as⟩
 | bP xs=>obtain⟨p,vs,e,h,as⟩:=J8 M a (show G5 (.bP xs) m=some ds from e);exact⟨p,vs,e,.inl h,as⟩
 | ao xs=>obtain⟨p,vs,e,h,as⟩:=J8 M a (show G5 (.ao xs) m=some ds from e);exact⟨p,vs,e,.inl h,as⟩
 | _=>cases e
theorem a7.c9{ds:List D}{vs:List V}{i:Int}{d:D}(h:a7 K ρ H ds vs)(e:c9 ds i=some d):∃v,L2.c9 vs i=some v/\At K ρ H d v:=by
 unfold L2.c9 at e ⊢;obtain⟨j,e1,e2⟩:=aT e;obtain⟨v,e3,a⟩:=h.get e2;exact⟨v,by rw[h.len,e1];exact e3,a⟩
section
variable{a:Expr}{ps:i5}
def Rb(t:TA):TE:=λ σ H Q=>t σ H λxs H1=>xs.length<=sizeLine/\∀p o,H1 p=none->o.cls=.type "tuple"->o.dict=none->Q (.ref p) (upd H1 p (.bq o (.tup xs)))
theorem MZ{x1}(h:PA X es t):PE X (.Tuple es x1 pos) (Rb t):=by
 intro pi s σ H Q I hq;refine wpAny_Tuple_spliced (a9 (h pos pi s σ H _ I hq) λus s1 ⟨xs,H1,I1,r,z,q⟩=>⟨by rw[<-r.length];exact z,?_⟩);have hf:H1 s1.heap.objs.size=none:=I1.aS.fresh (a0 _);refine⟨.ref s1.heap.objs.size,upd H1 s1.heap.objs.size (.bq { cls:=.type "tuple",data:=.seq us.toArray } (.tup xs)),I1.laid (t':=s1.toks) (λb u e=>dg _ e) (a0 _) ?_,rfl,q _ _ hf rfl rfl⟩;exact⟨dj _ rfl,z,us,r,⟨_,dj _ rfl,rfl,_,rfl⟩⟩
theorem DX{x1}(h:PA X es (tw C X.K ps)):PE X (.Tuple es x1 pos) (tD C X.K (.tup ps)):=(MZ h).imp λ σ H Q ah=>by
 obtain⟨aj,m,ρ,d,af,S,M,e,q⟩:=ah;obtain⟨⟨xs,m1⟩,e1,e⟩:=aT e;dsimp only at e;split at e
 .rename_i hl
  cases e;exact⟨aj,m,ρ,xs,af,S,M,e1,λvs H1 az g1 M1 A1=>⟨JF (by rw[A1.len];lia),λp o hp hc hd=>(q.go g1).tup M1 A1 hp hc hd⟩⟩
 .cases e
theorem OD(h:PA X es (tw C X.K ps))(mu:Bool:=false):PE X (.List es pos) (tD C X.K (.lst mu ps)):=(ET h).qx λ σ H Q ah=>by
 obtain⟨aj,m,ρ,d,af,S,M,e,q⟩:=ah;obtain⟨⟨xs,m1⟩,e1,e⟩:=aT e;dsimp only at e;split at e
 .rename_i hl
  have aE:=cq e;have cg:en X.K ρ H (bw mu xs m1).1 (bw mu xs m1).2 Q:=by rw[aE];exact q
  exact⟨aj,m,ρ,xs,m1,S,M,e1,λvs H1 az g1 M1 A1=>⟨JF (by rw[A1.len];lia),λp hp=>(cg.go g1).lst M1 A1 hp⟩⟩
 .cases e
theorem My(mu:Bool:=false):PE X (.Dict [] [] pos) (tD C X.K (.Hu mu [] .nil)):=(oJ (X:=X)).qx λ σ H Q ah=>by
 obtain⟨aj,m,ρ,d,af,S,M,e,q⟩:=ah;have aE:gX mu [] [] m=(d,af):=cq (show some _=some _ from e);intro p hp;have cg:en X.K ρ H (gX mu [] [] m).1 (gX mu [] [] m).2 Q:=by rw[aE];exact q
 exact cg.aq M (kvs:=[]) rfl rfl hp
theorem Pd:zR X.K (λx y m=>(jz x y m).map λd=>(d,m)) (Kd X.K):=by
 intro ρ m af H dx dy d x y Q M ax ay e q;obtain⟨d',e0,aE⟩:=cj e;clear e;cases aE
 rename jz dx dy m=some d=>e
 cases dy with
 | int i=>
  cases ay;cases dx with
  | tup xs=>
   obtain⟨p,vs,rfl,h,as⟩:=ax;obtain⟨v,e1,a1⟩:=as.c9 (show c9 xs i=some d from e);exact .inr (.inl ⟨p,vs,i,v,rfl,rfl,h.sq,e1,.of (q.here M a1)⟩)
  | lst xs=>
   obtain⟨p,vs,rfl,h,as⟩:=J8 M ax (show G5 (.lst xs) m=some xs from rfl);obtain⟨v,e1,a1⟩:=as.c9 (show c9 xs i=some d from e);exact .inl ⟨p,vs,i,v,rfl,rfl,h,e1,.of (q.here M a1)⟩
  | bP ns=>
   obtain⟨p,vs,rfl,h,as⟩:=J8 M ax (show G5 (.bP ns) m=some (ns.map .int) from rfl);obtain⟨n,e0,BN⟩:=cj (show (c9 ns i).map D.int=some d from e);subst BN;have e2:c9 (ns.map D.int) i=some (.int n):=by
    unfold c9 at e0 ⊢;obtain⟨j,e3,e4⟩:=aT e0;rw[a8,e3];show (ns.map D.int)[j]?=_;rw[gi,e4];rfl
   obtain⟨v,e1,a1⟩:=as.c9 e2;exact .inl ⟨p,vs,i,v,rfl,rfl,h,e1,.of (q.here M a1)⟩
  | str z=>
   cases ax;have e:(if z.length<=1000 then (c9 z.cps.toList i).map λc=>D.str ⟨#[c]⟩ else none)=some d:=e;split at e
   .rename_i hl
    obtain⟨c,e0,BN⟩:=cj e;subst BN;exact .inr (.inr ⟨z,i,c,rfl,rfl,JF (by lia),e0,.of (q.here M rfl)⟩)
   .cases e
  | ao r=>
   have e:(match m[r]? with | some (.lst xs)=>c9 xs i | _=>none)=some d:=e;split at e
   .rename_i xs hm
    obtain⟨p,vs,rfl,h,as⟩:=J8 M ax (show G5 (.ao r) m=some xs by show (match m[r]? with | some (.lst xs)=>some xs | _=>none)=some xs;rw[hm]);obtain⟨v,e1,a1⟩:=as.c9 e;exact .inl ⟨p,vs,i,v,rfl,rfl,h,e1,.of (q.here M a1)⟩
   .cases e
  | _=>cases e
 | _=>cases dx<;>cases e
theorem CW(ha:PE X a (tD C X.K pa))(hb:PE X b (tD C X.K pb))(hs:mZ b:=by unfold mZ;intro _ _;kernel_rfl):PE X (.Subscript a b pos) (tD C X.K (.ix pa pb)):=S8 (Rv Qm ha hb hs) Pd λ_ _=>rfl
theorem jQ(ha:PE X a (tD C X.K pa))(hb:PE X b (tD C X.K pb))(hu:X.A.units+1<cLine:=by assumption)(hs:yA b:=by unfold yA;intro _ _;kernel_rfl):PE X (.Subscript a b pos) (tD C X.K (.sF pa pb)):=
 S8 (r:=λx y H Q=>∃a v,x=.ref a/\j0 H a y (some v)/\Q v H) (f:=λx y m2=>(HN x m2).bind λz=>(O5 y).bind λk=>(HB z.1 z.2 k).map λd=>(d,m2)) (vB hu ha hb hs) (by
  intro ρ m af H dx dy d x y Q M ax ay e q;obtain⟨⟨ks,ds⟩,e1,e⟩:=aT e;obtain⟨k,e2,e⟩:=aT e;obtain⟨d',e3,e⟩:=cj e;cases e;obtain⟨p,kvs,rfl,hr,ka⟩:=T8 M ax e1;obtain⟨v,e4,a4⟩:=(ka.look k).1 _ e3;exact⟨p,v,rfl,.inl ⟨kvs,k,hr,eN ay e2,e4.symm⟩,.of (q.here M a4)⟩) λ_ _=>rfl
def Br(K:p4):V->Option Int->Option Int->Hp->VK->Prop:=λx lo hi H Q=>∃a xs,x=.ref a/\ma K H a xs/\
 ((HT.bt xs.length 0 lo=0/\HT.bt xs.length xs.length hi=xs.length)->Q (.ref a) H)/\(¬(HT.bt xs.length 0 lo=0/\HT.bt xs.length xs.length hi=xs.length)->∀p o,H p=none->o.cls=.type "tuple"->o.dict=none->Q (.ref p) (upd H p (.bq o (.tup (pH xs lo hi)))))
end
section
variable{a:Expr}{ps:i5}{id:String}
def fX(X:Cx)(k:B1)(r:List V->Hp->VK->Prop):Prop:=GV X.K (de k) (λx H Q=>r [x] H Q)
theorem bT{k:B1}(hc:fI X (.builtin id) r)(hs:fX X k r)(hv:bootBuiltins x=some (.builtin id))(hg:Gl X x)(hm:X.mg x=none)(ha:PE X a (tD C X.K pa))(hn:x≠"__name__":=by decide)(jc:(x==("__debug__" : Str))=false:=by decide)(he:starEach [a] X.env=[(false,eval a X.env)]:=by rfl):PE X (.Call (.Name x p) [a] [] pos) (tD C X.K (.b1 k pa)):=
 bO (r:=λx H Q=>r [x] H Q) (oK hc hg hm hv (J7 ha JR he) hn jc he rfl) hs λ_ _=>rfl
theorem nQ{k:B1}(hc:fI X (.type id) r)(hs:fX X k r)(hv:bootBuiltins x=some (.type id))(hg:Gl X x)(hm:X.mg x=none)(ha:PE X a (tD C X.K pa))(hn:x≠"__name__":=by decide)(jc:(x==("__debug__" : Str))=false:=by decide)(he:starEach [a] X.env=[(false,eval a X.env)]:=by rfl):PE X (.Call (.Name x p) [a] [] pos) (tD C X.K (.b1 k pa)):=
 bO (r:=λx H Q=>r [x] H Q) (xY hc hg hm hv (J7 ha JR he) hn jc he rfl) hs λ_ _=>rfl
theorem eG(h:eA K ρ H ks ds kvs):ks.length=kvs.length:=by rw[<-h.1,a8]
def Bs(K:p4):List V->Hp->VK->Prop:=λxs H Q=>(∃x n,xs=[x]/\GW K x H n/\Q (.int n) H)\/∃a kvs,xs=[V.ref a]/\Rd H a (.dK kvs)/\Q (.int kvs.length) H
theorem zG:fI X (.builtin "len") (Bs X.K):=by
 refine Tr.or ?_;intro pi s σ H xs us Q I r h;obtain⟨a,kvs,rfl,ha,q⟩:=h;obtain⟨u,rfl,ru⟩:=vals1 r;cases ru;exact Sh I ha λt s' iq=>⟨.int kvs.length,H,iq,⟨t,rfl⟩,q⟩
theorem Ml:fX X .len (Bs X.K):=by
 intro ρ m af H dx d x Q M ax e q;have gen:∀{dx:D},At X.K ρ H dx x->(match W9 dx m,HN dx m with
  | some xs,_=>some (D.int xs.length,m)
  | none,some (ks,_)=>some (.int ks.length,m)
  | none,none=>none)=some (d,af)->Bs X.K [x] H (Fz Q):=λ {dx} ax e=>by
  split at e
  .rename_i xs hs
   cases e;obtain⟨p,vs,rfl,h,as⟩:=Eu M ax hs;refine .inl ⟨_,vs.length,rfl,?_,.of (q.here M (by rw[as.len];rfl))⟩;rcases h with h | h
   .exact .inl ⟨vs,h,rfl⟩
   .exact .inr ⟨vs,h,rfl⟩
  .rename_i ks ds _ hs
   cases e;obtain⟨p,kvs,rfl,h,ka⟩:=T8 M ax hs;exact .inr ⟨p,kvs,rfl,h,.of (q.here M (by rw[eG ka];rfl))⟩
  .cases e
 cases dx with
 | str z=>
  cases ax;have e:(if z.length<=1000 then some (D.int z.length,m) else none)=some (d,af):=e;split at e
  .rename_i hl
   cases e;exact .inl ⟨_,z.length,rfl,⟨JF (by lia),rfl⟩,.of (q.here M rfl)⟩
  .cases e
 | _=>exact gen ax e
theorem rJ(ha:PE X a (tD C X.K pa))(hg:Gl X "len":=by kernel_rfl)(hm:X.mg "len" = none:=by assumption)(he:starEach [a] X.env=[(false,eval a X.env)]:=by kernel_rfl):PE X (.Call (.Name "len" p) [a] [] pos) (tD C X.K (.b1 .len pa)):=bT zG Ml PySem.boot_len hg hm ha (by decide) (by decide) he
theorem Lb:fX X (.list mu) (λxs H Q=>∃p ys,xs=[.ref p]/\(b9 X.K H p ys\/dS X.K H p ys)/\∀l,H l=none->Q (.ref l) (upd H l (.lst ys))):=by
 intro ρ m af H dx d x Q M ax e q;obtain⟨xs,e1,e⟩:=cj (show (W9 dx m).map (λxs=>bw mu xs m)=some (d,af) from e);obtain⟨p,vs,rfl,h,as⟩:=Eu M ax e1;have cg:en X.K ρ H (bw mu xs m).1 (bw mu xs m).2 Q:=by rw[e];exact q
 exact⟨p,vs,rfl,h,λl hl=>cg.lst M as hl⟩
theorem jP(ha:PE X a (tD C X.K pa))(mu:Bool:=false)(hg:Gl X "list":=by kernel_rfl)(hm:X.mg "list" = none:=by assumption)(he:starEach [a] X.env=[(false,eval a X.env)]:=by kernel_rfl):PE X (.Call (.Name "list" p) [a] [] pos) (tD C X.K (.b1 (.list mu) pa)):=nQ m8 Lb PyProof.Rows.boot_list hg hm ha (by decide) (by decide) he
def rO(K:p4):List V->Hp->VK->Prop:=λxs H Q=>(∃p ys,xs=[.ref p]/\b9 K H p ys/\∀l o,H l=none->o.cls=.type "tuple"->o.dict=none->Q (.ref l) (upd H l (.bq o (.tup ys))))\/∃a ys,xs=[.ref a]/\dS K H a ys/\Q (.ref a) H
theorem pP:fI X (.type "tuple") (rO X.K):=Ts.or pQ
theorem xP:fX X .tuple (rO X.K):=by
 intro ρ m af H dx d x Q M ax e q;have gen:∀{dx:D},At X.K ρ H dx x->((G5 dx m).map λxs=>(D.tup xs,m))=some (d,af)->rO X.K [x] H (Fz Q):=λ {dx} ax e=>by
  obtain⟨xs,e1,e⟩:=cj e;cases e;obtain⟨p,vs,rfl,h,as⟩:=J8 M ax e1;exact .inl ⟨p,vs,rfl,h,λl o hl hc hd=>.of (q.tup M as hl hc hd)⟩
 cases dx with
 | tup xs=>
  cases e;obtain⟨p,vs,rfl,h,as⟩:=ax;exact .inr ⟨p,vs,rfl,h.sq,.of (q.here M ⟨p,vs,rfl,h,as⟩)⟩
 | _=>exact gen ax e
theorem J9(ha:PE X a (tD C X.K pa))(hg:Gl X "tuple":=by kernel_rfl)(hm:X.mg "tuple" = none:=by assumption)(he:starEach [a] X.env=[(false,eval a X.env)]:=by kernel_rfl):PE X (.Call (.Name "tuple" p) [a] [] pos) (tD C X.K (.b1 .tuple pa)):=nQ pP xP PyProof.Rows.boot_tuple hg hm ha (by decide) (by decide) he
theorem Mm:fX X .int (λxs H Q=>(∃i,xs=[.int i]/\Q (.int i) H)\/∃k,xs=[.bl k]/\Q (.int (if k then 1 else 0)) H):=by
 intro ρ m af H dx d x Q M ax e q;cases dx with
 | int i=>cases e;cases ax;exact .inl ⟨i,rfl,.of (q.here M rfl)⟩
 | bl k=>cases e;cases ax;exact .inr ⟨k,rfl,.of (q.here M (by cases k<;>rfl))⟩
 | _=>cases e
theorem Mw(ha:PE X a (tD C X.K pa))(hg:Gl X "int":=by kernel_rfl)(hm:X.mg "int" = none:=by assumption)(he:starEach [a] X.env=[(false,eval a X.env)]:=by kernel_rfl):PE X (.Call (.Name "int" p) [a] [] pos) (tD C X.K (.b1 .int pa)):=nQ zH Mm PyProof.Rows.boot_int hg hm ha (by decide) (by decide) he
theorem eF:∀{ds:List D} {vs:List V} {ns:List Int},intsOf ds=some ns->a7 K ρ H ds vs->vs=ns.map V.int/\ds.length=ns.length
 | [],_,_,e,a=>by cases e;cases (show _=[] from a);exact⟨rfl,rfl⟩
 | d::r,_,_,e,bf=>by
  obtain⟨v,vr,ev,a1,as⟩:=bf;subst ev;cases d with
  | int i=>
   obtain⟨sQ,e1,rfl⟩:=cj (show (intsOf r).map (i::·)=some _ from e);cases a1;obtain⟨h1,h2⟩:=eF e1 as;exact⟨by rw[h1];rfl,by simp[h2]⟩
  | _=>cases e
theorem Ny{x:Int}(h:rT ns=some x){y:Int}(hy:y∈ns)(hm:∀a∈ns,a<=y):y=x:=by
 have fold:∀(r:List Int) (a:Int),(r.foldl (λx y=>if y > x then y else x) a∈a::r)/\∀z∈a::r,z<=r.foldl (λx y=>if y > x then y else x) a:=by
  intro r
  induction r with
  | nil=>intro a;exact⟨by simp,λz hz=>by simp at hz;subst hz;exact Int.le_refl _⟩
  | cons b r ih=>
   intro a;rw[List.foldl_cons];obtain⟨h1,h2⟩:=ih (if b > a then b else a);refine⟨?_,λz hz=>?_⟩
   .rcases ck h1 with h1 | h1
    .rw[h1];split<;>simp
    .exact b7 _ (b7 _ h1)
   .have h3:=h2 _ b0
    rcases ck hz with rfl | hz
    .refine Int.le_trans ?_ h3;split<;>lia
    .rcases ck hz with rfl | hz
     .refine Int.le_trans ?_ h3;split<;>lia
     .exact h2 z (b7 _ hz)
 cases ns with
 | nil=>cases h
 | cons a r=>
  have e:r.foldl (λx y=>if y > x then y else x) a=x:=cq h;obtain⟨h1,h2⟩:=fold r a;rw[e]at h1 h2;have:=h2 y hy;have:=hm x h1;lia
theorem Mk:fX X .max (λxs H Q=>∃(a:Addr) (ns:List Int),xs=[.ref a]/\b9 X.K H a (ns.map V.int)/\0<ns.length/\∀M,M∈ns->(∀a,a∈ns->a<=M)->Q (.int M) H):=by
 intro ρ m af H dx d x Q M ax e q;obtain⟨xs,e1,e⟩:=aT (show ((G5 dx m).bind λxs=>(intsOf xs).bind λns=>(rT ns).map λx=>(D.int x,m))=some (d,af) from e);obtain⟨ns,e2,e⟩:=aT e;obtain⟨y,e3,e⟩:=cj e;cases e;obtain⟨p,vs,rfl,h,as⟩:=J8 M ax e1;obtain⟨rfl,_⟩:=eF e2 as;refine⟨p,ns,rfl,h,?_,λz hz hm=>.of (q.here M (by rw[Ny e3 hz hm];rfl))⟩;cases ns with
 | nil=>cases e3
 | cons _ _=>exact Nat.succ_pos _
theorem Po(ha:PE X a (tD C X.K pa))(hc:X.calm=true:=by kernel_rfl)(hg:Gl X "max":=by kernel_rfl)(hm:X.mg "max" = none:=by assumption)(he:starEach [a] X.env=[(false,eval a X.env)]:=by kernel_rfl):PE X (.Call (.Name "max" p) [a] [] pos) (tD C X.K (.b1 .max pa)):=bT (fU hc) Mk PyProof.Rows.boot_max hg hm ha (by decide) (by decide) he
theorem uK(ha:PE X a (tD C X.K pa))(hb:PE X b (tD C X.K pb))(hc:X.calm=true:=by kernel_rfl)(hg:Gl X "max":=by kernel_rfl)(hm:X.mg "max" = none:=by assumption)(he:starEach [a,b] X.env=[(false,eval a X.env),(false,eval b X.env)]:=by kernel_rfl)(uo:starEach [b] X.env=[(false,eval b X.env)]:=by kernel_rfl):
  PE X (.Call (.Name "max" p) [a,b] [] pos) (tD C X.K (.max2 pa pb)):=
 S8 (r:=λx y H Q=>∃i j,[x,y]=[.int i,.int j]/\Q (.int (if j > i then j else i)) H) (f:=λx y m2=>match x,y with | .int i,.int j=>some (.int (if j > i then j else i),m2) | _,_=>none)
  (oK (zF hc) hg hm PyProof.Rows.boot_max (J7 ha (J7 hb JR uo) (by rw[he,uo])) (by decide) (by decide) (by rw[he,uo]) (by rw[uo];rfl)) (by
  intro ρ m af H dx dy d x y Q M ax ay e q;cases dx<;>cases dy<;>simp only at e<;>try (cases e;done)
  cases e;cases ax;cases ay;exact⟨_,_,rfl,.of (q.here M rfl)⟩) λ_ _=>rfl
theorem QM:∀{ds:List D} {vs:List V} {ks:List Key} {us:List D},pairsOf ds=some (ks,us)->a7 K ρ H ds vs->∃kvs,zT K H vs kvs/\eA K ρ H ks us kvs
 | [],_,_,_,e,a=>by
  cases e;cases (show _=[] from a);exact⟨[],.nil,eA.nil⟩
 | d::r,_,ks,us,e,bf=>by
  obtain⟨v,vr,ev,a1,as⟩:=bf;subst ev;unfold pairsOf at e;split at e
  .rename_i hd;cases hd
  .rename_i k u bE hd
   cases hd;split at e
   .rename_i uB bj tF hk hr
    cases e;obtain⟨kvs,h1,h2⟩:=QM hr as;obtain⟨p,ws,rfl,ht,aw⟩:=a1;obtain⟨x,xr,rfl,ax,y,yr,rfl,ay,hn⟩:=aw;cases (show _=[] from hn);refine⟨(uB,y)::kvs,.cons ⟨p,rfl,?_⟩ h1,by rw[cn,h2.1],by rw[cn];exact⟨y,_,rfl,ay,h2.2⟩⟩;have:=eN ax hk;subst this;exact ht.sq
   .cases e
  .cases e
theorem Lc:fX X (.dict mu) (λxs H Q=>∃a o vs kvs,xs=[.ref a]/\(H a=some (.bq o (.tup vs))\/(X.K.lookup a=some o/\∃(its:Array Value) (n:Nat),o.data=.seq its n/\its.size<=sizeLine/\Vals vs its.toList))/\o.cls=.type "tuple"/\o.dict=none/\zT X.K H vs kvs/\kvs.length<=1000/\∀p,H p=none->Q (.ref p) (upd H p (.dK (JT [] kvs)))):=by
 intro ρ m af H dx d x Q M ax e q;cases dx with
 | tup xs=>
  obtain⟨⟨ks,us⟩,e1,e⟩:=aT (show ((pairsOf xs).bind λz=>if z.1.length<=1000 then some (gX mu (FT [] [] z.1 z.2).1 (FT [] [] z.1 z.2).2 m) else none)=some (d,af) from e);split at e
  .rename_i hl
   have aE:=cq e;obtain⟨p,vs,rfl,⟨o,hc,hd,ht⟩,as⟩:=ax;obtain⟨kvs,h1,h2⟩:=QM e1 as;have cg:en X.K ρ H (gX mu (FT [] [] ks us).1 (FT [] [] ks us).2 m).1 (gX mu (FT [] [] ks us).1 (FT [] [] ks us).2 m).2 Q:=by rw[aE];exact q
   have h3:=eA.AB (eA.nil (K:=X.K) (ρ:=ρ) (H:=H)) h2;exact⟨p,o,vs,kvs,rfl,ht,hc,hd,h1,by rw[<-eG h2];exact hl,λl hl=>cg.aq M h3.1 h3.2 hl⟩
  .cases e
 | _=>cases e
theorem tH(hc:X.calm=true):fI X (.type "dict") (λxs H Q=>∃a o vs kvs,xs=[.ref a]/\(H a=some (.bq o (.tup vs))\/(X.K.lookup a=some o/\∃(its:Array Value) (n:Nat),o.data=.seq its n/\its.size<=sizeLine/\Vals vs its.toList))/\o.cls=.type "tuple"/\o.dict=none/\zT X.K H vs kvs/\kvs.length<=1000/\∀p,H p=none->Q (.ref p) (upd H p (.dK (JT [] kvs)))):=by
 intro pi s σ H xs us Q I r h;obtain⟨a,o,vs,kvs,rfl,ha,dA,hd,hp,hz,q⟩:=h;obtain⟨u,rfl,ru⟩:=vals1 r;cases ru;have key:∃(its:List Value) (m:Nat),s.heap.get? a=some o/\Vals vs its/\o.data=.seq its.toArray m:=by
  rcases ha with ha | ⟨hk,its,n,fS,_,rv⟩
  .obtain⟨e,z,its,rv,b5,aE,df,m,fS⟩:=I.aS a _ ha
   rw[e]at aE;cases aE;exact⟨its,m,e,rv,fS⟩
  .exact⟨its.toList,n,I.sL a o hk,rv,by simpa using fS⟩
 obtain⟨its,m,e,rv,fS⟩:=key;obtain⟨ps,CH,C7⟩:=ER I hp rv;have hl:its.length=kvs.length:=by rw[<-rv.length];exact Paired.length hp
 refine Oh (I.ok.hd hc) e dA hd fS C7 (by lia) I.big λh' tk hD hk=>?_
 have I2:Inv X pi σ (upd H s.heap.objs.size (.dK (JT [] kvs))) { s with heap:=h',toks:=tk }:=I.laid (λb ob e=>hk b ob e) (a0 _) ?_
 .exact⟨.ref _,_,I2,rfl,q _ (I.aS.fresh (a0 _))⟩
 .refine lQ ?_ ?_ (Z9 kvs (P:=X.prog) (w:=X.w) CH .nil) hD
  .have:=M6 kvs []
   simp only[List.length_nil]at this;rw[fq];lia
  .have:=I.big
   simp only[beq_eq_false_iff_ne];exact iS this
theorem aH(ha:PE X a (tD C X.K pa))(mu:Bool:=false)(hc:X.calm=true:=by kernel_rfl)(hg:Gl X "dict":=by kernel_rfl)(hm:X.mg "dict" = none:=by assumption)(he:starEach [a] X.env=[(false,eval a X.env)]:=by kernel_rfl):PE X (.Call (.Name "dict" p) [a] [] pos) (tD C X.K (.b1 (.dict mu) pa)):=nQ (tH hc) Lc PyProof.Rows.boot_dict hg hm ha (by decide) (by decide) he
end
theorem GK(i:Nat)(hN:X.N.Nodup:=by assumption)(hi:X.N[i]?=some x:=by kernel_rfl)(hx:yx X.env.scope x=true:=by kernel_rfl)(hf:B3 X x=true:=by kernel_rfl):PG X (.Name x pos) (oe X.K (.nm i)):=by
 intro pi s σ H v u Q I r h;obtain⟨aj,ρ,d,ky,S,a,e,q⟩:=h;cases e;exact kW hN hi (EZ hx) (vJ hf) pi s σ H v u Q I r (q _ (S.set i a))
theorem _root_.L2.PG.imp{t t':TG}(h:PG X tg t)(hi:∀v σ H Q,t' v σ H Q->t v σ H Q):PG X tg t':=λpi s σ H v u Q I r q=>h pi s σ H v u Q I r (hi v σ H Q q)
theorem uL(h:t8 H aa):Go ρ ρ H aa:=⟨λb o e _=>h b o e,List.prefix_rfl,λ_ e=>.inl e⟩
theorem bp.same(M:bp K ρ m H)(h:t8 H aa):bp K ρ m aa:=M.keep (λa o u e=>h a _ e) λa ha=>by
 obtain⟨u,e,_⟩:=M.there ha;rw[e,h a u e]
def WalkAt(K:p4)(w:Walk)(J:It)(ρ:List Addr)(H:Hp):Prop:=∀(i:Nat) (ρ':List Addr) (af:Mem) (aa:Hp),J6 H aa->i8 ρ ρ'->bp K ρ' af aa->w.ok af=true->
 (∀d,w.xs[i]?=some d->J.go i aa/\∀x H2,J.yo i aa x H2->t8 aa H2/\At K ρ' H2 d x)/\(w.xs.length<=i->J.stop i aa)
def lT(C:String->List D->Mem->Option (D×Mem))(K:p4)(p:Ie):TI:=λ σ H R=>∃aj m ρ w af,eQ K ρ H aj σ/\bp K ρ m H/\ei C p aj m=some (w,af)/\∀J aa ρ',Go ρ ρ' H aa->bp K ρ' af aa->WalkAt K w J ρ' aa->R J aa
section
variable{a:Expr}
theorem _root_.L2.PI.imp(h:PI X tg a wi)(hi:∀σ H R,Ky σ H R->wi σ H R):PI X tg a Ky:=λpi s σ H R I q=>h pi s σ H R I (hi σ H R q)
def SH(K:p4)(tl:TE):TI:=λ σ H R=>tl σ H λx H1=>∃a,x=.ref a/\(((∃xs,b9 K H1 a xs)/\R (BA K a) H1)\/((∃xs,dS K H1 a xs)/\R (y2 K a) H1))
theorem PY{l:Expr}(hl:PE X l tl):PI X tg l (SH X.K tl):=by
 intro pi s σ H R I h;refine a9 (hl pi s σ H _ I h) λv s1 ah=>?_
 obtain⟨x,H1,I1,r1,q1⟩:=ah;obtain⟨a,e,q1⟩:=q1;subst e;cases r1;have fin:∀b∈[s1.heap.objs.size],PL X pi H1 b:=λb hb=>by
  have e:b=s1.heap.objs.size:=by simpa using hb
  subst e;exact I1.nK (a0 _) (I1.aS.fresh (a0 _))
 rcases q1 with ⟨⟨xs,hq⟩,q⟩ | ⟨⟨xs,hq⟩,q⟩
 .obtain⟨its,rv,p,hz⟩:=I1.list hq
  refine wpAny_pyIter_list p.isList ?_;exact⟨s1.heap.objs.size,[s1.heap.objs.size],_,_,H1,rfl,I1.kept (t':=s1.toks) λb o e=>dg _ e,xH a _,⟨_,dj _ rfl,rfl,rfl⟩,fin,q⟩
 .obtain⟨its,rv,p,hz⟩:=I1.tuple hq
  refine wpAny_pyIter_tuple (show s1.heap.IsTuple a its.toArray from p) ?_;exact⟨s1.heap.objs.size,[s1.heap.objs.size],_,_,H1,rfl,I1.kept (t':=s1.toks) λb o e=>dg _ e,bB a _,⟨_,dj _ rfl,rfl,rfl⟩,fin,q⟩
theorem qW{w:Walk}{a:Addr}(h:∀ρ' af aa,J6 H aa->i8 ρ ρ'->bp K ρ' af aa->w.ok af=true->∃vs,b9 K aa a vs/\a7 K ρ' aa w.xs vs):WalkAt K w (BA K a) ρ H:=by
 intro i ρ' af aa hf hr M ok;obtain⟨vs,hs,as⟩:=h ρ' af aa hf hr M ok;refine⟨λd e=>?_,λhl=>⟨vs,hs,by rw[as.len];exact hl⟩⟩;obtain⟨v,e1,a1⟩:=as.get e;refine⟨⟨vs,v,hs,e1⟩,λx H2 y=>?_⟩;obtain⟨rfl,y⟩:=y;have:=y vs hs;rw[e1]at this;cases this;exact⟨.refl _,a1⟩
theorem OU{w:Walk}{a:Addr}(h:∀ρ' af aa,J6 H aa->i8 ρ ρ'->bp K ρ' af aa->w.ok af=true->∃vs,dS K aa a vs/\a7 K ρ' aa w.xs vs):WalkAt K w (y2 K a) ρ H:=by
 intro i ρ' af aa hf hr M ok;obtain⟨vs,hs,as⟩:=h ρ' af aa hf hr M ok;refine⟨λd e=>?_,λhl=>⟨vs,hs,by rw[as.len];exact hl⟩⟩;obtain⟨v,e1,a1⟩:=as.get e;refine⟨⟨vs,v,hs,e1⟩,λx H2 y=>?_⟩;obtain⟨rfl,y⟩:=y;have:=y vs hs;rw[e1]at this;cases this;exact⟨.refl _,a1⟩
theorem JB(ha:PE X a (tD C X.K pa)):PI X tg a (lT C X.K (.seq pa)):=(PY ha).imp λ σ H R ah=>by
 obtain⟨aj,m,ρ,w,af,S,M,e,q⟩:=ah;obtain⟨⟨x,m1⟩,e1,e⟩:=aT e;obtain⟨xs,e2,e⟩:=cj e;cases e;refine⟨aj,m,ρ,x,af,S,M,e1,λv H1 az g1 M1 A1=>?_⟩;cases x with
 | tup ys=>
  cases e2;obtain⟨p,vs,rfl,h,as⟩:=A1;exact⟨p,rfl,.inr ⟨⟨vs,h.sq⟩,q _ H1 az g1 M1 (OU λ ρ' u3 aa hf hr i7 _=>⟨vs,(h.mono hf).sq,as.dq hf hr⟩)⟩⟩
 | lst ys=>
  cases e2;obtain⟨p,o,vs,rfl,h,as⟩:=A1;exact⟨p,rfl,.inl ⟨⟨vs,.inl (.inr ⟨o,h⟩)⟩,q _ H1 az g1 M1 (qW λ ρ' u3 aa hf hr i7 _=>⟨vs,.inl (.inr ⟨o,hf _ _ _ h⟩),as.dq hf hr⟩)⟩⟩
 | bP ns=>
  cases e2;obtain⟨p,rfl,h⟩:=A1;exact⟨p,rfl,.inl ⟨⟨_,h.sq⟩,q _ H1 az g1 M1 (qW λ ρ' u3 aa hf hr i7 _=>⟨_,(h.mono hf).sq,.ints ns⟩)⟩⟩
 | ao i=>
  obtain⟨p,vs,e,h,as⟩:=J8 M1 A1 (show G5 (.ao i) af=some xs from e2);subst e;obtain⟨fA,hi,e⟩:=A1;cases e;refine⟨p,rfl,.inl ⟨⟨vs,h⟩,q _ H1 az g1 M1 (qW λ ρ' u3 aa hf hr i7 ok=>?_)⟩⟩;have ok:(match u3[i]? with | some (.lst ys)=>D.kb xs ys | _=>false)=true:=ok;split at ok
  .rename_i ys hm
   have:=D.wj ok;subst this;obtain⟨us,hu,bs⟩:=i7.at' i p _ (hr _ _ hi) hm;exact⟨us,.of hu,bs.dq (λ_ _ _ z=>z) (.take ρ' i)⟩
  .cases ok
 | _=>cases e2
theorem bK(ha:PE X a (tD C X.K pa))(hg:Gl X "range":=by kernel_rfl)(hm:X.mg "range" = none:=by assumption)(hs:starEach [a] X.env=[(false,eval a X.env)]:=by kernel_rfl):PI X tg (.Call (.Name "range" p) [a] [] pos) (lT C X.K (.kQ pa)):=
 (xV hg hm (J7 ha JR hs) hs).imp λ σ H R ah=>by
 obtain⟨aj,m,ρ,w,af,S,M,e,q⟩:=ah;obtain⟨⟨x,m1⟩,e1,e⟩:=aT e;cases x with
 | int j=>
  have e:(if -(2 ^ 62)<=j/\j<2 ^ 62 then some ((⟨(List.range j.toNat).map λ(i:Nat)=>.int i,none⟩:Walk),m1) else none)=some (w,af):=e;split at e
  .rename_i hj
   cases e;refine⟨aj,m,ρ,_,af,S,M,e1,λv H1 az g1 M1 A1=>?_⟩;cases A1;refine⟨j,rfl,hj.1,hj.2,q _ H1 az g1 M1 λi ρ' u3 aa hf hr i7 ok=>⟨λd e=>?_,λhl=>?_⟩⟩
   .have hi:i<j.toNat:=by
     have:=(List.getElem?_eq_some_iff.mp e).1;simpa using this
    have ed:d=.int i:=by
     have:((List.range j.toNat).map λ(i:Nat)=>D.int i)[i]?=some d:=e;rw[gi,List.getElem?_range hi]at this;exact(cq this).symm
    subst ed;refine⟨hi,λx H2 y=>?_⟩;obtain⟨rfl,rfl⟩:=y;exact⟨.refl _,by rw[Int.zero_add];rfl⟩
   .show j.toNat<=i
    simpa using hl
  .cases e
 | _=>cases e
theorem iM:∀(xs:List D) (n i:Nat),(V6 xs n)[i]?=(xs[i]?).map λd=>.tup [.int ((n+i:Nat):Int),d]
 | [],n,i=>by simp[V6]
 | x::r,n,0=>by simp[V6]
 | x::r,n,i+1=>by
  simp only[V6,List.getElem?_cons_succ];rw[iM r (n+1) i,show n+1+i=n+(i+1) by lia]
theorem iK:∀(xs:List D) (n:Nat),(V6 xs n).length=xs.length
 | [],_=>rfl
 | _::r,n=>by simp[V6,iK r (n+1)]
theorem Ms{k:Nat}{pt:Pos}(ha:PE X a (tD C X.K pa))(hg:Gl X "enumerate":=by kernel_rfl)(hm:X.mg "enumerate" = none:=by assumption)(hs:starEach [a] X.env=[(false,eval a X.env)]:=by kernel_rfl):PI X (.Tuple elts k pt) (.Call (.Name "enumerate" p) [a] [] pos) (lT C X.K (.enum pa)):=
 (MY hg hm (J7 ha JR hs) hs).imp λ σ H R ah=>by
 obtain⟨aj,m,ρ,w,af,S,M,e,q⟩:=ah;obtain⟨⟨x,m1⟩,e1,e⟩:=aT e;cases x with
 | lst xs=>
  cases e;refine⟨aj,m,ρ,_,af,S,M,e1,λv H1 az g1 M1 A1=>?_⟩;obtain⟨p,o,vs,rfl,h,as⟩:=A1;refine⟨p,rfl,⟨vs,.inl (.inr ⟨o,h⟩)⟩,q _ H1 az g1 M1 λi ρ' u3 aa hf hr i7 ok=>?_⟩;have h':b9 X.K aa p vs:=.inl (.inr ⟨o,hf _ _ _ h⟩);have Tf:=as.dq (ρ':=ρ') hf hr;refine⟨λd e=>?_,λhl=>⟨vs,h',by rw[as.len];rw[iK]at hl;exact hl⟩⟩;have e:(V6 xs 0)[i]?=some d:=e;rw[iM]at e;obtain⟨d',aE,rfl⟩:=cj e;obtain⟨v,e3,a3⟩:=Tf.get aE;refine⟨⟨vs,v,h',e3⟩,λx H2 y=>?_⟩;obtain⟨l,y,hl,rfl,⟨ob,hc,hd,rfl⟩,hy⟩:=y;have:=hy vs h';rw[e3]at this;cases this;have mP:t8 aa (upd aa l (.bq ob (.tup [.int i,v]))):=λb u z=>by rw[CK (G4 z hl)];exact z
  have zy:J6 aa (upd aa l (.bq ob (.tup [.int i,v]))):=qX hl;exact⟨mP,l,_,rfl,⟨ob,hc,hd,.inl DP⟩,_,_,rfl,by rw[Nat.zero_add];rfl,_,_,rfl,a3.dq zy (.refl _),rfl⟩
 | _=>cases e
end
section
variable{a i v:Expr}{pd pk pv:Ex}{rest:List Stmt}{s:Sm}{r:bg}
theorem BZ:eP X [] (Y9 C W X.K .nil):=(uZ (X:=X)).imp λE σ H ah=>by
 obtain⟨aj,m,ρ,o,af,S,M,e,q⟩:=ah;cases e;exact q H ρ (.refl _ _) M σ S
theorem LP{ik:DS}{o:Out}{E:Ends}{r:bg}(e:aI C W r ik m1=some (o,af))(q:yT K ρ H o af E):yT K ρ H (.nx ik) m1 { E with nx:=λ σ' aa=>Y9 C W K r E σ' aa }:=λH1 az g1 M1 σ1 S1=>⟨ik,m1,az,o,af,S1,M1,e,λH2 c8 g2 M2=>q H2 c8 (g1.trans g2) M2⟩
theorem BL(h1:PS X st (l3 C W X.K s))(h2:eP X rest (Y9 C W X.K r)):eP X (st::rest) (Y9 C W X.K (.cons s r)):=(WX h1 h2).imp λE σ H ah=>by
 obtain⟨aj,m,ρ,o,af,S,M,e,q⟩:=ah;obtain⟨⟨o1,m1⟩,e1,e⟩:=aT e;refine⟨aj,m,ρ,o1,m1,S,M,e1,?_⟩;cases o1 with
 | nx σ1=>exact LP e q
 | rt d=>
  cases e;exact q
theorem CQ(i:Nat)(he:PE X a (tD C X.K pa))(hN:X.N.Nodup:=by assumption)(hi:X.N[i]?=some x:=by kernel_rfl)(hx:yx X.env.scope x=true:=by kernel_rfl)(hs:swapsWith a (some (.Name x pos')) pos.line X.env=pure false:=by kernel_rfl)(hf:B3 X x=true:=by kernel_rfl):
  PS X (.Assign [.Name x pos'] a pos) (l3 C W X.K (.set i pa)):=(EM hN hi (EZ hx) he hs (vJ hf)).imp λE σ H ah=>by
 obtain⟨aj,m,ρ,o,af,S,M,e,q⟩:=ah;obtain⟨⟨d,m1⟩,e1,e⟩:=cj e;cases e;exact⟨aj,m,ρ,d,af,S,M,e1,λv H1 az g1 M1 A1=>q H1 az g1 M1 _ ((S.mono M g1).set i A1)⟩
theorem IK(he:PE X a (tD C X.K pa))(hs:swapsWith a none pos.line X.env=pure false:=by kernel_rfl):PS X (.Expr a pos) (l3 C W X.K (.drop pa)):=(v7 he hs).imp λE σ H ah=>by
 obtain⟨aj,m,ρ,o,af,S,M,e,q⟩:=ah;obtain⟨⟨d,m1⟩,e1,e⟩:=cj e;cases e;exact⟨aj,m,ρ,d,af,S,M,e1,λv H1 az g1 M1 A1=>q H1 az g1 M1 _ (S.mono M g1)⟩
theorem CT(he:PE X a (tD C X.K pa)):PS X (.Return (some a) pos) (l3 C W X.K (.ret pa)):=(EN he).imp λE σ H ah=>by
 obtain⟨aj,m,ρ,o,af,S,M,e,q⟩:=ah;obtain⟨⟨d,m1⟩,e1,e⟩:=cj e;cases e;exact⟨aj,m,ρ,d,af,S,M,e1,λv H1 az g1 M1 A1=>q H1 az g1 M1 _ A1⟩
variable{t:Te}{ba bb:List Stmt}{ra rb:bg}
theorem G3(hc:PT X c (fi C X.K t))(ha:eP X ba (Y9 C W X.K ra))(hb:eP X bb (Y9 C W X.K rb)):PS X (.If c ba bb pos) (l3 C W X.K (.ite t ra rb)):=(FY hc ha hb).imp λE σ H ah=>by
 obtain⟨aj,m,ρ,o,af,S,M,e,q⟩:=ah;obtain⟨⟨k,m1⟩,e1,e⟩:=aT e;refine⟨aj,m,ρ,k,m1,S,M,e1,λH1 az g1 M1=>?_⟩;cases k with
 | true=>
  try dsimp only at e
  rw[ag rfl]at e ⊢;exact⟨aj,m1,az,o,af,S.mono M g1,M1,e,λH2 c8 g2 M2=>q H2 c8 (g1.trans g2) M2⟩
 | false=>
  try dsimp only at e
  rw[ak d5]at e ⊢;exact⟨aj,m1,az,o,af,S.mono M g1,M1,e,λH2 c8 g2 M2=>q H2 c8 (g1.trans g2) M2⟩
theorem W6(hc:PT X c (fi C X.K t))(hb:eP X bb (Y9 C W X.K rb))(hp:PassesOwn (model X.prog X.w) X.A X.env X.xe:=by assumption):PS X (.While c bb [] pos) (l3 C W X.K (.bo t rb)):=(Li hp hc hb).imp λE σ H ah=>by
 obtain⟨aj,m,ρ,o,af,S,M,e,q⟩:=ah;refine⟨λk σ1 H1=>∃ik m1 az,eQ X.K az H1 ik σ1/\bp X.K az m1 H1/\Go ρ az H H1/\N8 (et C t) (λ σ m=>aI C W rb σ m) k ik m1=some (o,af),⟨W,aj,m,ρ,S,M,.refl _ _,e⟩,?_⟩;rintro k σ1 H1 ⟨ik,m1,az,S1,M1,g1,e⟩;cases k with
 | zero=>cases e
 | succ k=>
  unfold N8 at e;obtain⟨⟨z,m2⟩,e1,e⟩:=aT e;refine⟨ik,m1,az,z,m2,S1,M1,e1,λH2 c8 g2 M2=>?_⟩;cases z with
  | false=>
   try dsimp only at e
   rw[ak d5]at e ⊢;cases e;exact q H2 c8 (g1.trans g2) M2 σ1 (S1.mono M1 g2)
  | true=>
   try dsimp only at e
   rw[ag rfl]at e ⊢;obtain⟨⟨o2,m3⟩,e2,e⟩:=aT e;refine⟨λ σ' aa=>∃ik m1 az,eQ X.K az aa ik σ'/\bp X.K az m1 aa/\Go ρ az H aa/\N8 (et C t) (λ σ m=>aI C W rb σ m) k ik m1=some (o,af),λ σ' aa h=>⟨k,rj k,h⟩,ik,m2,c8,o2,m3,S1.mono M1 g2,M2,e2,?_⟩;cases o2 with
   | nx ij=>exact λH3 i4 g3 M3 σ' S3=>⟨ij,m3,i4,S3,M3,g1.trans (g2.trans g3),e⟩
   | rt d=>
    cases e;exact λH3 i4 g3 M3 v A=>q H3 i4 (g1.trans (g2.trans g3)) M3 v A
theorem R4(hi:PI X tg iter (lT C X.K ip))(hg:PG X tg (oe X.K g))(hb:eP X bb (Y9 C W X.K rb))(hp:PassesOwn (model X.prog X.w) X.A X.env X.xe:=by assumption)(hc:X.calm=true:=by kernel_rfl)(hs:∀x,foldedSetIterable iter X.env x=pure x:=by intro _;kernel_rfl):
  PS X (.For tg iter bb [] pos) (l3 C W X.K (.fr g ip rb)):=(EO hp hc hi hg hb hs).imp λE σ H ah=>by
 obtain⟨aj,m,ρ,o,af,S,M,e,q⟩:=ah;obtain⟨⟨w,m1⟩,e1,e⟩:=aT e;refine⟨aj,m,ρ,w,m1,S,M,e1,λJ H0 tI g0 M0 wk=>?_⟩;refine⟨λi k σ1 H1=>k=w.xs.length-i/\i<=w.xs.length/\∃ik m1 az,eQ X.K az H1 ik σ1/\bp X.K az m1 H1/\Go tI az H0 H1/\forL w g (λ σ m=>aI C W rb σ m) (w.xs.drop i) ik m1=some (o,af),⟨_,rfl,eS _,aj,m1,tI,S.mono M g0,M0,.refl _ _,e⟩,?_⟩;rintro i k σ1 H1 ⟨rfl,zD,ik,m2,az,S1,M1,g1,e⟩
 by_cases cp:i<w.xs.length
 .have hd:w.xs.drop i=w.xs[i]::w.xs.drop (i+1):=List.drop_eq_getElem_cons cp
  rw[hd]at e;unfold forL at e;split at e
  .rename_i ok
   obtain⟨om,e2,e⟩:=aT e;obtain⟨⟨o3,m3⟩,e3,e⟩:=aT e;obtain⟨k1,k2⟩:=(wk i az m2 H1 (g1.fz M0) (.pre g1.ex) M1 ok).1 _ (fo cp);refine .inr ⟨k1,λ σ' aa=>∃ik m1 az,eQ X.K az aa ik σ'/\bp X.K az m1 aa/\Go tI az H0 aa/\forL w g (λ σ m=>aI C W rb σ m) (w.xs.drop (i+1)) ik m1=some (o,af),λ σ' aa h=>⟨_,by omega,rfl,cp,h⟩,λx H2 y=>?_⟩;obtain⟨mP,ax⟩:=k2 x H2 y;have g2:Go az az H1 H2:=uL mP;have M2:=M1.same mP;refine⟨ik,az,_,om,S1.mono M1 g2,ax,e2,λij S2=>⟨om,m2,az,o3,m3,S2,M2,e3,?_⟩⟩;cases o3 with
   | nx kS=>exact λH3 i4 g3 M3 σ' S3=>⟨kS,m3,i4,S3,M3,g1.trans (g2.trans g3),e⟩
   | rt d=>
    cases e;exact λH3 i4 g3 M3 v A=>q H3 i4 (g0.trans (g1.trans (g2.trans g3))) M3 v A
  .cases e
 .have kL:w.xs.drop i=[]:=List.drop_eq_nil_of_le (by omega)
  rw[kL]at e;unfold forL at e;split at e
  .rename_i ok
   cases e;exact .inl ⟨(wk i az af H1 (g1.fz M0) (.pre g1.ex) M1 ok).2 (by omega),q H1 az (g0.trans g1) M1 σ1 S1⟩
  .cases e
end
section
variable{gs:List Tg}{a:Expr}
theorem _root_.L2.md.imp{t t':oz}(h:md X es t)(hi:∀v σ H Q,t' v σ H Q->t v σ H Q):md X es t':=λpi s σ H v u Q I r q=>h pi s σ H v u Q I r (hi v σ H Q q)
theorem NZ:md X [] (yp X.K []):=(vA (X:=X)).imp λvs σ H Q ah=>by
 obtain⟨aj,ρ,ds,ky,S,as,e,q⟩:=ah;cases ds with
 | nil=>
  cases e;cases (show _=[] from as);exact⟨rfl,q σ S⟩
 | cons _ _=>cases e
theorem GX(h1:PG X e (oe X.K g))(h2:md X es (yp X.K gs))(hs:(assignEach (e::es) X.env).map (·.2)=assign e X.env::(assignEach es X.env).map (·.2):=by kernel_rfl):md X (e::es) (yp X.K (g::gs)):=
 (cL h1 h2 hs).imp λvs σ H Q ah=>by
 obtain⟨aj,ρ,ds,ky,S,as,e,q⟩:=ah;cases ds with
 | nil=>cases e
 | cons d ds=>
  obtain⟨v,vr,rfl,a1,as⟩:=as;unfold PK at e;obtain⟨σ1,e1,e⟩:=aT e;exact⟨v,vr,rfl,aj,ρ,d,σ1,S,a1,e1,λ σ' BD=>⟨σ1,ρ,ds,ky,BD,as,e,q⟩⟩
theorem W8{k:Nat}(h:md X es (yp X.K gs))(hc:X.calm=true:=by kernel_rfl)(hn:(assignEach es X.env).length=gs.length:=by kernel_rfl)(kN:(assignEach es X.env).findIdx? (·.1)=none:=by kernel_rfl):PG X (.Tuple es k pos) (oe X.K (.tp gs)):=
 (ES hc h hn kN).imp λv σ H Q ah=>by
 obtain⟨aj,ρ,d,ky,S,a,e,q⟩:=ah;cases d with
 | tup xs=>
  obtain⟨p,vs,rfl,ht,as⟩:=a;have e:(if gs.length=xs.length then PK gs xs aj else none)=some ky:=e;split at e
  .rename_i hl
   exact⟨p,vs,rfl,ht.sq,by rw[as.len,hl],aj,ρ,xs,ky,S,as,e,q⟩
  .cases e
 | _=>cases e
theorem Er(he:PE X a (tD C X.K pa))(hg:PG X tg (oe X.K g))(hs:swapsWithSole [tg] a pos.line X.env=pure false:=by kernel_rfl)(hw:swappedStores [tg] a X.env=pure none:=by kernel_rfl)(h1:(assignEach [tg] X.env).map (·.2)=[assign tg X.env]:=by kernel_rfl):
  PS X (.Assign [tg] a pos) (l3 C W X.K (.asg g pa)):=(PQ he hg hs hw h1).imp λE σ H ah=>by
 obtain⟨aj,m,ρ,o,af,S,M,e,q⟩:=ah;obtain⟨⟨d,m1⟩,e1,e⟩:=aT e;obtain⟨σ1,e2,e⟩:=cj e;cases e;exact⟨aj,m,ρ,d,af,S,M,e1,λv H1 az g1 M1 A1=>⟨aj,az,d,σ1,S.mono M g1,A1,e2,λ σ' BD=>q H1 az g1 M1 σ' BD⟩⟩
end
section
variable{a:Expr}
theorem jJ(ho:PE X a (tD C X.K pa))(hi:PE X b (tD C X.K pb))(hv:PE X c (tD C X.K pc))(hu:X.A.units+1<cLine:=by assumption)(hs:swapsWith c (some (.Subscript a b pos')) pos.line X.env=pure false:=by kernel_rfl):
  PS X (.Assign [.Subscript a b pos'] c pos) (l3 C W X.K (.put pa pb pc)):=(v8 hu ho hi hv hs).imp λE σ H ah=>by
 obtain⟨aj,m,ρ,o,af,S,M,e,q⟩:=ah;obtain⟨⟨z,m1⟩,e1,e⟩:=aT e;obtain⟨⟨x,m2⟩,e2,e⟩:=aT e;obtain⟨⟨y,m3⟩,e3,e⟩:=aT e;refine⟨aj,m,ρ,z,m1,S,M,e1,λv H1 az g1 M1 A1=>⟨aj,m1,az,x,m2,S.mono M g1,M1,e2,λu H2 c8 g2 M2 A2=>⟨aj,m2,c8,y,m3,(S.mono M g1).mono M1 g2,M2,e3,λw H3 i4 g3 M3 A3=>?_⟩⟩⟩;have l9:=(A1.mono M1 g2).mono M2 g3;have Le:=A2.mono M2 g3;have S3:=((S.mono M g1).mono M1 g2).mono M2 g3;cases x with
 | ao i=>
  obtain⟨p,hi,rfl⟩:=Le;have e:(match m3[i]?,O5 y with
   | some (.aq ks vs),some k=>if z.clean&&decide (ks.length<10000) then some (Out.nx aj,m3.set i (.aq (putD ks vs k z).1 (putD ks vs k z).2)) else none
   | _,_=>none)=some (o,af):=e
  split at e
  .rename_i ks vs k hm hk
   split at e
   .rename_i hz
    rw[gp,decide_eq_true_eq]at hz;cases e;obtain⟨kvs,hp,ka⟩:=M3.at' i p _ hi hm;have hy:=eN A3 hk;subst hy;have fe:J6 H3 (upd H3 p (.dK (putK kvs k v))):=λi9 b5 g9 c6=>by
     rw[CK]
     .exact c6
     .rintro rfl;rw[hp]at c6;cases c6
    have kp:=eA.put (K:=X.K) (ρ:=i4.take i) (H:=upd H3 p (.dK (putK kvs k v))) (k:=k) (l9.clean (ρ':=i4.take i) fe hz.1) (eA.dq fe (.refl _) ka);obtain⟨M4,g4⟩:=M3.write (o:=.dK (putK kvs k v)) (q:=.aq (putD ks vs k z).1 (putD ks vs k z).2) hi ⟨_,DP,kp⟩;have hlen:=eG (K:=X.K) (ρ:=i4.take i) (H:=H3) ka;exact⟨p,_,rfl,vq.k hp (hV (by lia:kvs.length<100000) (JF (a0 _))),q _ i4 (g1.trans (g2.trans (g3.trans g4))) M4 σ (S3.mono M3 g4)⟩
   .cases e
  .cases e
 | _=>cases e
theorem S9(ho:PE X a (tD C X.K pa))(he:PE X b (tD C X.K pb))(hf:PE X c (tD C X.K pc))(hu:X.A.units+1<cLine:=by assumption)(mm:M2 X a "get" apos b c b8:=by constructor<;>kernel_rfl):PE X (.Call (.Attribute a "get" apos) [b,c] [] b8) (tD C X.K (.get pa pb pc)):=
 (Lm hu ho he hf mm).imp λ σ H Q ah=>by
 obtain⟨aj,m,ρ,d,af,S,M,e,q⟩:=ah;obtain⟨⟨x,m1⟩,e1,e⟩:=aT e;obtain⟨⟨iE,Tz⟩,e0,e⟩:=aT e;obtain⟨⟨y,m2⟩,e2,e⟩:=aT e;obtain⟨⟨z,m3⟩,e3,e⟩:=aT e;obtain⟨⟨ks,ds⟩,e4,e⟩:=aT e;obtain⟨k,e5,e⟩:=cj e;cases e;refine⟨aj,m,ρ,x,m1,S,M,e1,λv H1 az g1 M1 A1=>?_⟩;obtain⟨p,DA,rfl,Dc,_⟩:=T8 M1 A1 e0;refine⟨p,rfl,.inl ⟨DA,Dc⟩,aj,m1,az,y,m2,S.mono M g1,M1,e2,λu H2 c8 g2 M2 A2=>⟨aj,m2,c8,z,af,(S.mono M g1).mono M1 g2,M2,e3,λw H3 i4 g3 M3 A3=>?_⟩⟩;obtain⟨fA,kvs,e6,hr,ka⟩:=T8 M3 ((A1.mono M1 g2).mono M2 g3) e4;cases e6;have hy:=eN (A2.mono M2 g3) e5;refine⟨KD kvs k,.inl ⟨kvs,k,hr,hy,rfl⟩,q _ H3 i4 (g1.trans (g2.trans g3)) M3 ?_⟩;cases hl:HB ks ds k with
 | none=>
  rw[(ka.look k).2 hl];exact A3
 | some d'=>
  obtain⟨yk,BU,Tn⟩:=(ka.look k).1 d' hl;rw[BU];exact Tn
theorem Ey(ho:PE X a (tD C X.K pa))(ia:attributeBase a "pop" X.env (eval a X.env)=eval a X.env:=by kernel_rfl)(iA:(apos.endLine==b8.line)=true:=by kernel_rfl):PE X (.Call (.Attribute a "pop" apos) [] [] b8) (tD C X.K (.pop pa)):=
 (P4 PySem.F.plainAttrs_list PySem.F.slot_list_pop PySem.F.type_list_pop Qc ho ia iA).imp λ σ H Q ah=>by
 obtain⟨aj,m,ρ,d,af,S,M,e,q⟩:=ah;obtain⟨⟨x,m1⟩,e1,e⟩:=aT e;refine⟨aj,m,ρ,x,m1,S,M,e1,λv H1 az g1 M1 A1=>?_⟩;cases x with
 | ao i=>
  obtain⟨p,hi,rfl⟩:=A1;have e:(match m1[i]? with
   | some (.lst xs)=>(xs[xs.length-1]?).map λd=>(d,m1.set i (.lst xs.dropLast))
   | _=>none)=some (d,af):=e
  split at e
  .rename_i xs hm
   obtain⟨d',e2,e⟩:=cj e;cases e;obtain⟨vs,hp,as⟩:=M1.at' i p _ hi hm;obtain⟨y,e3,a3⟩:=as.get e2;have fe:J6 H1 (upd H1 p (.lst vs.dropLast)):=λi9 b5 g9 c6=>by
    rw[CK]
    .exact c6
    .rintro rfl;rw[hp]at c6;cases c6
   have hd:a7 X.K (az.take i) H1 xs.dropLast vs.dropLast:=by
    rw[List.dropLast_eq_take,List.dropLast_eq_take,as.len];exact as.take _
   obtain⟨M4,g4⟩:=M1.write (o:=.lst vs.dropLast) (q:=.lst xs.dropLast) hi ⟨_,DP,hd.dq fe (.refl _)⟩;exact⟨.inl ⟨rfl,vs,.of hp⟩,p,vs,y,rfl,rfl,hp,by rw[as.len];exact e3,q _ _ az (g1.trans g4) M4 ((a3.dq (λ_ _ _ z=>z) (.take az i)).mono M1 g4)⟩
  .cases e
 | _=>cases e
section
variable(ia:attributeBase a "append" X.env (eval a X.env)=eval a X.env)
end
theorem SJ(ho:PE X a (tD C X.K pa))(hb:PE X b (tD C X.K pb))(ia:attributeBase a "append" X.env (eval a X.env)=eval a X.env:=by kernel_rfl)(mM:((backTo b8 (starEach [b] X.env)).all (λx=>!x.1)&&(backToKw b8 (keywordEach [] X.env)).all (λx=>x.1.isSome)
   &&decide (([b]:List Expr).length+([]:List Keyword).length+(if ([]:List Keyword).isEmpty then 0 else 1)<30))=true:=by kernel_rfl)(iA:(apos.endLine==b8.line)=true:=by kernel_rfl)(hs:starEach [b] X.env=[(false,eval b X.env)]:=by kernel_rfl):PE X (.Call (.Attribute a "append" apos) [b] [] b8) (tD C X.K (.app pa pb)):=
 (gW PySem.F.plainAttrs_list PySem.F.slot_list_append PySem.F.type_list_append YG ho (J7 hb JR hs) ia mM iA hs rfl).imp λ σ H Q ah=>by
 obtain⟨aj,m,ρ,d,af,S,M,e,q⟩:=ah;obtain⟨⟨x,m1⟩,e1,e⟩:=aT e;obtain⟨KA,e0,e⟩:=aT e;obtain⟨⟨y,m2⟩,e2,e⟩:=aT e;refine⟨aj,m,ρ,x,m1,S,M,e1,λv H1 az g1 M1 A1=>?_⟩;obtain⟨p,iN,rfl,h0,_⟩:=J8 M1 A1 e0;refine⟨.inl ⟨rfl,iN,h0⟩,aj,m1,az,y,m2,S.mono M g1,M1,e2,λu H2 c8 g2 M2 A2=>?_⟩;have l9:=A1.mono M1 g2;cases x with
 | ao i=>
  obtain⟨fA,hi,e6⟩:=l9;cases e6;have e:(match m2[i]? with
   | some (.lst xs)=>if y.clean&&decide (xs.length<100000) then some (D.au,m2.set i (.lst (xs++[y]))) else none
   | _=>none)=some (d,af):=e
  split at e
  .rename_i xs hm
   split at e
   .rename_i hz
    rw[gp,decide_eq_true_eq]at hz;cases e;obtain⟨vs,hp,as⟩:=M2.at' i p _ hi hm;have fe:J6 H2 (upd H2 p (.lst (vs++[u]))):=λi9 b5 g9 c6=>by
     rw[CK]
     .exact c6
     .rintro rfl;rw[hp]at c6;cases c6
    obtain⟨M4,g4⟩:=M2.write (o:=.lst (vs++[u])) (q:=.lst (xs++[y])) hi ⟨_,DP,(as.dq fe (.refl _)).snoc (A2.clean fe hz.1)⟩;exact⟨p,vs,u,rfl,rfl,hp,hV (by rw[as.len];exact hz.2) (JF (a0 _)),q _ _ c8 (g1.trans (g2.trans g4)) M4 rfl⟩
   .cases e
  .cases e
 | _=>cases e
def FO(K:p4):V->List V->Hp->VK->Prop:=λx vs H Q=>∃l b xs zs,x=.ref l/\vs=[.ref b]/\H l=some (.lst xs)/\(Rd H b (.lst zs)\/ma K H b zs)/\xs.length+zs.length<=100000/\Q .au (upd H l (.lst (xs++zs)))
theorem VG(l:Addr)(items:Array Value)(n:Nat)(b:Addr)(xC:Array Value)(n2:Nat)(nE:Option Addr)(pM:Array (Option Value))(VW:¬(!items.isEmpty&&Builtin.List.listTooLong (items.size+xC.size))=true)(dh:items.size<=sizeLine)(dC:items.size+xC.size<=sizeLine+1):
  Meets (Builtin.«list.extend» ⟨[.ref l,.ref b],[]⟩) (λ_ R s=>s.heap.get? l=some { cls:=.type "list",dict:=none,data:=.seq items n,slots:=#[] }/\s.heap.get? b=some { cls:=.type "tuple",dict:=nE,data:=.seq xC n2,slots:=pM }/\R (.ok (.ret Value.none)) { s with heap:=s.heap.update l (Obj.mapSeq λx=>x++xC),toks:=s.toks }):=
 .of_wp λprog w A R s h=>by
  obtain⟨hp,g,d,tk,os⟩:=s;obtain⟨hl,hb,h⟩:=h;have f1:=AutoSeq1.idx_int;have f2:=AutoSeq1.sub_tuple_tuple;have f3:=AutoSeq1.sub_list_list;have f4:=AutoSeq1.sub_tuple_list;have f5:=AutoSeq1.sub_list_tuple;have qw:(items++xC).size<=sizeLine+1:=by rw[Array.size_append];exact dC
  wp_walk using (wpAny_updateSeq hl rfl (hz:=dh) (_hz':=qw)),wpAny_loadPart' hl,wpAny_loadPart' hb;exact⟨_,rfl,h⟩
theorem Nw:za X "list.extend" (FO X.K):=by
 intro pi s σ H x vs v us Q I rx rv h;obtain⟨l,b,xs,zs,rfl,rfl,hH,hB,hz,q⟩:=h;cases rx;obtain⟨u,rfl,ru⟩:=rv.one;cases ru;obtain⟨z,its,n,r,hl,e⟩:=I.As hH;have aaN:=JF (a0 100000);have key:∀gd:List Value,Vals zs gd->its.toArray.size+gd.toArray.size<=sizeLine/\¬(!its.toArray.isEmpty&&Builtin.List.listTooLong (its.toArray.size+gd.toArray.size))=true:=λgd r2=>by
  have nS:=r2.length;have hsz:its.toArray.size+gd.toArray.size<=sizeLine:=by rw[dv,dv];lia
  refine⟨hsz,?_⟩;rw[JS hsz,Bool.and_false];exact d5
 have fin:∀gd:List Value,Vals zs gd->EP X pi σ Q .none { s with heap:=s.heap.update l (Obj.mapSeq λx=>x++gd.toArray),toks:=s.toks }:=λgd r2=>by
  refine⟨.au,_,I.Ar (its':=its++gd) hH e (by simp) (r.append r2) ?_,rfl,q⟩;rw[gc];lia
 rcases hB with hB | hB
 .obtain⟨z2,gd,n2,r2,e2⟩:=hB.ok I.aS
  obtain⟨hsz,CS⟩:=key gd r2;exact call_meets F.slot_list_extend ⟨_,e,rfl⟩ F.entry_list_extend (F.args_list_extend_2 _ _)
   (AutoSeq1.list_extend_list_list_0 l its.toArray n b gd.toArray n2 CS (by rw[dv];lia) (by lia)) ⟨e,e2,fin gd r2⟩
 .obtain⟨gd,r2,⟨⟨Hs,nE,data2,pM⟩,o4,qj,n2,hd2⟩,_⟩:=I.tuple hB.sq
  simp only at qj hd2;subst qj hd2;obtain⟨hsz,CS⟩:=key gd r2;exact call_meets F.slot_list_extend ⟨_,e,rfl⟩ F.entry_list_extend (F.args_list_extend_2 _ _)
   (VG l its.toArray n b gd.toArray n2 nE pM CS (by rw[dv];lia) (by lia)) ⟨e,o4,fin gd r2⟩
theorem rK(ho:PE X a (tD C X.K pa))(hb:PE X b (tD C X.K pb))(ia:attributeBase a "extend" X.env (eval a X.env)=eval a X.env:=by kernel_rfl)(mM:((backTo b8 (starEach [b] X.env)).all (λx=>!x.1)&&(backToKw b8 (keywordEach [] X.env)).all (λx=>x.1.isSome)
   &&decide (([b]:List Expr).length+([]:List Keyword).length+(if ([]:List Keyword).isEmpty then 0 else 1)<30))=true:=by kernel_rfl)(iA:(apos.endLine==b8.line)=true:=by kernel_rfl)(hs:starEach [b] X.env=[(false,eval b X.env)]:=by kernel_rfl):PE X (.Call (.Attribute a "extend" apos) [b] [] b8) (tD C X.K (.ext pa pb)):=
 (gW PySem.F.plainAttrs_list PySem.F.slot_list_extend PySem.F.type_list_extend Nw ho (J7 hb JR hs) ia mM iA hs rfl).imp λ σ H Q ah=>by
 obtain⟨aj,m,ρ,d,af,S,M,e,q⟩:=ah;obtain⟨⟨x,m1⟩,e1,e⟩:=aT e;obtain⟨KA,e0,e⟩:=aT e;obtain⟨⟨y,m2⟩,e2,e⟩:=aT e;refine⟨aj,m,ρ,x,m1,S,M,e1,λv H1 az g1 M1 A1=>?_⟩;obtain⟨p,iN,rfl,h0,_⟩:=J8 M1 A1 e0;refine⟨.inl ⟨rfl,iN,h0⟩,aj,m1,az,y,m2,S.mono M g1,M1,e2,λu H2 c8 g2 M2 A2=>?_⟩;have l9:=A1.mono M1 g2;cases x with
 | ao i=>
  obtain⟨fA,hi,e6⟩:=l9;cases e6;have fin:∀{xs ys:List D} {b:Addr} {zs:List V},m2[i]?=some (.lst xs)->u=.ref b->(Rd H2 b (.lst zs)\/ma X.K H2 b zs)->a7 X.K c8 H2 ys zs->(if D.clean.cy ys&&decide (xs.length+ys.length<=100000) then some (D.au,m2.set i (.lst (xs++ys))) else none)=some (d,af)->FO X.K (.ref p) [u] H2 Q:=λ {xs ys b zs} hm eu hb oB e=>by
   subst eu;split at e
   .rename_i hz
    rw[gp,decide_eq_true_eq]at hz;cases e;obtain⟨vs,hp,as⟩:=M2.at' i p _ hi hm;have fe:J6 H2 (upd H2 p (.lst (vs++zs))):=λi9 b5 g9 c6=>by
     rw[CK]
     .exact c6
     .rintro rfl;rw[hp]at c6;cases c6
    obtain⟨M4,g4⟩:=M2.write (o:=.lst (vs++zs)) (q:=.lst (xs++ys)) hi ⟨_,DP,(as.dq fe (.refl _)).app (oB.clean fe hz.1)⟩;have l1:=as.len;have l2:=oB.len;exact⟨p,b,vs,zs,rfl,rfl,hp,hb,by lia,q _ _ c8 (g1.trans (g2.trans g4)) M4 rfl⟩
   .cases e
  dsimp only at e;split at e
  .rename_i xs ys hm
   obtain⟨b,o,zs,rfl,hb,oB⟩:=A2;exact fin hm rfl (.inl (.inr ⟨o,hb⟩)) oB e
  .rename_i xs ys hm
   obtain⟨b,zs,rfl,hb,oB⟩:=A2;exact fin hm rfl (.inr hb) oB e
  .cases e
 | _=>cases e
theorem X4{ρ:List Addr}{H:Hp}{y:D}(fy:y.flat=true)(ay:At K ρ H y v):∀{xs:List D} {vs:List V} {n k:Nat},xs.all D.flat=true->a7 K ρ H xs vs->findD y xs n=some k->∃j,k=n+j/\j<vs.length/\(∃u,vs[j]?=some u/\gb u v=true)/\∀i u,i<j->vs[i]?=some u->gb u v=false
 | [],_,_,_,_,_,e=>by cases e
 | x::r,_,n,k,fs,bf,e=>by
  obtain⟨w,vr,ev,a1,as⟩:=bf;subst ev;rw[List.all_cons,gp]at fs;have h1:=(U7 fy ay).2 fs.1 a1;unfold findD at e;split at e
  .rename_i h
   cases e;exact⟨0,rfl,by simp,⟨w,rfl,by rw[h1];exact h⟩,λi u hi=>absurd hi (oC _)⟩
  .rename_i h
   obtain⟨j,e1,h2,⟨u,h3,B9⟩,h4⟩:=X4 fy ay fs.2 as e;refine⟨j+1,by lia,by simp;lia,⟨u,by simpa using h3,B9⟩,λi g9 hi aE=>?_⟩;cases i with
   | zero=>
    have:w=g9:=by simpa using aE
    subst this;rw[h1];simpa using h
   | succ i=>exact h4 i g9 (by lia) (by simpa using aE)
theorem E2{x:V}:∀{xs:List V} {j:Nat} {u:V},xs[j]?=some u->gb u x=true->sC x xs=true
 | [],_,_,e,_=>by simp at e
 | y::r,0,u,e,h=>by
  have:y=u:=by simpa using e
  subst this;simp[sC,h]
 | y::r,j+1,u,e,h=>by
  have:=E2 (xs:=r) (j:=j) (by simpa using e) h;unfold sC at this ⊢;rw[List.any_cons,this,Bool.or_true]
theorem nU(ho:PE X a (tD C X.K pa))(hb:PE X b (tD C X.K pb))(ia:attributeBase a "index" X.env (eval a X.env)=eval a X.env:=by kernel_rfl)(mM:((backTo b8 (starEach [b] X.env)).all (λx=>!x.1)&&(backToKw b8 (keywordEach [] X.env)).all (λx=>x.1.isSome)
   &&decide (([b]:List Expr).length+([]:List Keyword).length+(if ([]:List Keyword).isEmpty then 0 else 1)<30))=true:=by kernel_rfl)(iA:(apos.endLine==b8.line)=true:=by kernel_rfl)(hs:starEach [b] X.env=[(false,eval b X.env)]:=by kernel_rfl):PE X (.Call (.Attribute a "index" apos) [b] [] b8) (tD C X.K (.index pa pb)):=
 (gW PySem.F.plainAttrs_list PySem.F.slot_list_index PySem.F.type_list_index Lv ho (J7 hb JR hs) ia mM iA hs rfl).imp λ σ H Q ah=>by
 obtain⟨aj,m,ρ,d,af,S,M,e,q⟩:=ah;obtain⟨⟨x,m1⟩,e1,e⟩:=aT e;obtain⟨KA,e0,e⟩:=aT e;obtain⟨⟨y,m2⟩,e2,e⟩:=aT e;obtain⟨xs,e3,e⟩:=aT e;split at e
 .rename_i hz
  rw[gp,gp,decide_eq_true_eq]at hz;obtain⟨k,e4,e⟩:=cj e;cases e;refine⟨aj,m,ρ,x,m1,S,M,e1,λv H1 az g1 M1 A1=>?_⟩;obtain⟨p,iN,rfl,h0,_⟩:=J8 M1 A1 e0;refine⟨.inl ⟨rfl,iN,h0⟩,aj,m1,az,y,af,S.mono M g1,M1,e2,λu H2 c8 g2 M2 A2=>?_⟩;obtain⟨fA,vs,e6,h,as⟩:=J8 M2 (A1.mono M1 g2) e3;cases e6;obtain⟨j,ek,h1,⟨w,h2,h3⟩,h4⟩:=X4 hz.1.1 A2 hz.1.2 as e4;have sk:=(X3 hz.1.1 A2 hz.1.2 as).1;refine⟨p,vs,u,rfl,rfl,h,(U7 hz.1.1 A2).1,sk,by rw[as.len];exact hz.2,E2 h2 h3,λi hi ⟨z,e7,e8⟩ U1=>?_⟩;have jv:i=j:=by
   rcases Nat.lt_trichotomy i j with cp | heq | Ve
   .rw[h4 i z cp e7]at e8;cases e8
   .exact heq
   .rw[U1 j w Ve h2]at h3;cases h3
  subst jv;refine q _ H2 c8 (g1.trans g2) M2 ?_;rw[ek,Nat.zero_add];rfl
 .cases e
theorem qJ:∀{ds:List D} {vs:List V} {ns:List Str},strsOf ds=some ns->a7 K ρ H ds vs->vs=ns.map V.str
 | [],_,_,e,a=>by cases e;cases (show _=[] from a);rfl
 | d::r,_,_,e,bf=>by
  obtain⟨v,vr,ev,a1,as⟩:=bf;subst ev;cases d with
  | str i=>
   obtain⟨sQ,e1,rfl⟩:=cj (show (strsOf r).map (i::·)=some _ from e);cases a1;rw[qJ e1 as];rfl
  | _=>cases e
theorem Mv(ho:PE X a (tD C X.K pa))(hb:PE X b (tD C X.K pb))(ia:attributeBase a "join" X.env (eval a X.env)=eval a X.env:=by kernel_rfl)(mM:((backTo b8 (starEach [b] X.env)).all (λx=>!x.1)&&(backToKw b8 (keywordEach [] X.env)).all (λx=>x.1.isSome)
   &&decide (([b]:List Expr).length+([]:List Keyword).length+(if ([]:List Keyword).isEmpty then 0 else 1)<30))=true:=by kernel_rfl)(iA:(apos.endLine==b8.line)=true:=by kernel_rfl)(hs:starEach [b] X.env=[(false,eval b X.env)]:=by kernel_rfl):PE X (.Call (.Attribute a "join" apos) [b] [] b8) (tD C X.K (.join pa pb)):=
 (gW PySem.F.plainAttrs_str PySem.F.slot_str_join PySem.F.type_str_join Nv ho (J7 hb JR hs) ia mM iA hs rfl).imp λ σ H Q ah=>by
 obtain⟨aj,m,ρ,d,af,S,M,e,q⟩:=ah;obtain⟨⟨x,m1⟩,e1,e⟩:=aT e;obtain⟨⟨y,m2⟩,e2,e⟩:=aT e;refine⟨aj,m,ρ,x,m1,S,M,e1,λv H1 az g1 M1 A1=>?_⟩;cases x with
 | str sep=>
  cases A1;refine⟨rfl,aj,m1,az,y,m2,S.mono M g1,M1,e2,λu H2 c8 g2 M2 A2=>?_⟩;obtain⟨xs,e3,e⟩:=aT (show ((G5 y m2).bind λxs=>(strsOf xs).bind λys=>if (ys.map (·.length)).sum+ys.length*sep.length<=100000 then some (D.str (Txt.join sep ys),m2) else none)=some (d,af) from e);obtain⟨ys,e4,e⟩:=aT e;split at e
  .rename_i hz
   cases e;obtain⟨p,vs,rfl,h,as⟩:=J8 M2 A2 e3;have:=qJ e4 as;subst this;exact⟨sep,p,ys,rfl,rfl,h,by lia,q _ H2 c8 (g1.trans g2) M2 rfl⟩
  .cases e
 | _=>cases e
end
section
variable{t:Te}{pe:Ex}
theorem JN:me X [] (fi C X.K .tt):=λpi s σ H Q I ah=>by
 obtain⟨aj,m,ρ,c,af,S,M,e,q⟩:=ah;cases e;exact MQ pi s σ H Q I (q H ρ (.refl _ _) M)
theorem U0(h:PT X c (fi C X.K t)):me X [c] (fi C X.K t):=MM h
theorem K0(S:eQ K ρ H aj σ)(k:Nat):eQ K ρ H (aj++List.replicate k none) (σ++List.replicate k none):=by
 refine⟨by simp[S.1],λi d e=>?_⟩
 by_cases hi:i<aj.length
 .rw[kh hi]at e
  obtain⟨v,e1,a⟩:=S.2 i d e;exact⟨v,by rw[kh (by rw[<-S.1];exact hi)];exact e1,a⟩
 .rw[rS (by lia)]at e
  have:=jg e;rw[List.mem_replicate]at this;cases this.2
noncomputable def AR(C:String->List D->Mem->Option (D×Mem))(k:Nat)(g:Tg)(t:Te)(pe:Ex)(σ:DS):D->Mem->Option (Option D×Mem):=λd m=>(JQ g d (σ++List.replicate k none)).bind λ σ1=>(et C t σ1 m).bind λ(c,m2)=>if c then (ev C pe σ1 m2).map λ(y,m3)=>(some y,m3) else some (none,m2)
mutual
theorem pZ{n:Nat}:∀{g:Tg} {d:D} {σ σ':DS},lL n g=true->JQ g d σ=some σ'->∀i,i<n->σ'[i]?=σ[i]?
 | .nm j,d,σ,σ',o,e=>by
  cases e;have:n<=j:=f7 o;intro i hi;rw[List.getElem?_set_ne (by lia)]
 | .tp ts,d,σ,σ',o,e=>by
  cases d with
  | tup xs=>
   have e:(if ts.length=xs.length then PK ts xs σ else none)=some σ':=e;split at e
   .exact iZ o e
   .cases e
  | _=>cases e
theorem iZ{n:Nat}:∀{gs:List Tg} {ds:List D} {σ σ':DS},lL.DM n gs=true->PK gs ds σ=some σ'->∀i,i<n->σ'[i]?=σ[i]?
 | [],ds,σ,σ',_,e=>by
  cases ds with
  | nil=>cases e;intro _ _;rfl
  | cons _ _=>cases e
 | t::ts,ds,σ,σ',o,e=>by
  cases ds with
  | nil=>cases e
  | cons d ds=>
   have b5:=Bool.and_eq_true_iff.mp o;obtain⟨σ1,e1,e⟩:=aT (show (JQ t d σ).bind (λ σ'=>PK ts ds σ')=some σ' from e);intro i hi;rw[iZ b5.2 e i hi,pZ b5.1 e1 i hi]
end
mutual
theorem qC:∀{g:Tg} {d:D} {σ σ':DS},JQ g d σ=some σ'->σ'.length=σ.length
 | .nm i,d,σ,σ',e=>by cases e;simp
 | .tp ts,d,σ,σ',e=>by
  cases d with
  | tup xs=>
   have e:(if ts.length=xs.length then PK ts xs σ else none)=some σ':=e;split at e
   .exact j4 e
   .cases e
  | _=>cases e
theorem j4:∀{gs:List Tg} {ds:List D} {σ σ':DS},PK gs ds σ=some σ'->σ'.length=σ.length
 | [],ds,σ,σ',e=>by
  cases ds with
  | nil=>cases e;rfl
  | cons _ _=>cases e
 | t::ts,ds,σ,σ',e=>by
  cases ds with
  | nil=>cases e
  | cons d ds=>
   obtain⟨σ1,e1,e⟩:=aT (show (JQ t d σ).bind (λ σ'=>PK ts ds σ')=some σ' from e);rw[j4 e,qC e1]
end
theorem bF{aj om:DS}{k:Nat}(o:lL aj.length g=true)(e:JQ g d (aj++List.replicate k none)=some om)(S:eQ K ρ H om σ):eQ K ρ H (aj++List.replicate k none) σ:=by
 refine⟨by rw[<-qC e];exact S.1,λi d' h=>?_⟩
 by_cases hi:i<aj.length
 .rw[<-pZ o e i hi]at h
  exact S.2 i d' h
 .rw[rS (by lia)]at h
  have:=jg h;rw[List.mem_replicate]at this;cases this.2
theorem bp.XO{p:Addr}(M:bp K ρ m H)(hn:p∉ρ)(h:ni K ρ H p q):bp K (ρ++[p]) (m++[q]) H:=by
 refine⟨by simp[M.len],List.nodup_append.mpr ⟨M.nd,by simp,λa ha b hb=>?_⟩,λj a u e1 e2=>?_⟩
 .have:b=p:=by simpa using hb
  subst this;exact λz=>hn (z▸ha)
 .by_cases hj:j<ρ.length
  .rw[kh hj]at e1
   rw[kh (by rw[<-M.len];exact hj)]at e2;rw[List.take_append_of_le_length (ml hj)];exact M.at' j a u e1 e2
  .have sm:j=ρ.length:=by
    have:=(List.getElem?_eq_some_iff.mp e1).1;simp at this;lia
   subst sm;have BO:p=a:=by simpa using e1
   rw[M.len]at e2;have BQ:q=u:=by simpa using e2
   subst BO BQ;rw[List.take_append_of_le_length (a0 _),List.take_length];exact h
theorem pI{k:Nat}(Dj:wi=lT C K ip)(Wd:te=tD C K pe):∀{σ:L2.St} {H:Hp} {Q:VK},tD C K (.comp mu k g ip t pe) σ H Q->nC wi k (oe K g) (fi C K t) te σ H (Fz Q):=by
 rintro σ H Q ⟨aj,m,ρ,d,af,S,M,e,q⟩;subst Dj Wd;change (if lL aj.length g=true then (ei C ip aj m).bind _ else none)=_ at e;split at e
 case isFalse=>cases e
 rename_i Ad
 obtain⟨⟨w,m1⟩,e1,e⟩:=aT e;obtain⟨⟨ys,m2⟩,e2,e⟩:=aT e;dsimp only at e;have e2:T9 w (AR C k g t pe aj) w.xs m1=some (ys,m2):=e2;split at e
 case isFalse=>cases e
 rename_i Wr
 have aE:=cq e;refine⟨aj,m,ρ,w,m1,S,M,e1,λJ H0 tI g0 M0 wk D hD=>?_⟩;have cg:en K tI H0 (bw mu ys m2).1 (bw mu ys m2).2 Q:=by rw[aE];exact q.go g0
 refine⟨λi n σ1 H1=>n=w.xs.length-i/\i<=w.xs.length/\∃zs us vs m3 az,eQ K az H1 (aj++List.replicate k none) σ1/\bp K az m3 H1/\Go tI az H0 H1/\H1 D=some (.lst vs)/\D∉az/\a7 K az H1 zs vs/\T9 w (AR C k g t pe aj) (w.xs.drop i) m3=some (us,m2)/\ys=zs++us,
  ⟨_,rfl,eS _,[],ys,[],m1,tI,(K0 (S.mono M g0) k).mono M0 (QD hD),M0.new hD,QD hD,DP,M0.fresh hD,rfl,e2,rfl⟩,?_⟩
 rintro i n σ1 H1 ⟨rfl,zD,zs,us,vs,m3,az,S1,M1,g1,hv,C1,as,e3,o6⟩
 by_cases cp:i<w.xs.length
 .have hd:w.xs.drop i=w.xs[i]::w.xs.drop (i+1):=List.drop_eq_getElem_cons cp
  rw[hd]at e3;unfold T9 at e3;split at e3
  case isFalse=>cases e3
  rename_i ok
  obtain⟨⟨oy,m4⟩,e4,e3⟩:=aT e3;obtain⟨⟨D9,aaS⟩,e5,e3⟩:=aT e3;cases e3;obtain⟨k1,k2⟩:=(wk i az m3 H1 (g1.fz M0) (.pre g1.ex) M1 ok).1 _ (fo cp);refine .inr ⟨k1,λx H2 y=>?_⟩;obtain⟨mP,ax⟩:=k2 x H2 y;have g2:Go az az H1 H2:=uL mP;have M2:=M1.same mP;unfold AR at e4;obtain⟨om,e6,e4⟩:=aT e4;obtain⟨⟨c,m6⟩,e7,e4⟩:=aT e4;refine⟨_,az,_,om,S1.mono M1 g2,ax,e6,λij S2=>⟨om,m3,az,c,m6,S2,M2,e7,λH3 i4 g3 M3=>?_⟩⟩;have KZ:∀{Ef AO:List Addr} {Ha Hb:Hp} {m:Mem},Go Ef AO Ha Hb->bp K AO m Hb->Ha D=some (.lst vs)->D∉Ef->Hb D=some (.lst vs)/\D∉AO:=λ {Ef AO Ha Hb m} ga Mb ha hn=>⟨ga.fr D _ ha hn,λz=>(ga.nw D z).elim hn λy=>by rw[ha]at y;cases y⟩
  obtain⟨Wk,CY⟩:=KZ g2 M2 hv C1;obtain⟨Je,IE⟩:=KZ g3 M3 Wk CY;cases c with
  | false=>
   dsimp only;rw[ak d5];cases e4;exact⟨_,by lia,rfl,cp,zs,_,vs,_,i4,bF Ad e6 (S2.mono M2 g3),M3,g1.trans (g2.trans g3),Je,IE,(as.mono M1 g2).mono M2 g3,e5,o6⟩
  | true=>
   dsimp only;rw[ag rfl];obtain⟨⟨y,m7⟩,e8,e4⟩:=cj (show (ev C pe om m6).map (λz=>(some z.1,z.2))=some (oy,m4) from e4);cases e4;refine⟨om,m6,i4,y,m7,S2.mono M2 g3,M3,e8,λv H5 Ze g5 M5 A5=>?_⟩;obtain⟨Jf,IF⟩:=KZ g5 M5 Je IE;have Th:=((as.mono M1 g2).mono M2 g3).mono M3 g5;have hlen:vs.length<1001:=by
    have h1:=as.len;rw[o6,gc]at Wr;lia
   have fe:J6 H5 (upd H5 D (.lst (vs++[v]))):=λi9 b5 g9 c6=>by
    rw[CK]
    .exact c6
    .rintro rfl;rw[Jf]at c6;cases c6
   have B7:=g1.trans (g2.trans (g3.trans g5));refine⟨vs,Jf,hV hlen (JF (by lia)),_,by lia,rfl,cp,zs++[y],D9,vs++[v],m7,Ze,(bF Ad e6 ((S2.mono M2 g3).mono M3 g5)).dq fe (.refl _),M5.keep fe λi9 Cm=>CK λz=>IF (z▸Cm),⟨λmf b5 gu lu=>?_,B7.ex,B7.nw⟩,DP,IF,(Th.dq fe (.refl _)).snoc (A5.dq fe (.refl _)),e5,by rw[o6];simp⟩;rw[CK (G4 gu hD)];exact B7.fr mf b5 gu lu
 .have kL:w.xs.drop i=[]:=List.drop_eq_nil_of_le (by lia)
  rw[kL]at e3;unfold T9 at e3;split at e3
  case isFalse=>cases e3
  rename_i ok
  cases e3;rw[ue]at o6;subst o6;refine .inl ⟨(wk i az _ H1 (g1.fz M0) (.pre g1.ex) M1 ok).2 (by lia),?_⟩;cases mu with
  | true=>
   refine .inl (cg _ H1 (az++[D]) ⟨g1.fr,g1.ex.trans (List.prefix_append _ _),λb hb=>?_⟩ (M1.XO C1 ⟨vs,hv,as⟩) ⟨D,?_,rfl⟩)
   .rcases cz hb with hb | hb
    .exact g1.nw b hb
    .have:b=D:=by simpa using hb
     subst this;exact .inr hD
   .rw[<-M1.len];simp
  | false=>
   have fe:∀o,J6 H1 (upd H1 D (.bq o (.lst vs))):=λo i9 b5 g9 c6=>by
    rw[CK]
    .exact c6
    .rintro rfl;rw[hv]at c6;cases c6
   refine .inr ⟨D,_,rfl,hv,trivial,λo=>cg _ _ az ⟨λmf b5 gu lu=>?_,g1.ex,g1.nw⟩ (M1.keep (fe o) λi9 Cm=>CK λz=>C1 (z▸Cm)) ⟨D,o,vs,rfl,DP,as.dq (fe o) (.refl _)⟩⟩;rw[CK (G4 gu hD)];exact g1.fr mf b5 gu lu
theorem Mz(B:il X scope M own)(hc:X.calm=true)(hi:PI X tg iter (lT C X.K ip))(hg:∀fF bx cx ex,PG (eW X scope M own fF bx cx ex) tg (oe X.K g))(ht:∀fF bx cx ex,me (eW X scope M own fF bx cx ex) ifs (fi C X.K t))(he:∀fF bx cx ex,PE (eW X scope M own fF bx cx ex) elt (tD C X.K pe))(hs:∀x,foldedSetIterable iter X.env x=pure x:=by intro _;rfl):PE X (.ListComp elt [⟨tg,iter,ifs,0⟩] scope pos) (tD C X.K (.comp mu own.length g ip t pe)):=(Nf B hc hi hg ht he hs).qx λ σ H Q h=>pI rfl rfl h
theorem qZ{k:Nat}{gg:TG}{tt:TT}{Q nj:VK}(Dj:∀σ H R jm,(∀J H1,R J H1->jm J H1)->wi σ H R->wi σ H jm)(hq:∀v H,Q v H->nj v H)(h:nC wi k gg tt te σ H Q):nC wi k gg tt te σ H nj:=by
 refine Dj σ H _ _ (λJ H1 h1 D hD=>?_) h;obtain⟨W,h0,ht⟩:=h1 D hD;refine⟨W,h0,λi m σ' aa hw=>?_⟩;rcases ht i m σ' aa hw with ⟨a,b⟩ | z
 .exact .inl ⟨a,hq _ _ b⟩
 .exact .inr z
theorem KP:∀σ H R jm,(∀J H1,R J H1->jm J H1)->lT C K ip σ H R->lT C K ip σ H jm:=by
 intro σ H R jm h ah;obtain⟨aj,m,ρ,w,af,S,M,e,q⟩:=ah;exact⟨aj,m,ρ,w,af,S,M,e,λJ aa ρ' g i7 wk=>h _ _ (q J aa ρ' g i7 wk)⟩
def SS(Q:L2.St->Hp->Prop):L2.St->Hp->Prop:=λ σ H=>Q σ H\/∃a u,H a=some u/\iU u/\∀o,Q σ (upd H a (.bq o u))
theorem _root_.L2.PS.Ud{t:TS}(h:PS X st t):PS X st (λE σ H=>t { E with nx:=SS E.nx } σ H):=λpi s σ H E I q=>a9 (h pi s σ H _ I q) λf s' z=>by
 cases f with
 | ret u=>exact z
 | brk=>exact z
 | cont=>exact z
 | next=>
  obtain⟨σ',aa,iq,q | ⟨a,w,ha,c,q⟩⟩:=z
  .exact⟨σ',aa,iq,q⟩
  .obtain⟨o,I2⟩:=freeze iq ha c
   exact⟨σ',_,I2,q o⟩
theorem L9(i:Nat){y:Str}{py qB:Pos}(hN:X.N.Nodup)(xc:X.N[i]?=some y)(hy:X.env.scope.names.lookup y=some .local)(B:il X scope M own)(hc:X.calm=true)(hi:PI X tg iter (lT C X.K ip))(hg:∀fF bx cx ex,PG (eW X scope M own fF bx cx ex) tg (oe X.K g))(ht:∀fF bx cx ex,me (eW X scope M own fF bx cx ex) ifs (fi C X.K t))(he:∀fF bx cx ex,PE (eW X scope M own fF bx cx ex) elt (tD C X.K pe))(xq:swapsWith (.ListComp elt [⟨tg,iter,ifs,0⟩] scope pos) (some (.Name y py)) qB.line X.env=pure true:=by rfl)(hs:∀x,foldedSetIterable iter X.env x=pure x:=by intro _;rfl):PS X (.Assign [.Name y py] (.ListComp elt [⟨tg,iter,ifs,0⟩] scope pos) qB) (l3 C W X.K (.set i (.comp mu own.length g ip t pe))):=
 (MS hN xc hy B hc hi hg ht he xq hs).Ud.imp λE σ H ah=>by
 obtain⟨aj,m,ρ,o,af,S,M,e,q⟩:=ah;obtain⟨⟨d,m1⟩,e1,e⟩:=cj e;cases e;have h:=pI (C:=C) (K:=X.K) (mu:=mu) (k:=own.length) (g:=g) (t:=t) (pe:=pe) (Q:=λx H1=>E.nx (σ.set i (some x)) H1) rfl rfl ⟨aj,m,ρ,d,_,S,M,e1,λv H1 az g1 M1 A1=>q H1 az g1 M1 _ ((S.mono M g1).set i A1)⟩;refine qZ KP (λv H1 z=>?_) h;rcases z with z | ⟨a,u,rfl,ha,cu,z⟩
 .exact .inl z
 .exact .inr ⟨a,u,ha,cu,z⟩
end
def tq(K:p4)(call:List D->Mem->Option (D×Mem)):Sp:=λvs H Q _=>∃ds m ρ d af,a7 K ρ H ds vs/\bp K ρ m H/\call ds m=some (d,af)/\∀v aa,Go ρ ρ H aa->bp K ρ af aa->At K ρ aa d v->Q v aa
def Hd(X:Cx)(C:String->List D->Mem->Option (D×Mem))(f:String):Prop:=∃(k:Nat) (fa:Addr) (fd:FuncData) (ps:List Str),i6 X.prog X.w X.K X.mg X.base jS k fa fd ps (tq X.K (C f))/\gf k X.A/\X.mg (Str.ofString f)=some (.ref fa)/\PySem.W.keepIn X.K (.ref fa)=true/\Binds X.K fd ps []
section
variable{ps:i5}{f:String}
theorem MA(F:Hd X C f)(ha:PA X (e::es) (tw C X.K ps))(hg:Gl X (Str.ofString f):=by kernel_rfl)(jc:(Str.ofString f==("__debug__" : Str))=false:=by decide)(he:starEach (e::es) X.env=(false,eval e X.env)::starEach es X.env:=by kernel_rfl)(jd:(backTo pos (starEach es X.env)).any (·.1)=false:=by kernel_rfl):
  PE X (.Call (.Name (Str.ofString f) p) (e::es) [] pos) (tD C X.K (.call f ps)):=by
 obtain⟨k,fa,fd,qs,F,hr,hm,hk,hb⟩:=F;refine(Nh F hr hg hm hk hb .nil Rw ha jc he jd).imp λ σ H Q ah=>?_
 obtain⟨aj,m,ρ,d,af,S,M,e,q⟩:=ah;obtain⟨⟨xs,m1⟩,e1,e⟩:=aT e;refine⟨aj,m,ρ,xs,m1,S,M,e1,λvs H1 az g1 M1 A1=>?_⟩;show tq X.K (C f) (vs++[]) H1 Q E0;rw[ue];exact⟨xs,m1,az,d,af,A1,M1,e,λv aa g i7 A=>q v aa az (g1.trans g) i7 A⟩
end
theorem _root_.L2.eP.fz{st:List Stmt}(h:eP X st t):eP X st (λE σ H=>t { E with rt:=Fz E.rt } σ H):=λpi s σ H E I q=>a9 (h pi s σ H _ I q) λf s' z=>by
 cases f with
 | next=>exact z
 | brk=>exact z
 | cont=>exact z
 | ret u=>
  obtain⟨v,σ',aa,iq,r,q | ⟨a,w,e,ha,c,q⟩⟩:=z
  .exact⟨v,σ',aa,iq,r,q⟩
  .obtain⟨o,I2⟩:=freeze iq ha c
   exact⟨v,σ',_,I2,r,q o⟩
theorem KW(h:a7 K ρ H ds vs):eQ K ρ H (ds.map some++List.replicate (N.length-ds.length) none) (L2.start N vs):=by
 unfold L2.start;rw[h.len];refine⟨by simp[h.len],λi d e=>?_⟩
 by_cases hi:i<ds.length
 .rw[kh (by simpa using hi),gi]at e
  obtain⟨d',e1,e2⟩:=cj e;cases e2;obtain⟨v,e3,a⟩:=h.get e1;exact⟨v,by rw[kh (by simpa[h.len] using hi),gi,e3];rfl,a⟩
 .rw[rS (by simp;lia)]at e
  have:=jg e;rw[List.mem_replicate]at this;cases this.2
theorem Z7(h:ρ <+: ρ'):ρ'.take ρ.length=ρ:=by
 obtain⟨t,rfl⟩:=h;simp
theorem p7{name:String}{F:Fn}(FN:rh K (Str.ofString name) qual st f fd)(S:XS N ps (HD st))(Ji:ab name=some F)(kq:F.ps=ps.length)(qp:F.ns=N.length)(lj:∀(dr:Value) (A:Around) (outer:List Env) (s:Shared) (H:Hp) (E:XK),gf n (A.deeper (envOfC qual (HD st) s.heap.objs.size f dr))->eP (pG jS P w K mg base N qual (HD st) f dr A outer s H E).u4 (JZ st) (Y9 (CG W ab n) W K F.body)) :
  i6 P w K mg base jS (n+1) f fd ps (tq K (CG W ab (n+1) name)):=by
 refine FN.ok S (λvs H Q E h=>?_) (λdr A outer s H vs Q E hr h=>?_)
 .obtain⟨ds,m,ρ,d,af,as,M,e,_⟩:=h
  unfold CG at e;rw[Ji]at e;have e:(if ds.length=F.ps then _ else none)=some (d,af):=e;split at e
  .rename_i hl
   rw[as.len,hl,kq]
  .cases e
 obtain⟨ds,m,ρ,d,af,as,M,e,q⟩:=h;refine⟨_,(lj dr A outer s H E hr).fz,?_⟩;unfold CG at e;rw[Ji]at e;dsimp only[Option.bind_some]at e;split at e
 case isFalse=>cases e
 rename_i hl
 obtain⟨⟨o,m1⟩,e1,e⟩:=aT e;rw[qp,<-hl]at e1;refine⟨_,m,ρ,o,m1,KW as,M,e1,λaa ρ' g i7=>?_⟩;cases o with
 | nx σ'=>
  have Dm:ρ'.take m.length=ρ:=by rw[<-M.len];exact Z7 g.ex
  have g':Go ρ ρ H aa:=⟨g.fr,List.prefix_rfl,λ_ h=>.inl h⟩
  have Mc:bp K ρ (m1.take m.length) aa:=by have:=i7.cut m.length;rw[Dm]at this;exact this
  have e:some (D.au,m1.take m.length)=some (d,af):=e;cases e;intro σ1 S1;exact q .au aa g' Mc rfl
 | rt d0=>
  intro v A0;obtain⟨d1,e2,e⟩:=cj (show (outD m.length m1 d0).map (λd=>(d,m1.take m.length))=some (d,af) from e);cases e;have Dm:ρ'.take m.length=ρ:=by rw[<-M.len];exact Z7 g.ex
  have g':Go ρ ρ H aa:=⟨g.fr,List.prefix_rfl,λ_ h=>.inl h⟩
  have Mc:bp K ρ (m1.take m.length) aa:=by have:=i7.cut m.length;rw[Dm]at this;exact this
  have plain:d0.clean=true->d0=d->Fz Q v aa:=λhc hd=>by
   subst hd;exact .inl (q v aa g' Mc (A0.clean (λ_ _ _ z=>z) hc))
  have frozen:∀{i:Nat} {u:HO} {a:Addr},ρ'[i]?=some a->m.length<=i->v=.ref a->aa a=some u->iU u->(∀o,J6 aa (upd aa a (.bq o u))->At K ρ (upd aa a (.bq o u)) d v)->Fz Q v aa:=λ {i u a} hi hle hv ha hu Co=>by
   have hn:a∉ρ:=λz=>by
    obtain⟨j,hj,ej⟩:=nz z;have e3:ρ'[j]?=some a:=i8.pre g.ex j a (by rw[fo hj,ej]);obtain⟨h1,x1⟩:=List.getElem?_eq_some_iff.mp hi;obtain⟨h2,x2⟩:=List.getElem?_eq_some_iff.mp e3;have:=(List.getElem_inj i7.nd).mp (x1.trans x2.symm);rw[M.len]at hj;lia
   have uu:H a=none:=by
    rcases g.nw a (jg hi) with z | z
    .exact absurd z hn
    .exact z
   have fe:∀o,J6 aa (upd aa a (.bq o u)):=λo i9 b5 g9 c6=>by
    rw[CK]
    .exact c6
    .rintro rfl;rw[ha]at c6;cases c6;exact hu
   refine .inr ⟨a,u,hv,ha,hu,λo=>q v _ ⟨λb ob hb Vv=>?_,List.prefix_rfl,λ_ h=>.inl h⟩ (Mc.keep (fe o) λb hb=>CK λz=>hn (z▸hb)) (Co o (fe o))⟩;rw[CK (G4 hb uu)];exact g.fr b ob hb Vv
  cases d0 with
  | ao i=>
   obtain⟨a,hi,rfl⟩:=A0;have e2:(if i<m.length then none else match m1[i]? with
    | some (.lst xs)=>if D.clean.cy xs then some (D.lst xs) else none
    | some (.aq ks vs)=>if D.clean.cy vs then some (D.aq ks vs) else none
    | _=>none)=some d:=e2
   split at e2
   case isTrue=>cases e2
   rename_i aar
   split at e2
   .rename_i xs hm
    split at e2
    .rename_i hc
     cases e2;obtain⟨us,ha,bs⟩:=i7.at' i a _ hi hm;exact frozen hi (by lia) rfl ha trivial λo hz=>⟨a,o,us,rfl,DP,bs.clean hz hc⟩
    .cases e2
   .rename_i ks xs hm
    split at e2
    .rename_i hc
     cases e2;obtain⟨kvs,ha,hk,bs⟩:=i7.at' i a _ hi hm;exact frozen hi (by lia) rfl ha trivial λo hz=>⟨a,o,kvs,rfl,DP,hk,bs.clean hz hc⟩
    .cases e2
   .cases e2
  | _=>
   unfold outD at e2;dsimp only at e2;split at e2
   .rename_i hc
    exact plain hc (cq e2)
   .cases e2
end WL
namespace PySem.W
open PyProof.Rows
theorem KasT.vc{α β:Type}{n:Nat}{f:Nat->Nat->Bool}{k:α->KasT β}:∀t:KasT α,(t.bind k).fT n f=(t.fT n f).bind λa=>(k a).fT n f
 | .ret a=>rfl
 | .ask i j q=>by
  show (if i<n/\j<n then ((q (f i j)).bind k).fT n f else none)=(if i<n/\j<n then (q (f i j)).fT n f else none).bind _;split
  .exact KasT.vc _
  .rfl
theorem KasT.yc{f:Nat->Nat->Bool}{k:Bool->KasT α}(hi:i<n)(hj:j<n):(KasT.ask i j k).fT n f=(k (f i j)).fT n f:=ag ⟨hi,hj⟩
structure Ord(n:Nat)(f:Nat->Nat->Bool):Prop where
 j2:∀i j,i<n->j<n->i≠j->f j i=!f i j
 tr:∀i j k,i<n->j<n->k<n->f i j=true->f j k=true->f i k=true
def fj(n:Nat)(p:Array Nat):Prop:=p.toList.Perm (List.range n)
noncomputable def gI(p:Array Nat)(i:Nat):Nat:=p.getD i 0
section
variable{f:Nat->Nat->Bool}{p:Array Nat}
theorem fj.size(h:fj n p):p.size=n:=by
 have:=h.length_eq;simpa using this
theorem fj.get(h:fj n p)(hi:i<n):p[i]?=some (gI p i):=by
 have hs:i<p.size:=by rw[h.size];exact hi
 unfold gI;rw[Array.getD_eq_getD_getElem?,Array.getElem?_eq_getElem hs];rfl
theorem fj.lt(h:fj n p)(hi:i<n):gI p i<n:=by
 have e:=h.get hi;have:gI p i∈p.toList:=by
  rw[<-Array.getElem?_toList]at e;exact jg e
 exact List.mem_range.mp (h.mem_iff.mp this)
theorem fj.inj(h:fj n p)(hi:i<n)(hj:j<n)(e:gI p i=gI p j):i=j:=by
 have hn:p.toList.Nodup:=h.nodup_iff.mpr List.nodup_range;have e1:=h.get hi;have e2:=h.get hj;rw[<-Array.getElem?_toList]at e1 e2;rw[e]at e1;exact(List.getElem?_inj (by rw[eK,h.size];exact hi) hn).mp (e1.trans e2.symm)
def Up(f:Nat->Nat->Bool)(p:Array Nat)(b:Nat):Prop:=∀i j,i<j->j<b->f (gI p i) (gI p j)=true
def Dn(f:Nat->Nat->Bool)(p:Array Nat)(b:Nat):Prop:=∀i j,i<j->j<b->f (gI p j) (gI p i)=true
theorem flip(O:Ord n f)(h:fj n p)(hi:i<n)(hj:j<n)(eL:i≠j)(e:f (gI p i) (gI p j)=false):f (gI p j) (gI p i)=true:=by
 rw[O.j2 _ _ (h.lt hi) (h.lt hj) λq=>eL (h.inj hi hj q),e];rfl
theorem L4(O:Ord n f)(h:fj n p){m:Nat}(hm:1<=m)(hn:m<n)(u:Up f p m)(e:f (gI p (m-1)) (gI p m)=true):Up f p (m+1):=by
 intro i j jv hj
 by_cases CC:j<m
 .exact u i j jv CC
 .obtain rfl:j=m:=by lia
  by_cases CB:i=j-1
  .subst CB;exact e
  .exact O.tr _ _ _ (h.lt (by lia)) (h.lt (by lia)) (h.lt hn) (u i (j-1) (by lia) (by lia)) e
theorem vP(O:Ord n f)(h:fj n p){m:Nat}(hm:1<=m)(hn:m<n)(u:Dn f p m)(e:f (gI p m) (gI p (m-1))=true):Dn f p (m+1):=by
 intro i j jv hj
 by_cases CC:j<m
 .exact u i j jv CC
 .obtain rfl:j=m:=by lia
  by_cases CB:i=j-1
  .subst CB;exact e
  .exact O.tr _ _ _ (h.lt hn) (h.lt (by lia)) (h.lt (by lia)) e (u i (j-1) (by lia) (by lia))
theorem tW(O:Ord n f)(h:fj n p):∀(fu m:Nat),1<=m->m+fu=n->Up f p m->∃r,(kas_asc p fu m).fT n f=some r/\m<=r/\r<=n/\Up f p r/\(r<n->f (gI p r) (gI p (r-1))=true)
 | 0,m,hm,e,u=>⟨m,rfl,a0 _,by lia,u,λq=>by lia⟩
 | fu+1,m,hm,e,u=>by
  have e1:(kas_asc p (fu+1) m).fT n f=_:=KasT.yc (h.lt (show m<n by lia)) (h.lt (show m-1<n by lia));cases c:f (gI p m) (gI p (m-1)) with
  | true=>
   refine⟨m,?_,a0 _,by lia,u,λ_=>c⟩;rw[e1,show f (p.getD m 0) (p.getD (m-1) 0)=true from c,ag rfl];rfl
  | false=>
   obtain⟨r,h1,h2,h3,h4,h5⟩:=tW O h fu (m+1) (by lia) (by lia) (L4 O h hm (by lia) u (flip O h (by lia) (by lia) (by lia) c));refine⟨r,?_,by lia,h3,h4,h5⟩;rw[e1,show f (p.getD m 0) (p.getD (m-1) 0)=false from c,ak (by decide)];exact h1
theorem vQ(O:Ord n f)(h:fj n p):∀(fu m:Nat),1<=m->m+fu=n->Dn f p m->∃r,(kas_desc fu p m 0).fT n f=some (p,r,0)/\m<=r/\r<=n/\Dn f p r
 | 0,m,hm,e,u=>⟨m,rfl,a0 _,by lia,u⟩
 | fu+1,m,hm,e,u=>by
  have e1:(kas_desc (fu+1) p m 0).fT n f=_:=KasT.yc (h.lt (show m<n by lia)) (h.lt (show m-1<n by lia));cases c:f (gI p m) (gI p (m-1)) with
  | true=>
   obtain⟨r,h1,h2,h3,h4⟩:=vQ O h fu (m+1) (by lia) (by lia) (vP O h hm (by lia) u c);refine⟨r,?_,by lia,h3,h4⟩;rw[e1,show f (p.getD m 0) (p.getD (m-1) 0)=true from c,ag rfl,ak (by lia)];exact h1
  | false=>
   have df:=flip O h (by lia) (by lia) (by lia) c;refine⟨m,?_,a0 _,by lia,u⟩;rw[e1,show f (p.getD m 0) (p.getD (m-1) 0)=false from c,ak (by decide),KasT.yc (show p.getD (m-1) 0<n from h.lt (show m-1<n by lia)) (show p.getD m 0<n from h.lt (show m<n by lia)),show f (p.getD (m-1) 0) (p.getD m 0)=true from df,ag rfl];rfl
theorem o7(h:fj n p)(i j:Nat):fj n (kas_rev p i j):=(Array.Perm.toList (mirror_perm p i j _)).trans h
theorem uN(h:fj n p)(hj:j<=n){k:Nat}(hk:k<n):gI (kas_rev p 0 j) k=if k<j then gI p (j-1-k) else gI p k:=by
 have e:=getElem?_mirror_all (xs:=p) (i:=0) (j:=j) (by rw[h.size];exact hj) k;have e1:=(o7 h 0 j).get hk;rw[show (mirror p 0 j ((j-0) / 2))[k]?=some (gI (kas_rev p 0 j) k) from e1]at e
 by_cases q:k<j
 .rw[ag ⟨eS _,q⟩,show 0+j-1-k=j-1-k by lia,h.get (by lia)]at e
  rw[ag q];exact cq e
 .rw[ak (λz=>q z.2),h.get hk]at e
  rw[ak q];exact cq e
theorem LJ(O:Ord n f)(h:fj n p)(h2:2<=n):∃r fA,(kas_count n p).fT n f=some (r,fA)/\fj n fA/\1<=r/\r<=n/\Up f fA r:=by
 obtain⟨m,a1,a2,a3,a4,a5⟩:=tW O h (n-1) 1 (a0 _) (by lia) (λi j _ _=>by lia);have e0:(kas_count n p).fT n f=_:=KasT.vc _;rw[a1,bu]at e0
 by_cases xi:m=n
 .refine⟨m,p,?_,h,by lia,by lia,a4⟩
  rw[e0,ag (by simp[xi])];rfl
 .rw[ak (by simpa using xi)]at e0
  by_cases fh:m > 1
  .refine⟨m,p,?_,h,by lia,by lia,a4⟩
   rw[e0,ag fh,KasT.yc (show p.getD 0 0<n from h.lt (show 0<n by lia)) (show p.getD (m-1) 0<n from h.lt (show m-1<n by lia)),show f (p.getD 0 0) (p.getD (m-1) 0)=true from a4 0 (m-1) (by lia) (by lia),ag rfl];rfl
  .obtain rfl:m=1:=by lia
   rw[ak fh]at e0;have c:=a5 (by lia);obtain⟨r,d1,d2,d3,d4⟩:=vQ O h (n-2) 2 (by lia) (by lia) (vP O h (a0 _) (by lia) (λi j _ _=>by lia) c);have e1:(kas_descPart 1 n p).fT n f=_:=KasT.vc _;rw[show n-(1+1)=n-2 by lia,d1,bu,ak (show ¬(0 > 0) by lia)]at e1;have hp:=o7 h 0 r;have hu:Up f (kas_rev p 0 r) r:=λi j jv hj=>by
    rw[uN h d3 (show i<n by lia),uN h d3 (show j<n by lia),ag (by lia),ag hj];exact d4 _ _ (by lia) (by lia)
   obtain⟨m2,b1,b2,b3,b4,_⟩:=tW O hp (n-r) r (by lia) (by lia) hu;have e2:(kas_tail3 r n p).fT n f=_:=KasT.vc _;rw[b1,bu]at e2;exact⟨m2,kas_rev p 0 r,by rw[e0,e1,e2];rfl,hp,by lia,b3,b4⟩
theorem cI(O:Ord n f)(h:fj n p){k:Nat}(hk:k<n)(u:Up f p k):∀(fu l r:Nat),l<=r->r<=k->r-l<=fu->(∀i,i<l->f (gI p i) (gI p k)=true)->(∀i,r<=i->i<k->f (gI p k) (gI p i)=true)->
  ∃x,(kas_place p k fu l r).fT n f=some x/\x<=k/\(∀i,i<x->f (gI p i) (gI p k)=true)/\(∀i,x<=i->i<k->f (gI p k) (gI p i)=true)
 | 0,l,r,h1,h2,h3,h4,h5=>by
  obtain rfl:l=r:=by lia
  exact⟨l,rfl,h2,h4,h5⟩
 | fu+1,l,r,h1,h2,h3,h4,h5=>by
  by_cases q:l≥r
  .obtain rfl:l=r:=by lia
   refine⟨l,?_,h2,h4,h5⟩;unfold kas_place;rw[ag q];rfl
  .have e1:(kas_place p k (fu+1) l r).fT n f=(if f (gI p k) (gI p ((l+r) / 2))=true then kas_place p k fu l ((l+r) / 2) else kas_place p k fu ((l+r) / 2+1) r).fT n f:=by
    rw[kas_place,ak q];exact KasT.yc (h.lt hk) (h.lt (show (l+r) / 2<n by lia))
   cases c:f (gI p k) (gI p ((l+r) / 2)) with
   | true=>
    obtain⟨x,z1,z2⟩:=cI O h hk u fu l ((l+r) / 2) (by lia) (by lia) (by lia) h4 (λi hi Vg=>by
     by_cases e:i=(l+r) / 2
     .subst e;exact c
     .exact O.tr _ _ _ (h.lt hk) (h.lt (by lia)) (h.lt (by lia)) c (u _ _ (by lia) Vg))
    exact⟨x,by rw[e1,c,ag rfl];exact z1,z2⟩
   | false=>
    have df:=flip O h hk (by lia) (by lia) c;obtain⟨x,z1,z2⟩:=cI O h hk u fu ((l+r) / 2+1) r (by lia) (by lia) (by lia) (λi hi=>by
     by_cases e:i=(l+r) / 2
     .subst e;exact df
     .exact O.tr _ _ _ (h.lt (by lia)) (h.lt (by lia)) (h.lt hk) (u _ _ (by lia) (by lia)) df) h5
    exact⟨x,by rw[e1,c,ak (by decide)];exact z1,z2⟩
theorem wC(h:fj n p){k d:Nat}(hk:k<n)(hd:d<=k)(hi:i<n):gI (bubble p k d) i=if i=k-d then gI p k else if k-d<i/\i<=k then gI p (i-1) else gI p i:=by
 have e:=getElem?_bubble (xs:=p) (src:=k) (by rw[h.size];exact hk) d hd i;have hp:fj n (bubble p k d):=(Array.Perm.toList (bubble_perm p k d)).trans h;rw[hp.get hi]at e
 by_cases q:i=k-d
 .rw[ag q,h.get hk]at e
  rw[ag q];exact cq e
 .rw[ak q]at e ⊢
  by_cases q2:k-d<i/\i<=k
  .rw[ag q2,h.get (by omega)]at e
   rw[ag q2];exact cq e
  .rw[ak q2,h.get hi]at e
   rw[ak q2];exact cq e
theorem Fv(O:Ord n f):∀(fu:Nat) (p:Array Nat) (k:Nat),fj n p->k+fu=n->Up f p k->∃fA,(kas_bin fu p k).fT n f=some fA/\fj n fA/\Up f fA n
 | 0,p,k,h,e,u=>⟨p,rfl,h,by rw[<-e];exact u⟩
 | fu+1,p,k,h,e,u=>by
  have hk:k<n:=by lia
  obtain⟨l,z1,z2,z3,z4⟩:=cI O h hk u k 0 k (eS _) (a0 _) (by lia) (λi hi=>by lia) (λi hi Ir=>by lia);have hp:fj n (bubble p k (k-l)):=(Array.Perm.toList (bubble_perm p k _)).trans h;have hu:Up f (bubble p k (k-l)) (k+1):=λi j jv hj=>by
   rw[wC h hk (by lia) (show i<n by lia),wC h hk (by lia) (show j<n by lia),show k-(k-l)=l by lia]
   by_cases h1:i=l
   .subst h1
    rw[ag rfl,ak (by lia),ag (by lia)];exact z4 _ (by lia) (by lia)
   .rw[ak h1]
    by_cases h2:l<i/\i<=k
    .rw[ag h2,ak (by lia),ag (by lia)]
     exact u _ _ (by lia) (by lia)
    .rw[ak h2]
     by_cases h3:j=l
     .rw[ag h3];exact z3 _ (by lia)
     .rw[ak h3]
      by_cases h4:l<j/\j<=k
      .rw[ag h4];exact u _ _ (by lia) (by lia)
      .rw[ak h4];exact u _ _ jv (by lia)
  obtain⟨fA,w1,w2⟩:=Fv O fu (bubble p k (k-l)) (k+1) hp (by lia) hu;refine⟨fA,?_,w2⟩;have e1:(kas_bin (fu+1) p k).fT n f=_:=KasT.vc _;rw[e1,z1,bu];exact w1
theorem Ni{l:List Nat}(h:∀(i j x y:Nat),i<j->l[i]?=some x->l[j]?=some y->f x y=true):l.Pairwise (λa b=>f a b=true):=by
 rw[List.pairwise_iff_getElem];intro i j hi hj jv;exact h i j _ _ jv (fo hi) (fo hj)
theorem Yv(h2:2<=n)(O:Ord n f):∃p,(kas_sort n).fT n f=some p/\p.toList.Perm (List.range n)/\p.toList.Pairwise (λa b=>f a b=true):=by
 have h0:fj n (List.toArray (List.range n)):=List.Perm.refl _;obtain⟨r,fA,c1,c2,c3,c4,c5⟩:=LJ O h0 h2;have e0:(kas_sort n).fT n f=_:=KasT.vc _;rw[c1,bu]at e0;have fin:∀q:Array Nat,fj n q->Up f q n->q.toList.Pairwise (λa b=>f a b=true):=λq hq hu=>Ni λi j x y jv hx hy=>by
  have hj:j<n:=by
   have:=List.getElem?_eq_some_iff.mp hy;obtain⟨hj,_⟩:=this;rw[eK,hq.size]at hj;exact hj
  rw[Array.getElem?_toList,hq.get (by lia)]at hx;rw[Array.getElem?_toList,hq.get hj]at hy;cases hx;cases hy;exact hu i j jv hj
 by_cases hr:r<n
 .rw[ag hr,show max r 1=r by lia]at e0
  obtain⟨q,w1,w2,w3⟩:=Fv O (n-r) fA r c2 (by lia) c5;exact⟨q,by rw[e0];exact w1,w2,fin q w2 w3⟩
 .rw[ak hr]at e0
  obtain rfl:r=n:=by lia
  exact⟨fA,by rw[e0];rfl,c2,fin fA c2 c5⟩
end
end PySem.W
namespace PySem
def kz(h:Heap)(d:Addr)(es:Array DictEntry)(ep:Nat):Prop:=∃o,h.get? d=some o/\o.ExactDict/\o.data=.dict es ep
section
variable{d:Addr}{es:Array DictEntry}{ep:Nat}
theorem kz.typeIs(x:kz s.heap d es ep):s.TypeIs (.ref d) "dict":=by
 obtain⟨o,ho,he,_⟩:=x;exact⟨o,ho,he.1⟩
theorem kz.lt(x:kz h d es ep):d<h.objs.size:=by
 obtain⟨_,ho,_⟩:=x;exact bh ho
theorem kz.at(x:kz h d es ep)(hk:∀o,h.get? d=some o->h'.get? d=some o):kz h' d es ep:=by
 obtain⟨o,ho,r⟩:=x;exact⟨o,hk o ho,r⟩
theorem Ly(hd:(d==sysModules)=false)(hm:kz s.heap d es ep)(hQ:Q (.ref s.heap.objs.size) { s with heap:=s.heap.push { cls:=.type "dict_keyiterator",data:=.fields #[.ref d,.int 0 0,.int es.size 0,.int ep 0] } }):wpAny (model prog w) A (pyIter (.ref d)) Q E s:=by
 have hT:=hm.typeIs;obtain⟨o,ho,_,fS⟩:=hm;refine wpAny_pyIter_slot hT F.slot_dict_iter (ir F.slot_dict_iter hT F.entry_dict_iter ?_ (F.args_dict_iter_1 _));unfold Builtin.«dict.__iter__»;refine ae ?_;unfold Builtin.Dict.dictSlotNone;refine ae (wpAny_notOrdered_dict hT ?_);show wpAny _ _ (pure (Value.ref d)) _ _ s;refine ai ?_;show wpAny _ _ (Builtin.Dict.showsAll d >>= _) _ _ s;unfold Builtin.Dict.showsAll;rw[ak (by rw[hd];exact d5)];refine ae (ai ?_);refine ae (wpAny_dictEntries ho fS ?_);refine ae (wpAny_dictEpoch ho fS ?_);exact ae (jr (ai ⟨_,rfl,"dict_keyiterator",_,⟨_,dj _ rfl,rfl⟩,F.slot_dict_keyiterator_next.lookup,hQ⟩))
theorem Lr{e:DictEntry}{Q:Option Value->Shared->Prop}(hit:s.heap.IsKeyIter it d i es.size ep)(hm:kz s.heap d es ep)(hx:es[i]?=some e)(hQ:∀h',h'.IsKeyIter it d (i+1) es.size ep->Heap.SameBut it s.heap h'->Q (some e.key) { s with heap:=h' }):wpAny (model prog w) A (pyNext (.ref it)) Q E s:=by
 obtain⟨o,ho,hc,hd⟩:=id hit;obtain⟨od,kM,jt,iy⟩:=hm;unfold pyNext;refine ae (wpAny_attempt (wpAny_callSpecial?_slot (name:=Str.ofString "__next__") hit.typeIs F.slot_dict_keyiterator_next
  (ir F.slot_dict_keyiterator_next hit.typeIs F.entry_dict_keyiterator_next ?_ (F.args_dict_keyiterator_next_1 _))))
 refine ae (ai ?_);refine ae ?_;refine ae ?_
 first | refine ae (wpAny_typeNameOfWhole_keyiter hit.typeIs (ai ?_)) | refine ae (wpAny_typeNameOf_keyiter hit.typeIs (ai ?_))
 refine ae (wpAny_fieldsOf ho hd ?_);have uv:Builtin.Dict_items.ownsTuple "dict_keyiterator" = false:=by decide
 simp only[uv,Bool.false_eq_true,if_false];show wpAny _ _ (if (Value.ref d==Value.none)=true then _ else _) _ _ s;rw[ak (show ¬((Value.ref d==Value.none)=true) from d5)];refine ae (ai ?_);refine ae (wpAny_dictEntries kM iy ?_);rw[ak (by simp)];refine ae (ai ?_);refine ae (wpAny_dictEpoch kM iy ?_);rw[ak (by simp)];refine ai ?_;obtain⟨cp,he⟩:=Array.getElem?_eq_some_iff.mp hx;simp only[show ¬((i:Int)<0) from by lia,if_false,Int.toNat_natCast,Array.getElem?_eq_getElem cp];refine ae ?_
 first | refine ae (wpAny_typeNameOfWhole_keyiter hit.typeIs (ai ?_)) | refine ae (wpAny_typeNameOf_keyiter hit.typeIs (ai ?_))
 refine ae (wpAny_isOneOf_keyiter hit.typeIs ?_);show wpAny _ _ (setField (.ref it) 1 (rawInt ((i:Int)+1)) >>= _) _ _ s;refine ae (wpAny_setField ho hd (by simp) ?_);have zI:(s.heap.update it (Obj.mapFields (·.setIfInBounds 1 (rawInt ((i:Int)+1))))).IsKeyIter it d (i+1) es.size ep:=
  ⟨_,k7 _ ho (Obj.isFreed_of_fields (Obj.data_mapFields hd _)),(Obj.cls_mapFields ..).trans hc,by rw[Obj.data_mapFields hd];simp[rawInt]⟩
 refine ae (f6 ?_);refine ae (wpAny_isOneOf_keyiter (s:={ s with heap:=s.heap.update it (Obj.mapFields (·.setIfInBounds 1 (rawInt ((i:Int)+1)))) }) zI.typeIs ?_);show wpAny _ _ (pure es[i].key) _ _ _;rw[he];exact ai (ai ⟨_,rfl,ai (hQ _ zI (wb ..))⟩)
theorem Oc{Q:Option Value->Shared->Prop}(hh:A.handled=none)(hit:s.heap.IsKeyIter it d i es.size ep)(hm:kz s.heap d es ep)(hx:es.size<=i)(hQ:∀h',Heap.ExtBut it s.heap h'->Q none { s with heap:=h' }):wpAny (model prog w) A (pyNext (.ref it)) Q E s:=by
 obtain⟨o,ho,hc,hd⟩:=id hit;obtain⟨od,kM,jt,iy⟩:=hm;unfold pyNext;refine ae (wpAny_attempt (wpAny_callSpecial?_slot (name:=Str.ofString "__next__") hit.typeIs F.slot_dict_keyiterator_next
  (ir F.slot_dict_keyiterator_next hit.typeIs F.entry_dict_keyiterator_next ?_ (F.args_dict_keyiterator_next_1 _))))
 refine ae (ai ?_);refine ae ?_;refine ae ?_
 first | refine ae (wpAny_typeNameOfWhole_keyiter hit.typeIs (ai ?_)) | refine ae (wpAny_typeNameOf_keyiter hit.typeIs (ai ?_))
 refine ae (wpAny_fieldsOf ho hd ?_);have uv:Builtin.Dict_items.ownsTuple "dict_keyiterator" = false:=by decide
 simp only[uv,Bool.false_eq_true,if_false];show wpAny _ _ (if (Value.ref d==Value.none)=true then _ else _) _ _ s;rw[ak (show ¬((Value.ref d==Value.none)=true) from d5)];refine ae (ai ?_);refine ae (wpAny_dictEntries kM iy ?_);rw[ak (by simp)];refine ae (ai ?_);refine ae (wpAny_dictEpoch kM iy ?_);rw[ak (by simp)];refine ai ?_;simp only[show ¬((i:Int)<0) from by lia,if_false,Int.toNat_natCast,Array.getElem?_eq_none hx];refine ae ?_
 first | refine ae (wpAny_typeNameOfWhole_keyiter hit.typeIs (ai ?_)) | refine ae (wpAny_typeNameOf_keyiter hit.typeIs (ai ?_))
 show wpAny _ _ (setField (.ref it) 0 .none >>= _) _ _ s;refine ae (wpAny_setField ho hd (by simp) ?_);show wpAny _ _ (newExc (.type "StopIteration") [] >>= _) _ _ _;refine ae ?_;simp only[newExc,newTuple];refine ae (jr ?_ (by size_fits));refine ae (m:=firstArgMember _ _) (wpAny_of_eq (a:=Value.none) (by first | rfl | (simp only[firstArgMember];rfl)) ?_);refine jr ?_ (by size_fits);simp only[raiseNew];refine ae (wpAny_handled ?_);rw[show A.in1.handled=none from hh];refine ae (ai (wpAny_throw ?_));refine ae (wpAny_isInstance (T:="StopIteration") (b:=true) ⟨_,dj _ rfl,rfl⟩ isSubtype_stop ?_);exact ai (hQ _ (((wb ..).extBut.push _).push _))
theorem Walks.raw(hh:A.handled=none)(I d:Addr)(eL:d≠I)(es:Array DictEntry)(ep:Nat):
  Walks prog w A I [I,d] [I] es.size (λi v=>∃e,es[i]?=some e/\v=e.key) (λi h=>h.IsKeyIter I d i es.size ep/\kz h d es ep) where
 sub:=λb hb=>by simp at hb;simp[hb]
 frame:=λ_ _ _ st hk=>⟨st.1.at λo e=>hk I (by simp) o e,st.2.at λo e=>hk d (by simp) o e⟩
 item:=λi s Q E hi st hQ=>by
  have hx:es[i]?=some es[i]:=Array.getElem?_eq_getElem hi;refine Lr st.1 st.2 hx λh' zI kr=>?_
  exact hQ _ h' s.toks ⟨_,hx,rfl⟩ ⟨zI,st.2.at λo e=>kr.extBut d o eL e⟩ λb o hb e=>kr.extBut b o (λh=>hb (by simp[h])) e
 done:=λs Q E st hQ=>Oc hh st.1 st.2 (a0 _) λh' Cv=>hQ h' s.toks λb o hb e=>Cv b o (λh=>hb (by simp[h])) e
 self:=λ_ _ _ _ st hQ=>wpAny_pyIter_keyiter st.1 hQ
end
namespace W
section
variable{d:Addr}{es:Array DictEntry}{ep:Nat}
theorem Wy(lo:(d==sysModules)=false):KdlSrc prog w "dict" d d es.size (λi v=>∃e,es[i]?=some e/\v=e.key) (λh=>kz h d es ep) where
 type:=λ_ hm=>hm.typeIs
 there:=λ_ hm=>⟨hm.lt,hm.lt⟩
 keep:=λ_ _ hm hk=>hm.at λo e=>hk d (.inl rfl) o e
 notList:=by decide
 notTuple:=by decide
 hint:=λ_ _ _ _ hm hq=>kdl_hint_dict hm.typeIs hq
 iter:=λ_ _ hh hm=>⟨_,_,(λ_ _ hq=>Ly lo hm hq),Walks.raw hh _ d (cm hm.lt) es ep,⟨⟨_,dj _ rfl,rfl,rfl⟩,hm.at λo e=>dg _ e⟩⟩
end
end W
end PySem
namespace L2
open PySem PySem.Spec PyProof.Rows
def V9(K:p4)(H:Hp)(k:FK)(b:Addr):Prop:=∃c,dS K H b [.str k.1,.ref c]/\dS K H c [.str k.2.1,kV k.2.2]
theorem aM(I:Inv X pi σ H s){k:FK}{b:Addr}(h:V9 X.K H k b):gk X.prog X.w s.heap k b:=by
 obtain⟨c,hb,hc⟩:=h;obtain⟨its,r,⟨o,e,cl,n,d⟩,_⟩:=I.tuple hb;obtain⟨its',bE,⟨b5,aE,Tu,mT,d'⟩,_⟩:=I.tuple hc;cases r with
 | cons r1 t1=>
  cases t1 with
  | cons r2 t2=>
   cases t2;obtain⟨t,rfl⟩:=r1;cases r2;cases bE with
   | cons q1 u1=>
    cases u1 with
    | cons q2 u2=>
     cases u2;obtain⟨t',rfl⟩:=q1;refine⟨o,_,n,t,c,e,cl,d,rfl,b5,_,mT,aE,Tu,d',?_⟩;exact .cons (T3 (prog:=X.prog) (w:=X.w)) (.cons (cQ q2) .nil)
theorem LH(h:Heap)(hb:sysModules<h.objs.size):dw P w H (h.push { cls:=.type "dict",data:=.dict #[] }) h.objs.size (.dF []):=by
 obtain⟨z,lo,xs,r,o,es,ep,q⟩:=LF (P:=P) (w:=w) (H:=H) h hb;cases r;exact⟨eS _,lo,o,es,ep,q.1,q.2.1,q.2.2.1,q.2.2.2.1,mq⟩
def Rh:TE:=λ_ H Q=>∀p,H p=none->Q (.ref p) (upd H p (.dF []))
theorem XN:PE X (.Dict [] [] pos) Rh:=λpi s σ H Q I h=>
 wpAny_Dict_empty ⟨.ref s.heap.objs.size,_,I.laid (a:=s.heap.objs.size) (o:=.dF []) (t':=s.toks) (λ_ _ q=>dg _ q) (a0 _) (LH s.heap I.big),rfl,h _ (I.aS.fresh (a0 _))⟩
noncomputable def eO(xs:List (FK×Addr))(k:FK)(b:Addr):List (FK×Addr):=if xs.any (λx=>decide (x.1=k)) then xs else xs++[(k,b)]
noncomputable def yX(xs:List (FK×Addr)):List (FK×Addr×Value):=xs.map λx=>(x.1,x.2,.bool true)
theorem u6(xs:List (FK×Addr)):(yX xs).map (·.1)=xs.map (·.1):=by unfold yX;rw[bS];rfl
theorem FE:∀{xs:List (FK×Addr)} {k:FK},(atKey (yX xs) k).isSome=xs.any (λx=>decide (x.1=k))
 | [],k=>rfl
 | x::r,k=>by
  have ih:=FE (xs:=r) (k:=k);unfold atKey yX at ih ⊢
  by_cases h:x.1=k
  .simp[h]
  .simp only[cn,List.find?_cons,h,decide_false,List.any_cons,Bool.false_or]
   exact ih
theorem OT(xs:List (FK×Addr))(k:FK)(b:Addr):storedH (yX xs) k b (.bool true)=yX (eO xs k b):=by
 unfold storedH eO;rw[FE]
 by_cases h:xs.any (λx=>decide (x.1=k))=true
 .rw[ag h,ag h]
  unfold yX;rw[bS];refine ke λx _=>?_
  simp only[Function.comp,putAt];split<;>rfl
 .rw[ak h,ak h]
  simp[yX]
theorem sZ{b:Addr}{k:FK}{xs:List (FK×Addr)}{Q:Unit->Shared->Prop}(hu:A.units+11<cLine)(I:Inv X pi σ H s)(e:H a=some (.dF xs))(hk:V9 X.K H k b)(hx:∀x∈xs,V9 X.K H x.1 x.2)(l:xs.length<sizeLine)(h:∀s',Inv X pi σ (upd H a (.dF (eO xs k b))) s'->Q () s'):wpAny (model X.prog X.w) A (setItem (.ref a) (.ref b) (.bool true)) Q E s:=by
 obtain⟨z,lo,o,es,ep,ho,hex,hd,zw,cE⟩:=(show dw X.prog X.w H s.heap a (.dF xs) from I.aS a _ e)
 have dd:s.heap.DictOfH (cY X.prog X.w) a (yX xs):=⟨o,es,ep,ho,hex,hd,by rw[zw];unfold yX;rw[bS];rfl,λy hy=>by
  obtain⟨x,kP,rfl⟩:=cw hy;exact aM I (hx x kP),by rw[u6];exact cE⟩
 have hl:(eO xs k b).length<=sizeLine:=by
  unfold eO;split
  .exact z
  .simp;omega
 refine wpAny_setItem_heap (knd:=cY X.prog X.w) (hsz:=by rw[yX,a8];exact z) (show A.units+1+10<cLine by omega) (aM I hk) dd λh' nB hs=>h _ ?_
 rw[OT]at nB;obtain⟨q,iX,jq,hq,h2,h3,h4,_,h5⟩:=nB;refine aR I (by rw[e];exact True.intro) hs ⟨q,hq⟩ ⟨hl,lo,q,iX,jq,hq,h2,h3,?_,by rw[u6]at h5;exact h5⟩;rw[h4];unfold yX;rw[bS];rfl
def Rq(K:p4)(td ty:TE):TS:=λD σ H=>td σ H λx H1=>ty σ H1 λy H2=>∃a b k xs,x=.ref a/\y=.ref b/\H2 a=some (.dF xs)/\V9 K H2 k b/\(∀x∈xs,V9 K H2 x.1 x.2)/\xs.length<sizeLine/\D.nx σ (upd H2 a (.dF (eO xs k b)))
theorem MT{i:Expr}(hu:X.A.units+11<cLine)(ho:PE X o td)(hi:PE X i ty)(hs:swapsWith (.Constant (.bool true) j p1) (some (.Subscript o i pos')) pos.line X.env=pure false:=by rfl):
  PS X (.Assign [.Subscript o i pos'] (.Constant (.bool true) j p1) pos) (Rq X.K td ty):=by
 intro pi s σ H D I h;refine wpAny_Assign_Subscript (a9 (F3 pi s σ H (λv H1=>v=.bl true/\H1=H) I ⟨rfl,rfl⟩) λr s1 ah=>?_) hs;obtain⟨v,H1,I1,rv,ev,eh⟩:=ah;subst ev eh;obtain rfl:r=Value.bool true:=rv;refine a9 (ho pi s1 σ _ _ I1 h) λu s2 ⟨x,H2,I2,rx,q2⟩=>a9 (hi pi s2 σ H2 _ I2 q2) λiv s3 ah=>?_
 obtain⟨y,H3,I3,ry,a,b,k,xs,ex,ey,e,hk,hx,l,q3⟩:=ah;subst ex ey;obtain rfl:u=Value.ref a:=rx;obtain rfl:iv=Value.ref b:=ry;exact sZ hu I3 e hk hx l λs4 I4=>⟨σ,_,I4,q3⟩
structure nv{α:Type}(f:α->α->Bool):Prop where
 nV:∀a,f a a=false
 j2:∀a b,a≠b->f b a=!f a b
 tr:∀a b c,f a b=true->f b c=true->f a c=true
noncomputable def yt(a b:Str):Bool:=decide (a.cps.toList<b.cps.toList)
theorem ve:nv yt where
 nV:=λa=>dn (List.lt_irrefl _)
 j2:=λa b h=>LI h
 tr:=λa b c h1 h2=>dm (List.lt_trans (f7 h1) (f7 h2))
theorem Ap:nv rY where
 nV:=λa=>by
  cases a with
  | inl i=>simp[rY]
  | inr x=>exact ve.nV x
 j2:=λa b h=>by
  cases a with
  | inl i=>
   cases b with
   | inl j=>
    have:i≠j:=λe=>h (by rw[e])
    simp only[rY]
    by_cases q:i<j
    .rw[dm q,dn (by lia)];rfl
    .rw[dn q,dm (by lia)];rfl
   | inr y=>rfl
  | inr x=>
   cases b with
   | inl j=>rfl
   | inr y=>exact ve.j2 x y λe=>h (by rw[e])
 tr:=λa b c h1 h2=>by
  cases a with
  | inl i=>
   cases b with
   | inl j=>
    cases c with
    | inl k=>simp only[rY,decide_eq_true_eq]at h1 h2 ⊢;lia
    | inr z=>rfl
   | inr y=>
    cases c with
    | inl k=>cases h2
    | inr z=>rfl
  | inr x=>
   cases b with
   | inl j=>cases h1
   | inr y=>
    cases c with
    | inl k=>cases h2
    | inr z=>exact ve.tr x y z h1 h2
noncomputable def rU{α β:Type}[DecidableEq α][DecidableEq β](f:α->α->Bool)(g:β->β->Bool)(p q:α×β):Bool:=if p.1=q.1 then (if p.2=q.2 then false else g p.2 q.2) else f p.1 q.1
theorem lC{α β:Type}[DecidableEq α][DecidableEq β]{f:α->α->Bool}{g:β->β->Bool}(F:nv f)(G:nv g):nv (rU f g) where
 nV:=λa=>by simp[rU]
 j2:=λa b h=>by
  unfold rU
  by_cases h1:a.1=b.1
  .have h2:a.2≠b.2:=λe=>h (Prod.ext h1 e)
   rw[ag h1,ag h1.symm,ak h2,ak (Ne.symm h2)];exact G.j2 _ _ h2
  .rw[ak h1,ak (Ne.symm h1)]
   exact F.j2 _ _ h1
 tr:=λa b c h1 h2=>by
  unfold rU at h1 h2 ⊢
  by_cases e1:a.1=b.1
  .rw[ag e1]at h1
   by_cases e2:b.1=c.1
   .rw[ag e2]at h2
    rw[ag (e1.trans e2)]
    by_cases q1:a.2=b.2
    .rw[ag q1]at h1;cases h1
    .rw[ak q1]at h1
     by_cases q2:b.2=c.2
     .rw[ag q2]at h2;cases h2
     .rw[ak q2]at h2
      have:=G.tr _ _ _ h1 h2;rw[ak λe=>by rw[e,G.nV]at this;cases this];exact this
   .rw[ak e2]at h2
    rw[ak λe=>e2 (e1.symm.trans e),e1];exact h2
  .rw[ak e1]at h1
   by_cases e2:b.1=c.1
   .rw[ag e2]at h2
    rw[ak λe=>e1 (e.trans e2.symm),<-e2];exact h1
   .rw[ak e2]at h2
    have:=F.tr _ _ _ h1 h2;rw[ak λe=>by rw[e,F.nV]at this;cases this];exact this
theorem NS:cW=rU yt (rU yt rY):=by
 funext p q;rfl
theorem rL:nv cW:=by rw[NS];exact lC ve (lC ve Ap)
theorem JI{ps:List (Str×Int)}(h:(ps.map (·.1)).Nodup):ps.Nodup:=(List.pairwise_map.mp h).imp λh e=>h (by rw[e])
theorem NI:nv (λi j:Int=>decide (i<j)) where
 nV:=λa=>Ap.nV (.inl a)
 j2:=λa b h=>Ap.j2 (.inl a) (.inl b) λe=>h (Sum.inl.inj e)
 tr:=λa b c=>Ap.tr (.inl a) (.inl b) (.inl c)
theorem MW:nv cH:=(show cH=rU yt (λi j:Int=>decide (i<j)) from rfl)▸lC ve NI
section
variable{α:Type}{lt:α->α->Bool}
noncomputable def Bu(lt:α->α->Bool)(d0:α×Addr)(fs:List (α×Addr))(i j:Nat):Bool:=lt (fs.getD i d0).1 (fs.getD j d0).1
theorem LV(O:nv lt){fs:List (α×Addr)}(hn:(fs.map (·.1)).Nodup):PySem.W.Ord fs.length (Bu lt d0 fs) where
 j2:=λi j hi hj h=>O.j2 _ _ λe=>by
  have e1:(fs.map (·.1))[i]'(by simpa using hi)=(fs.getD i d0).1:=by simp[List.getD_eq_getElem?_getD,hi]
  have e2:(fs.map (·.1))[j]'(by simpa using hj)=(fs.getD j d0).1:=by simp[List.getD_eq_getElem?_getD,hj]
  exact h ((List.getElem_inj hn).mp (e1.trans (e.trans e2.symm)))
 tr:=λi j k _ _ _ h1 h2=>O.tr _ _ _ h1 h2
theorem QL(l:List α)(d:α){js:List Nat}(h:js.Perm (List.range l.length)):(js.map λj=>l.getD j d).Perm l:=by
 have e:(List.range l.length).map (λj=>l.getD j d)=l:=by
  apply List.ext_getElem?;intro i
  by_cases hi:i<l.length
  .rw[gi,List.getElem?_range hi]
   simp[List.getD_eq_getElem?_getD,hi]
  .rw[List.getElem?_eq_none (by simp;lia),List.getElem?_eq_none (by lia)]
 have:=h.map λj=>l.getD j d
 rw[e]at this;exact this
theorem YF:∀fs:List (α×Addr),Vals (fs.map λx=>V.ref x.2) (fs.map λx=>Value.ref x.2)
 | []=>.nil
 | x::r=>.cons rfl (YF r)
theorem xG{fs:List (α×Addr)}:∀{its:List Value},Vals (fs.map λx=>V.ref x.2) its->its=fs.map λx=>Value.ref x.2:=by
 induction fs with
 | nil=>intro its h;cases h;rfl
 | cons x r ih=>
  intro its h;cases h with
  | cons a b=>
   cases a;rw[ih b];rfl
abbrev mW (lt:α->α->Bool) (fs:List (α×Addr)) (H:Hp) (Q:VK):Prop:=∀(p:Addr) (ys:List (α×Addr)),H p=none->ys.Perm fs->ys.Pairwise (λx y=>lt x.1 y.1=true)->Q (.ref p) (upd H p (.lst (ys.map λx=>V.ref x.2)))
variable{fs:List (α×Addr)}{Q:VK}
abbrev vp (X:Cx) (pi:List (Addr×Obj)) (σ:St) (s:Shared) (fs:List (α×Addr)) (Q:VK):Prop:=wpAny (model X.prog X.w) X.A.in1 (call (.builtin "list.sort") [.ref s.heap.objs.size]) (λ_ s'=>EP X pi σ Q (.ref s.heap.objs.size) s') X.xe { s with heap:=s.heap.push (seqObj "list" (fs.map λx=>Value.ref x.2).toArray 0) }
theorem nM{P:Heap->α->Addr->Prop}(O:nv lt)(d0:α×Addr)(hk:∀(h h1:Heap) k b,(∀c o xs n,h.get? c=some o->o.data=.seq xs n->h1.get? c=some o)->P h k b->P h1 k b)(ht:∀h k b,P h k b->∃ob items n y t,h.get? b=some ob/\ob.cls=.type "tuple"/\ob.data=.seq items n/\items[0]?=some (Value.str y t))(UO:∀(A:Around) (E:Value->Shared->Prop) (h1:Heap) (C:Bool->Shared->Prop) x y,x∈fs->y∈fs->A.units=X.A.units+1+1->P h1 x.1 x.2->P h1 y.1 y.2->C (lt x.1 y.1) { s with heap:=h1 }->wpAny (model X.prog X.w) A (keyLt' (tuples' true) (.ref x.2) (.ref y.2)) C E { s with heap:=h1 })(I:Inv X pi σ H s)(Cz:∀x∈fs,P s.heap x.1 x.2)(cE:(fs.map (·.1)).Nodup)(dz:fs.length<64)(q:mW lt fs H Q):vp X pi σ s fs Q:=by
 unfold vp;have hz:(fs.map λx=>V.ref x.2).length<=sizeLine:=by rw[a8,fq];lia
 have xj:(s.heap.push (seqObj "list" (fs.map λx=>Value.ref x.2).toArray 0)).get? s.heap.objs.size=some (seqObj "list" (fs.map λx=>Value.ref x.2).toArray 0):=dj _ rfl
 by_cases Ja:fs.length<2
 .refine ir slot_list_sort ⟨_,xj,rfl⟩ entry_list_sort (ZW xj (by rw[a8];exact Ja) ⟨_,rfl,?_⟩) (args_list_sort _)
  obtain⟨c,UK⟩:=sortedHeap_at (vs:=fs.map λx=>Value.ref x.2) (out:=(pairsOf (fs.map λx=>Value.ref x.2)).map (·.2)) xj;have Ad:((pairsOf (fs.map λx=>Value.ref x.2)).map (·.2))=(fs.map λx=>Value.ref x.2).toArray:=by
   apply Array.ext';rw[Array.toList_map,pairsOf_toList,List.map_snd_zip (a0 _)]
  refine⟨.ref s.heap.objs.size,_,I.laid (a:=s.heap.objs.size) (o:=.lst (fs.map λx=>V.ref x.2)) (t':=s.toks) (λb ob e=>?_) (a0 _) ⟨hz,fs.map λx=>Value.ref x.2,c,YF fs,?_⟩,rfl,q _ fs (I.aS.fresh (a0 _)) (List.Perm.refl _) ?_⟩
  .have hb:b<s.heap.objs.size:=bh e
   rw[sortedHeap_old (cm hb) (by rw[mE];exact mh hb)];exact dg _ e
  .rw[UK,Ad]
  .match fs,Ja with
   | [],_=>exact List.Pairwise.nil
   | [x],_=>exact List.pairwise_singleton _ _
   | _::_::_,h=>simp at h;lia
 .obtain⟨m,hm,_⟩:=I.loc
  have F0:=tP.Uc hm;have N0:=Ls (g:=uf s) (h:=s.heap) (L:=X.env.locals);have SR:=F0.push (seqObj "list" (fs.map λx=>Value.ref x.2).toArray 0);have S4:=News.push F0 N0 (seqObj "list" (fs.map λx=>Value.ref x.2).toArray 0) rfl;have cp:∀b∈UJ (uf s) s.heap X.env.locals,b.1<s.heap.objs.size:=λb hb=>bh (N0 b hb).1
  generalize aal:s.heap.objs.size=D at *;generalize aam:s.heap.push (seqObj "list" (fs.map λx=>Value.ref x.2).toArray 0)=hP at *;have hlen:(fs.map λx=>Value.ref x.2).length=fs.length:=a8 _;refine PySem.W.kat_lsort (s:={ s with heap:=hP }) (vs:=fs.map λx=>Value.ref x.2) SR S4 (.head λb hb=>cm (cp b hb)) (by simp) (by lia) (by lia) λe1 h1 F1 N1=>?_
  have keep:=Z8 (X:=X) (s:=s) N1;have nD:=(N1 (D,_) b0).2.1;have hD:s.heap.get? D=none:=by
   cases e:s.heap.get? D with
   | none=>rfl
   | some ob=>exact absurd (cp (D,ob) (ZC nD (tP.DJ _ _) e)) (hZ _)
  have hn:H D=none:=by
   cases e:H D with
   | none=>rfl
   | some u=>
    obtain⟨Xv,aE⟩:=(I.aS D u e).there;rw[hD]at aE;cases aE
  have Xr:∀c o xs n,s.heap.get? c=some o->o.data=.seq xs n->c≠X.env.locals:=λc o xs n e d zz=>by
   obtain⟨ol,_,_,el,dl,_⟩:=hm;rw[zz,el]at e;cases e;rw[dl]at d;cases d
  have CA:∀x∈fs,P h1 x.1 x.2:=λx hx=>hk _ _ _ _ (λc o xs n e d=>keep c o (Xr c o xs n e d) e) (Cz x hx)
  have l5:∀l:List (α×Addr),(∀x∈l,P h1 x.1 x.2)->∃gs,PySem.W.KatTups h1 (l.map λx=>Value.ref x.2) gs/\gs.length=l.length/\∀v∈gs,∃y t,v=Value.str y t:=by
   intro l
   induction l with
   | nil=>exact λ_=>⟨[],.nil,rfl,by simp⟩
   | cons x r ih=>
    intro hx;obtain⟨gs,g1,g2,g3⟩:=ih λy hy=>hx y (b7 _ hy)
    obtain⟨ob,items,n,y,t,nT,dA,iy,hi⟩:=ht _ _ _ (hx x b0);refine⟨.str y t::gs,.cons nT dA iy hi g1,by simp[g2],λv hv=>?_⟩;rcases ck hv with rfl | hv
    .exact⟨_,_,rfl⟩
    .exact g3 v hv
  obtain⟨gs,t1,t2,t3⟩:=l5 fs CA;refine PySem.W.kat_kind (s:={ s with heap:=h1 }) (T:=.type "str") t1 (by lia) (λv hv=>?_) (by decide) ?_
  .obtain⟨x,t,rfl⟩:=t3 v hv
   exact .now
  .show PySem.W.KasT.kasWp _ _ _ _
   rw[hlen];obtain⟨p,VU,sx,VT⟩:=PySem.W.Yv (n:=fs.length) (f:=Bu lt d0 fs) (by lia) (LV O cE);refine PySem.W.KasT.Kf (n:=fs.length) (t9:=Bu lt d0 fs) (λi j hi hj C hC=>?_) _ VU ?_
   .have ei:(fs.map λx=>Value.ref x.2).getD i Value.none=.ref (fs.getD i d0).2:=by simp[List.getD_eq_getElem?_getD,hi]
    have ej:(fs.map λx=>Value.ref x.2).getD j Value.none=.ref (fs.getD j d0).2:=by simp[List.getD_eq_getElem?_getD,hj]
    have mi:fs.getD i d0∈fs:=by simp[List.getD_eq_getElem?_getD,hi]
    have mj:fs.getD j d0∈fs:=by simp[List.getD_eq_getElem?_getD,hj]
    unfold PySem.W.kas_ask;rw[ei,ej];exact UO _ _ h1 _ _ _ mi mj rfl (CA _ mi) (CA _ mj) hC
   .refine PySem.W.KasFin.intro (s:={ s with heap:=h1 }) F1 N1 (.head λb hb=>cm (cp b hb)) λh2 c F2 N2=>?_
    have IU:=QL fs d0 sx;have e2:(p.toList.map λi=>(fs.map λx=>Value.ref x.2).getD i Value.none)=(p.toList.map λj=>fs.getD j d0).map λx=>Value.ref x.2:=by
     rw[bS];refine ke λj hj=>?_
     have sm:=List.mem_range.mp (sx.mem_iff.mp hj);simp[List.getD_eq_getElem?_getD,sm]
    rw[e2]at N2;refine⟨.ref D,_,I.Xm (t':=s.toks) (o:=.lst ((p.toList.map λj=>fs.getD j d0).map λx=>V.ref x.2)) hm F2 N2 hD ⟨?_,_,c,YF _,(N2 (D,_) b0).1⟩,rfl,q D _ hn IU ?_⟩
    .rw[a8,IU.length_eq,fq];lia
    .rw[List.pairwise_map]
     exact VT
theorem dN{G:Hp->List (α×Addr)->Prop}(hS:∀{pi:List (Addr×Obj)} {σ:St} {H:Hp} {s:Shared} {fs:List (α×Addr)} {Q:VK},Inv X pi σ H s->fs.length<64->G H fs->mW lt fs H Q->vp X pi σ s fs Q):
  fI X (.builtin "sorted") (λxs H Q=>∃a fs,xs=[.ref a]/\b9 X.K H a (fs.map λx=>V.ref x.2)/\fs.length<64/\G H fs/\mW lt fs H Q):=by
 intro pi s σ H xs us Q I r h;obtain⟨a,fs,rfl,ha,dz,hG,q⟩:=h;obtain⟨u,rfl,ru⟩:=vals1 r;cases ru;obtain⟨its,rv,pl,hz⟩:=I.list ha;rw[xG rv]at pl;refine wu kind_sorted plain_sorted entry_sorted (args_sorted1 _) ?_;unfold Builtin.«sorted»;refine ae (m:=checkCount "sorted" 1 1 _) (ai ?_);refine ae (collect_list pl.isList ?_ (by rw[a8,fq];lia));refine ae (ug ?_ (by rw[a8,fq];lia));have kp:∀b o,s.heap.get? b=some o->((s.heap.push (seqObj "list" #[] 0)).update s.heap.objs.size (Obj.mapSeq (·++(fs.map λx=>Value.ref x.2).toArray))).get? b=some o:=λb o e=>(wb _ _ _).extBut b o (cm (bh e)) (dg _ e)
 generalize (s.heap.push (seqObj "list" #[] 0)).update s.heap.objs.size (Obj.mapSeq (·++(fs.map λx=>Value.ref x.2).toArray))=h1 at kp ⊢;have I1:Inv X pi σ H { s with heap:=h1 }:=I.kept (t':=s.toks) kp;refine ae (f6 (ff (hS (s:={ s with heap:=h1 }) I1 dz hG q) (λ_ s' x=>?_) λ_ _ e=>e));exact ai ⟨_,rfl,x⟩
end
section
variable{Q:VK}
def GY(h:Heap)(p:Str×Int)(b:Addr):Prop:=∃t1 t2,IsTup h b #[.str p.1 t1,.int p.2 t2]
theorem nJ{fs:List ((Str×Int)×Addr)}(I:Inv X pi σ H s)(dz:fs.length<64)(hG:(fs.map (·.1)).Nodup/\∀x∈fs,GY s.heap x.1 x.2)(q:mW cH fs H Q):vp X pi σ s fs Q:=
 nM (P:=GY) MW ((⟨#[]⟩,0),0) (λh h1 k b e ⟨t1,t2,o,ho,hc,n,hd⟩=>⟨t1,t2,o,e _ _ _ _ ho hd,hc,n,hd⟩) (λh k b ⟨t1,t2,o,ho,hc,n,hd⟩=>⟨o,_,n,_,_,ho,hc,hd,rfl⟩)
  (λA E h1 C x y _ _ _ ⟨_,_,hx⟩ ⟨_,_,hy⟩ hC=>Nj hx hy hC) I hG.2 hG.1 dz q
theorem lW:fI X (.builtin "sorted") (λxs H Q=>∃a fs,xs=[.ref a]/\b9 X.K H a (fs.map λx=>V.ref x.2)/\fs.length<64/\((fs.map (·.1)).Nodup/\∀x∈fs,dS X.K H x.2 [.str x.1.1,.int x.1.2])/\mW cH fs H Q):=
 dN (G:=λH fs=>(fs.map (·.1)).Nodup/\∀x∈fs,dS X.K H x.2 [.str x.1.1,.int x.1.2]) λI dz hG q=>nJ I dz ⟨hG.1,λx hx=>by
  obtain⟨its,rv,ht,_⟩:=I.tuple (hG.2 x hx);obtain⟨u1,u2,rfl,⟨t1,rfl⟩,⟨t2,rfl⟩⟩:=rv.two;exact⟨t1,t2,ht⟩⟩ q
theorem yO{h1:Heap}{k:FK}{b:Addr}(hk:∀c o xs n,h.get? c=some o->o.data=.seq xs n->h1.get? c=some o)(x:gk P w h k b):gk P w h1 k b:=by
 obtain⟨o,items,n,t,c,ho,hc,hd,hi,b5,Jk,mT,gV,sg,d6,kL⟩:=x;exact⟨o,items,n,t,c,hk _ _ _ _ ho hd,hc,hd,hi,b5,Jk,mT,hk _ _ _ _ gV d6,sg,d6,kL⟩
theorem bG(I:Inv X pi σ H s)(hu:X.A.units+20<cLine){fs:List (FK×Addr)}(Cz:∀x∈fs,gk X.prog X.w s.heap x.1 x.2)(cE:(fs.map (·.1)).Nodup)(dz:fs.length<64)(sA:∀x∈fs,∀y∈fs,YZ x.1.2.2 y.1.2.2=true\/x.1.2.1≠y.1.2.1)(q:mW cW fs H Q):vp X pi σ s fs Q:=
 nM (P:=gk X.prog X.w) rL ((⟨#[]⟩,⟨#[]⟩,.inl 0),0) (λh h1 k b=>yO) (λh k b ⟨o,items,n,t,c,ho,hc,hd,hi,_⟩=>⟨o,items,n,k.1,t,ho,hc,hd,by rw[<-Array.getElem?_toList,hi];rfl⟩)
  (λA E h1 C x y mx my hA hx hy hC=>NU (by rw[hA];lia) (sA _ mx _ my) hx hy hC) I Cz cE dz q
theorem lY(hc:X.calm=true)(hu:X.A.units+20<cLine):fI X (.builtin "sorted") (λxs H Q=>∃a fs,xs=[.ref a]/\H a=some (.dF fs)/\(∀x∈fs,V9 X.K H x.1 x.2)/\fs.length<64/\(∀x∈fs,∀y∈fs,YZ x.1.2.2 y.1.2.2=true\/x.1.2.1≠y.1.2.1)/\
  ∀(p:Addr) (ys:List (FK×Addr)),H p=none->ys.Perm fs->ys.Pairwise (λx y=>cW x.1 y.1=true)->Q (.ref p) (upd H p (.lst (ys.map λx=>V.ref x.2)))):=by
 intro pi s σ H xs us Q I r h;obtain⟨a,fs,rfl,ha,sk,dz,sA,q⟩:=h;obtain⟨u,rfl,ru⟩:=vals1 r;cases ru;obtain⟨z,lo,o,es,ep,ho,hex,hd,zw,cE⟩:=(show dw X.prog X.w H s.heap a (.dF fs) from I.aS a _ ha)
 have VS:kz s.heap a es ep:=⟨o,ho,hex,hd⟩
 have hsz:es.size=fs.length:=by rw[<-eK,zw,a8]
 have Wl:∀vs:List Value,vs.length=es.size->(∀(j:Nat) (v:Value),vs[j]?=some v->∃e,es[j]?=some e/\v=e.key)->vs=fs.map λx=>Value.ref x.2:=λvs hl hv=>by
  apply List.ext_getElem?;intro j
  by_cases hj:j<fs.length
  .have e1:vs[j]?=some (vs[j]'(by lia)):=fo _
   obtain⟨e,e2,e3⟩:=hv j _ e1;rw[<-Array.getElem?_toList,zw,gi,fo hj]at e2;have e2:=cq e2;rw[e1,gi,fo hj,e3,<-e2];rfl
  .rw[List.getElem?_eq_none (by lia),List.getElem?_eq_none (by simp;lia)]
 refine wu kind_sorted plain_sorted entry_sorted (args_sorted1 _) ?_;unfold Builtin.«sorted»;refine ae (m:=checkCount "sorted" 1 1 _) (ai ?_);refine ae (PySem.W.kdu_collect (A:=X.A.in1) (PySem.W.Wy (es:=es) (ep:=ep) lo) (I.ok.hd hc) VS (by rw[hsz];exact z) λh1 tk acc ko gq=>?_);have hl:acc.toList.length=es.size:=by rw[eK];exact gq.1
 have UB:=Wl acc.toList hl λj v e=>gq.2 j v (by rw[<-Array.getElem?_toList];exact e)
 refine ae (ug ?_ (by rw[hl,hsz];exact z));rw[UB];have I1:Inv X pi σ H { s with heap:=h1,toks:=tk }:=I.kept ko;refine ae (f6 (ff (bG (s:={ s with heap:=h1,toks:=tk }) (fs:=fs) (Q:=Q) I1 hu (λx hx=>aM I1 (sk x hx)) cE dz sA q) (λ_ s' x=>?_) λ_ _ e=>e));exact ai ⟨_,rfl,x⟩
end
end L2
namespace PySem
end PySem
namespace WL
open PySem PySem.Spec PyProof.Rows L2
theorem V1{t sl:Addr}{vl vu:Value}{lo hi:Option Int}(ht:IsTup s.heap t items)(hs:s.heap.IsSliceOf sl vl vu .none)(pl:IsPart vl lo)(pu:IsPart vu hi)(hw:HT.bt items.size 0 lo=0/\HT.bt items.size items.size hi=items.size)(h:Q (.ref t) s)(hsz:items.size<=sizeLine):wpAny (model prog w) A (getItem (.ref t) (.ref sl)) Q E s:=by
 obtain⟨os,sv,zu,qk⟩:=id hs;have Ck:s.TypeIs (.ref sl) "slice":=⟨os,sv,zu⟩
 unfold getItem
 try with_reducible refine f6 ?_
 first | refine ae (ai ?_) | skip
 refine ae (wpAny_sequenceKey ht.typeIs (by decide) ?_);refine ae (wpAny_callSpecial?_slot (name:=Str.ofString "__getitem__") ht.typeIs PyProof.Rows.slot_tuple_getitem
  (ir PyProof.Rows.slot_tuple_getitem ht.typeIs entry_tuple_getitem ?_ (args_tuple_getitem _ _)))
 show wpAny _ _ (Builtin.Tuple.tupleItemsOf (.ref t) >>= _) _ _ s;refine ae (tupleItemsOf_ ht ?_);refine ae (wpAny_typeOf Ck ?_);rw[ag (by decide)];refine ae (HT.Ko hs pl pu ?_);have Wq:((((HT.bt items.size 0 lo:Nat):Int)==0&&(1:Int)==1&&(HT.bt items.size items.size hi-HT.bt items.size 0 lo)==items.size)=true):=by
  rw[hw.1,hw.2];simp
 show wpAny _ _ (if (((HT.bt items.size 0 lo:Nat):Int)==0&&(1:Int)==1&&(HT.bt items.size items.size hi-HT.bt items.size 0 lo)==items.size)=true then _ else _) _ _ s;rw[ag Wq];refine ae (m:=Builtin.Tuple.tupleIsExact (.ref t)) ?_;unfold Builtin.Tuple.tupleIsExact;refine ae (wpAny_typeOf ht.typeIs (ai ?_));rw[ag (by decide)]
 first
  | exact ae (jy (ai ⟨_,rfl,ai h⟩))
  | exact jy (ai ⟨_,rfl,ai h⟩)
  | exact ae (ai (ai ⟨_,rfl,ai h⟩))
  | exact ai ⟨_,rfl,ai h⟩
section
variable{a:Expr}{lo hi:Option Expr}{ol oh:Oe}
theorem Yu:ow X (Br X.K):=by
 intro pi s σ H x v vl vu lo hi sl Q I rx hs pl pu h;obtain⟨a,xs,rfl,hx,hw,hn⟩:=h;cases rx;obtain⟨its,r,ht,hz⟩:=I.tuple hx.sq;have hlen:its.toArray.size=xs.length:=by rw[dv];exact r.length.symm
 refine⟨"tuple",_,PyProof.Rows.slot_tuple_getitem.lookup,ht.typeIs,?_⟩
 by_cases c:HT.bt xs.length 0 lo=0/\HT.bt xs.length xs.length hi=xs.length
 .exact V1 ht hs pl pu (by rw[hlen];exact c) ⟨.ref a,H,I,rfl,hw c⟩ (by rw[hlen];exact hz)
 .refine HT.Ui ht hs pl pu (by rw[hlen];exact c) ?_ (by rw[hlen];exact hz)
  rw[hlen];refine⟨.ref s.heap.objs.size,_,I.laid (t':=s.toks) (o:=.bq { cls:=.type "tuple",data:=.seq ((its.toArray.toList.drop (HT.bt xs.length 0 lo)).take (HT.bt xs.length xs.length hi-HT.bt xs.length 0 lo)).toArray } (.tup (pH xs lo hi))) (λb ob q=>dg _ q) (a0 _) ?_,rfl,hn c _ _ (I.aS.fresh (a0 _)) rfl rfl⟩;exact⟨dj _ rfl,eJ (ZD xs lo hi) hz,_,(r.drop (HT.bt xs.length 0 lo)).take (HT.bt xs.length xs.length hi-HT.bt xs.length 0 lo),IsTup.new _ _⟩
theorem Su:ow X (λx lo hi H Q=>Br X.K x lo hi H Q\/Bq X.K x lo hi H Q\/Bp x lo hi H Q):=Yu.or (Yt.or Pe)
theorem a7.cut(h:a7 K ρ H ds vs)(lo hi:Option Int):a7 K ρ H (cutD ds lo hi) (pH vs lo hi):=by
 unfold cutD pH;rw[h.len];exact(h.drop _).take _
theorem YX:PO X none (AJ C X.K .no):=(MV (X:=X)).imp λ σ H Q ah=>by
 obtain⟨aj,m,ρ,c,af,S,M,e,q⟩:=ah;cases e;exact q H ρ (.refl _ _) M
theorem V3(ha:PE X a (tD C X.K pa)):PO X (some a) (AJ C X.K (.pt pa)):=(MU ha).imp λ σ H Q ah=>by
 obtain⟨aj,m,ρ,c,af,S,M,e,q⟩:=ah;obtain⟨⟨x,m1⟩,e1,e⟩:=aT e;cases x with
 | int i=>
  cases e;refine⟨aj,m,ρ,_,_,S,M,e1,λv H1 az g1 M1 A1=>?_⟩;cases A1;exact⟨i,rfl,q H1 az g1 M1⟩
 | _=>cases e
theorem Rm{d':D}{x:V}{l h:Option Int}{Q:VK}(M:bp X.K ρ m H)(A:At X.K ρ H d x)(e:ng d l h=some d')(q:en X.K ρ H d' m Q):Br X.K x l h H (Fz Q)\/Bq X.K x l h H (Fz Q)\/Bp x l h H (Fz Q):=by
 cases d with
 | tup xs=>
  cases e;obtain⟨p,vs,rfl,ht,as⟩:=A;refine .inl ⟨p,vs,rfl,ht,λc=>.of ?_,λc fA o hp hc hd=>.of (q.tup M (as.cut l h) hp hc hd)⟩;have e1:cutD xs l h=xs:=by
   unfold cutD;rw[as.len]at c;rw[c.1,c.2];simp
  rw[e1]at q;exact q.here M ⟨p,vs,rfl,ht,as⟩
 | lst xs=>
  cases e;obtain⟨p,vs,rfl,hs,as⟩:=J8 M A (show G5 (.lst xs) m=some xs from rfl);exact .inr (.inl ⟨p,vs,rfl,hs,λfA hp=>en.lst (mu:=false) q M (as.cut l h) hp⟩)
 | bP ns=>
  cases e;obtain⟨p,vs,rfl,hs,as⟩:=J8 M A (show G5 (.bP ns) m=some (ns.map .int) from rfl);exact .inr (.inl ⟨p,vs,rfl,hs,λfA hp=>en.lst (mu:=false) q M (as.cut l h) hp⟩)
 | str z=>
  cases A;have e:(if z.length<=1000 then some (D.str (StrLaws.sliceText z l h)) else none)=some d':=e;split at e
  .rename_i hl
   cases e;exact .inr (.inr ⟨z,rfl,JF (by lia),.of (q.here M rfl)⟩)
  .cases e
 | _=>cases e
theorem WD(ha:PE X a (tD C X.K pa))(hl:PO X lo (AJ C X.K ol))(hh:PO X hi (AJ C X.K oh)):PE X (.Subscript a (.Slice lo hi none p2) pos) (tD C X.K (.sl pa ol oh)):=(Lk Su ha hl hh).qx λ σ H Q ah=>by
 obtain⟨aj,m,ρ,d,af,S,M,e,q⟩:=ah;obtain⟨⟨x,m1⟩,e1,e⟩:=aT e;obtain⟨⟨l,m2⟩,e2,e⟩:=aT e;obtain⟨⟨h,m3⟩,e3,e⟩:=aT e;obtain⟨d',e4,e⟩:=cj e;cases e;exact⟨aj,m,ρ,x,m1,S,M,e1,λv H1 az g1 M1 A1=>⟨aj,m1,az,l,m2,S.mono M g1,M1,e2,λH2 c8 g2 M2=>⟨aj,m2,c8,h,_,(S.mono M g1).mono M1 g2,M2,e3,λH3 i4 g3 M3=>Rm M3 ((A1.mono M1 g2).mono M2 g3) e4 (q.go (g1.trans (g2.trans g3)))⟩⟩⟩
theorem jO{q2:Pos}(ha:PE X a (tD C X.K pa))(mu:Bool:=false)(hc:X.calm=true:=by kernel_rfl)(iz:Gl X "list":=by kernel_rfl)(fh:X.mg "list" = none:=by assumption)(ju:Gl X "reversed":=by kernel_rfl)(jx:X.mg "reversed" = none:=by assumption)(dh:starEach [Expr.Call (.Name "reversed" p2) [a] [] q2] X.env=[(false,eval (.Call (.Name "reversed" p2) [a] [] q2) X.env)]:=by kernel_rfl)(dC:starEach [a] X.env=[(false,eval a X.env)]:=by kernel_rfl):
  PE X (.Call (.Name "list" p1) [.Call (.Name "reversed" p2) [a] [] q2] [] q1) (tD C X.K (.b1 (.tf mu) pa)):=
 bO (r:=λx H1 Q=>∃a xs,[x]=[V.ref a]/\dS X.K H1 a xs/\∀l,H1 l=none->Q (.ref l) (upd H1 l (.lst xs.reverse))) (f:=de (.tf mu)) (Na hc iz fh ju jx ha dh dC) (by
  intro ρ m af H dx d x Q M ax e q;cases dx with
  | tup xs=>
   obtain⟨p,vs,rfl,h,as⟩:=ax;have aE:bw mu xs.reverse m=(d,af):=cq e;have cg:en X.K ρ H (bw mu xs.reverse m).1 (bw mu xs.reverse m).2 Q:=by rw[aE];exact q
   exact⟨p,vs,rfl,h.sq,λl hl=>cg.lst M as.rev hl⟩
  | _=>cases e) λ_ _=>rfl
theorem KU(a b:Str):FQ a b=!ltCps b.cps.toList a.cps.toList:=by unfold FQ;rw[ltCps_eq]
theorem L8{a b:Str}(h:a.cps.toList=b.cps.toList):a=b:=by
 obtain⟨x⟩:=a;obtain⟨y⟩:=b;have:x=y:=by simpa using congrArg List.toArray h
 rw[this]
theorem vg{a b:Str}(h1:FQ a b=true)(h2:FQ b a=true):a=b:=by
 unfold FQ at h1 h2;simp only[Bool.not_eq_true',decide_eq_false_iff_not]at h1 h2;exact L8 (List.le_antisymm h1 h2)
theorem S6{a b c:Str}(h1:FQ a b=true)(h2:FQ b c=true):FQ a c=true:=by
 unfold FQ at *;simp only[Bool.not_eq_true',decide_eq_false_iff_not]at *;exact List.le_trans h1 h2
theorem YT(a b:Str):(FQ a b||FQ b a)=true:=by
 unfold FQ;rcases List.le_total a.cps.toList b.cps.toList with h | h
 .rw[dn (show ¬b.cps.toList<a.cps.toList from h)];rfl
 .rw[dn (show ¬a.cps.toList<b.cps.toList from h),Bool.or_comm];rfl
theorem rD:∀{l:List Str},sortedS l=true->l.Pairwise λa b=>FQ a b=true
 | [],_=>.nil
 | x::r,h=>by
  have go:∀(r:List Str) (p:Str),risingS p r=true->(p::r).Pairwise λa b=>FQ a b=true:=by
   intro r
   induction r with
   | nil=>intro p _;exact List.pairwise_singleton _ _
   | cons y r ih=>
    intro p h;have h':(!ltCps y.cps.toList p.cps.toList)=true/\risingS y r=true:=Bool.and_eq_true_iff.mp h;have i:=ih y h'.2;have hp:FQ p y=true:=by rw[KU];exact h'.1
    refine List.pairwise_cons.mpr ⟨λz hz=>?_,i⟩;rcases ck hz with rfl | hz
    .exact hp
    .exact S6 hp (List.rel_of_pairwise_cons i hz)
  exact go r x h
theorem Mg(hp:gE.Perm ss)(hs:sortedS gE=true):gE=CN ss:=by
 have h1:(CN ss).Pairwise λa b=>FQ a b=true:=List.pairwise_mergeSort (le:=FQ) (λa b c h1 h2=>S6 h1 h2) YT ss
 exact List.Perm.eq_of_pairwise (λx y _ _ h1 h2=>vg h1 h2) (rD hs) h1 (hp.trans (fb ss FQ).symm)
theorem yG:∀{ss:List Str},strsOf (ks.map de.kD)=some ss->ks=ss.map Sum.inr:=by
 induction ks with
 | nil=>intro ss e;cases e;rfl
 | cons k r ih=>
  intro ss e;cases k with
  | inl i=>cases e
  | inr x=>
   obtain⟨gE,e1,rfl⟩:=cj (show (strsOf (r.map de.kD)).map (x::·)=some ss from e);rw[ih e1];rfl
theorem bN(ha:PE X a (tD C X.K pa))(mu:Bool:=false)(hc:X.calm=true:=by kernel_rfl)(hg:Gl X "sorted":=by kernel_rfl)(hm:X.mg "sorted" = none:=by assumption)(he:starEach [a] X.env=[(false,eval a X.env)]:=by kernel_rfl):PE X (.Call (.Name "sorted" p1) [a] [] q1) (tD C X.K (.b1 (.yh mu) pa)):=
 bT (lZ hc) (by
  intro ρ m af H dx d x Q M ax e q;obtain⟨⟨ks,vs⟩,e1,e⟩:=aT (show ((HN dx m).bind λz=>if z.1.length<64 then (strsOf (z.1.map de.kD)).map λss=>bw mu ((CN ss).map .str) m else none)=some (d,af) from e);split at e
  case isFalse=>cases e
  rename_i dz
  obtain⟨ss,e2,e⟩:=cj e;obtain⟨p,kvs,rfl,hr,ka⟩:=T8 M ax e1;have hk:=yG e2;refine⟨p,kvs,ss,rfl,hr,by rw[ka.1];exact hk,by rw[<-eG ka];exact dz,λl gE hl hp hs=>?_⟩;rw[Mg hp hs];have cg:en X.K ρ H (bw mu ((CN ss).map D.str) m).1 (bw mu ((CN ss).map D.str) m).2 Q:=by rw[e];exact q
  refine cg.lst M ?_ hl;have:∀l:List Str,a7 X.K ρ H (l.map D.str) (l.map V.str):=λl=>by
   induction l with
   | nil=>rfl
   | cons y r ih=>exact⟨_,_,rfl,rfl,ih⟩
  exact this _) PyProof.Rows.boot_sorted hg hm ha (by decide) (by decide) he
theorem gZ:∀{ds:List D} {vs:List V} {ps:List (Str×Int)},KQ ds=some ps->a7 K ρ H ds vs->∃fs:List ((Str×Int)×Addr),vs=fs.map (λx=>V.ref x.2)/\ps=fs.map (·.1)/\∀x∈fs,dS K H x.2 [.str x.1.1,.int x.1.2]/\At K ρ H (K4 x.1) (.ref x.2)
 | [],_,_,e,a=>by
  cases e;cases (show _=[] from a);exact⟨[],rfl,rfl,λ_ h=>nomatch h⟩
 | d::r,_,ps,e,bf=>by
  obtain⟨v,vr,ev,a1,as⟩:=bf;subst ev;unfold KQ at e;split at e
  .rename_i hd;cases hd
  .rename_i a b bE hd
   cases hd;obtain⟨pw,e1,rfl⟩:=cj e;obtain⟨fs,rfl,rfl,h3⟩:=gZ e1 as;obtain⟨p,ws,rfl,ht,aw⟩:=id a1;obtain⟨x,xr,rfl,ax,y,yr,rfl,ay,hn⟩:=aw;cases (show _=[] from hn);cases ax;cases ay;refine⟨((a,b),p)::fs,rfl,rfl,λz hz=>?_⟩;rcases ck hz with rfl | hz
   .exact⟨ht.sq,a1⟩
   .exact h3 z hz
  .cases e
theorem xO{ps L:List (Str×Int)}(hn:(ps.map (·.1)).Nodup)(hp:L.Perm ps)(hs:L.Pairwise λp q=>FQ p.1 q.1=true):L=JH ps:=by
 have h1:(JH ps).Pairwise λp q=>FQ p.1 q.1=true:=List.pairwise_mergeSort (le:=λp q:Str×Int=>FQ p.1 q.1) (λa b c h1 h2=>S6 h1 h2) (λa b=>YT _ _) ps
 refine List.Perm.eq_of_pairwise (λx y hx hy h1 h2=>?_) hs h1 (hp.trans (fb ps _).symm);have kP:=hp.mem_iff.mp hx;have Dk:y∈ps:=(fb ps _).mem_iff.mp hy;have hk:=vg h1 h2;obtain⟨i,hi,ei⟩:=nz kP;obtain⟨j,hj,ej⟩:=nz Dk;have:i=j:=(List.getElem_inj hn (h₀:=by simpa using hi) (h₁:=by simpa using hj)).mp (by simp[ei,ej,hk]);subst this;rw[<-ei,<-ej]
theorem PR{p q:Str×Int}(h:cH p q=true):FQ p.1 q.1=true:=by
 unfold cH at h;unfold FQ;split at h
 .rename_i e
  rw[e,dn (List.lt_irrefl _)];rfl
 .rw[dn (λh'=>List.lt_irrefl _ (List.lt_trans (f7 h) h'))];rfl
theorem gJ{fs ys:List ((Str×Int)×Addr)}(hn:((fs.map (·.1)).map (·.1)).Nodup)(hp:ys.Perm fs)(hs:ys.Pairwise λx y=>cH x.1 y.1=true):ys.map (·.1)=JH (fs.map (·.1)):=
 xO hn (hp.map _) (List.pairwise_map.mpr (hs.imp PR))
theorem aW{α:Type}{K:p4}{ρ:List Addr}{H:Hp}{f:α->D}{g:α->V}:∀{l:List α},(∀x∈l,At K ρ H (f x) (g x))->a7 K ρ H (l.map f) (l.map g)
 | [],_=>rfl
 | x::r,h=>⟨_,_,rfl,h x b0,aW λy hy=>h y (b7 _ hy)⟩
theorem YD(ha:PE X a (tD C X.K pa))(mu:Bool:=false)(hg:Gl X "sorted":=by kernel_rfl)(hm:X.mg "sorted" = none:=by assumption)(he:starEach [a] X.env=[(false,eval a X.env)]:=by kernel_rfl):PE X (.Call (.Name "sorted" p1) [a] [] q1) (tD C X.K (.b1 (.sorted mu) pa)):=
 bT lW (by
  intro ρ m af H dx d x Q M ax e q;obtain⟨xs,e1,e⟩:=aT (show ((G5 dx m).bind λxs=>(KQ xs).bind λps=>if xs.length<=4/\(ps.map (·.1)).Nodup then some (bw mu ((JH ps).map K4) m) else none)=some (d,af) from e);obtain⟨ps,e2,e⟩:=aT e;split at e
  case isFalse=>cases e
  rename_i hc
  have aE:=cq e;obtain⟨p,vs,rfl,hr,as⟩:=J8 M ax e1;have hl:=as.len;obtain⟨fs,rfl,rfl,g⟩:=gZ e2 as;rw[a8]at hl;refine⟨p,fs,rfl,hr,by lia,⟨L2.JI hc.2,λx hx=>(g x hx).1⟩,λl ys hl hp hs=>?_⟩;have cg:en X.K ρ H (bw mu ((JH (fs.map (·.1))).map K4) m).1 (bw mu ((JH (fs.map (·.1))).map K4) m).2 Q:=by rw[aE];exact q
  refine cg.lst M ?_ hl;rw[<-gJ hc.2 hp hs,bS];exact aW λz hz=>(g z (hp.mem_iff.mp hz)).2) PyProof.Rows.boot_sorted hg hm ha (by decide) (by decide) he
theorem Ro(hg:Gl X x)(hm:X.mg x=some u)(r:RelV v u)(ha:∀ρ H,At X.K ρ H d v)(hd:(x==("__debug__" : Str))=false:=by decide):PE X (.Name x pos) (tD C X.K (.con d)):=bR (Nc hg hm r hd) ha
end
end WL
namespace WL
open PySem PySem.Spec PyProof.Rows L2
def kU(K:p4)(mg:Str->Option Value)(x:String)(d:D):Prop:=∃v u,mg (Str.ofString x)=some u/\L2.RelV v u/\∀ρ H,At K ρ H d v
theorem jR{x:String}(h:kU X.K X.mg x d:=by assumption)(hg:Gl X (Str.ofString x):=by kernel_rfl)(hd:(Str.ofString x==("__debug__" : Str))=false:=by decide):PE X (.Name (Str.ofString x) pos) (tD C X.K (.con d)):=by
 obtain⟨v,u,hm,r,ha⟩:=h;exact Ro hg hm r ha hd
theorem kU.int{K:p4}{mg:Str->Option Value}{x:String}{i:Int}(h:mg (Str.ofString x)=some (.int i t)):kU K mg x (.int i):=⟨.int i,_,h,⟨t,rfl⟩,λ_ _=>rfl⟩
section
variable(P:Program)(w:World)(K:p4)(mg:Str->Option Value)(base:Heap)
def BF(name:String)(st:Stmt)(ps:List Str)(fa:Addr)(fd:FuncData):Prop:=rh K (Str.ofString name) (Str.ofString name) st fa fd/\Binds K fd ps []/\mg (Str.ofString name)=some (.ref fa)
def Def(n:Nat)(C:String->List D->Mem->Option (D×Mem))(g:String):Prop:=∃(fa:Addr) (fd:FuncData) (ps:List Str),i6 P w K mg base jS n fa fd ps (tq K (C g))/\mg (Str.ofString g)=some (.ref fa)/\PySem.W.keepIn K (.ref fa)=true/\Binds K fd ps []
end
theorem Def.To{g:String}(h:Def X.prog X.w X.K X.mg X.base n C g)(hr:gf n X.A):Hd X C g:=by
 obtain⟨fa,fd,ps,F,hm,hk,hb⟩:=h;exact⟨n,fa,fd,ps,F,hr,hm,hk,hb⟩
theorem NR{name:String}:i6 P w K mg base jS 0 f fd ps (tq K (CG W ab 0 name)):=by
 have no:∀vs H Q E,¬tq K (CG W ab 0 name) vs H Q E:=λvs H Q E h=>by
  obtain⟨ds,m,ρ,d,af,_,_,e,_⟩:=h;cases e
 exact⟨λvs H Q E h=>absurd h (no vs H Q E),λA outer s H args us vs Q E _ _ _ _ h=>absurd h (no vs H Q E)⟩
theorem BF.zero{name:String}{fa:Addr}(t:BF K mg name st ps fa fd):Def P w K mg base 0 (CG W ab 0) name:=⟨fa,fd,ps,NR,t.2.2,t.1.kp,t.2.1⟩
end WL
namespace WL
open PySem PySem.Spec PyProof.Rows L2
def uH(K:p4):Sp:=λvs H Q _=>∃(a:Addr) (ns:List Int),vs=[.ref a]/\qa K H a (ns.map V.int)/\ns.length<=63/\∀aa,Q (.bl true) aa
theorem NC{k:Nat}{call:List D->Mem->Option (D×Mem)}(F:i6 P w K mg base jS k f fd ps (tq K call))(h:∀ns:List Int,ns.length<=63->call [.bP ns] []=some (.bl true,[])):
  i6 P w K mg base jS k f fd ps (uH K):=F.imp λvs H Q E ah=>by
 obtain⟨a,ns,e,hs,hl,q⟩:=ah;subst e;refine⟨[.bP ns],[],[],.bl true,[],⟨_,_,rfl,⟨a,rfl,hs⟩,rfl⟩,⟨rfl,mq,λj a o e=>by simp at e⟩,h ns hl,λv aa _ _ A=>?_⟩;cases A;exact q aa
theorem Pp(o:zc H)(h:b9 K H a vs):qa K H a vs:=by
 rcases h with (h | ⟨ob,h⟩) | h
 .rcases o a with z | ⟨ob,xs,z⟩
  .rw[h]at z;cases z
  .rw[h]at z;cases z
 .exact .inl ⟨ob,h⟩
 .exact .inr h
theorem walk_law{l:PySem.W.OpenLaw}{q:Program}{d:DefRec}{K:Params->p4}(hn:l.most=some 63)(xa:d.params.defaults=[])(hY:∀(w:World) (h:Heap),YP w h->(K w.params).In h)(F:∀(w:World) (mg:Str->Option Value) (fa:Addr) (h:Heap),(K w.params).In h->h.Ns mainGlobals mg->mg d.name=some (.ref fa)->
   ∃fd:FuncData,(∀(s:Shared) (u:Value),BindsTo s fd ⟨[u],[]⟩ [("_law_script",u)])/\∀base:Heap,(K w.params).In base->base.Ns mainGlobals mg->i6 l.prog w (K w.params) mg base jS 60 fa fd ["_law_script"] (uH (K w.params))) :
  PySem.W.WalkO q loose XP YP l.row.toRowW d [] (λf vs=>PySem.call f vs):=
 L2.Y2 (n:=63) (k:=60) (x:="_law_script") (CX:=λ_=>jS) (sp:=λw=>uH (K w.params)) hn (by decide) xa ⟨rfl,by decide,by decide⟩ hY F (λ_ _ a ns hl ho hS=>⟨a,ns,rfl,Pp ho hS,hl,λ_=>rfl⟩) λ_ _ _ _ _ z=>z
end WL
namespace WL
open PySem PySem.Spec PyProof.Rows L2
section
variable{a:Expr}
theorem Qn{neg:Bool}(hq:∀σ m,ev C q σ m=(ev C pa σ m).bind λz=>(ev C pb σ z.2).bind λy=>(HN y.1 y.2).bind λw=>(O5 z.1).map λk=>(.bl (if neg then !(HB w.1 w.2 k).isSome else (HB w.1 w.2 k).isSome),y.2)){σ:L2.St}{Q:VK}(h:tD C X.K q σ H Q):
  tD C X.K pa σ H λy H1=>tD C X.K pb σ H1 λx H2=>∃a o,x=.ref a/\j0 H2 a y o/\Q (.bl (if neg then !o.isSome else o.isSome)) H2:=by
 obtain⟨aj,m,ρ,d,af,S,M,e,q⟩:=h;rw[hq]at e;obtain⟨⟨x,m1⟩,e1,e⟩:=aT e;obtain⟨⟨y,m2⟩,e2,e⟩:=aT e;obtain⟨⟨ks,ds⟩,e3,e⟩:=aT e;obtain⟨k,e4,e⟩:=cj e;cases e;refine⟨aj,m,ρ,x,m1,S,M,e1,λv H1 az g1 M1 A1=>⟨aj,m1,az,y,m2,S.mono M g1,M1,e2,λu H2 c8 g2 M2 A2=>?_⟩⟩;obtain⟨p,kvs,rfl,hr,ka⟩:=T8 M2 A2 e3;have hk:=eN (A1.mono M1 g2) e4;refine⟨p,KD kvs k,rfl,.inl ⟨kvs,k,hr,hk,rfl⟩,q _ H2 c8 (g1.trans g2) M2 ?_⟩;have:(KD kvs k).isSome=(HB ks ds k).isSome:=by
  cases hl:HB ks ds k with
  | none=>rw[(ka.look k).2 hl];rfl
  | some d'=>obtain⟨yk,BU,_⟩:=(ka.look k).1 d' hl;rw[BU];rfl
 rw[this];rfl
theorem OW(hq:∀σ m d af,ev C q σ m=some (d,af)->∃z,d=.bl z){σ:L2.St}{Q:Bool->Hp->Prop}(h:fi C X.K (.val q) σ H Q):tD C X.K q σ H λx H1=>∃c,x=.bl c/\Q c H1:=by
 obtain⟨aj,m,ρ,c,af,S,M,e,cg⟩:=h;obtain⟨⟨x,m1⟩,e1,e⟩:=aT e;obtain⟨k,e2,e⟩:=cj e;obtain⟨z,rfl⟩:=hq _ _ _ _ e1;cases e;cases e2;exact⟨aj,m,ρ,_,_,S,M,e1,λv H1 az g1 M1 A1=>⟨_,A1,cg H1 az g1 M1⟩⟩
theorem uG(ha:PE X a (tD C X.K pa))(hb:PE X b (tD C X.K pb))(hu:X.A.units+1<cLine:=by assumption)(hm:behindInMarks .NotIn b=false:=by kernel_rfl):PT X (.Compare a [.NotIn] [b] pos) (fi C X.K (.val (.xS pa pb))):=(EL (gY hu ha hb) hm).imp λ σ H Q h=>Qn (neg:=true) (λ_ _=>rfl) (OW (λ σ m d af e=>by
 obtain⟨_,_,e⟩:=aT e;obtain⟨_,_,e⟩:=aT e;obtain⟨_,_,e⟩:=aT e;obtain⟨_,_,e⟩:=cj e;cases e;exact⟨_,rfl⟩) h)
end
end WL
namespace L2
open PySem PySem.Spec PyProof.Rows
theorem LN{bs:List Bool}:∀{us:List Value},Vals (bs.map V.bl) us->us=bs.map Value.bool:=by
 induction bs with
 | nil=>intro us r;rw[List.map_nil]at r;cases r;rfl
 | cons n ns ih=>
  intro us r;rw[cn]at r;cases r with
  | cons r1 r2=>cases r1;rw[ih r2];rfl
theorem fV(hc:X.calm=true):fI X (.builtin "all") (λxs H Q=>∃(a:Addr) (bs:List Bool),xs=[.ref a]/\b9 X.K H a (bs.map V.bl)/\Q (.bl (bs.all id)) H):=by
 intro pi s σ H xs us Q I r h;obtain⟨a,bs,rfl,hq,q⟩:=h;obtain⟨u,rfl,ru⟩:=vals1 r;cases ru;obtain⟨its,rv,p,hz⟩:=I.list hq;have hi:=LN rv;have pl:=p.isList;have cp:a<s.heap.objs.size:=by obtain⟨_,e,_⟩:=pl;exact bh e
 refine call_all_walk (wpAny_pyIter_list pl ?_);refine⟨s.heap.objs.size,[s.heap.objs.size,a],[s.heap.objs.size],_,_,_,λi=>(bs[i]?).getD true,rfl,Walks.list (A:=X.A.in1) (I.ok.hd hc) _ a (cm cp) _,⟨⟨_,dj _ rfl,rfl,rfl⟩,pl.push _⟩,λi v s' nj ZZ hP hQ=>?_,λh' tk hk=>?_⟩
 .have hv:its[i]?=some v:=by simpa using hP
  rw[hi,gi]at hv;cases e:bs[i]? with
  | none=>rw[e]at hv;cases hv
  | some b=>
   rw[e]at hv;cases hv;simp only[e,Option.getD_some]at hQ;exact wpAny_truthy_bool hQ
 .have hl:its.length=bs.length:=by rw[hi,a8]
  have e:((List.range its.toArray.size).all λi=>(bs[i]?).getD true)=bs.all id:=by
   rw[dv,hl];exact LSm.range_all bs
  rw[e];exact⟨.bl _,H,I.kept (LSm.kept_iter hk),rfl,q⟩
end L2
namespace WL
open PySem L2 PySem.Spec PyProof.Rows
section
theorem wI:∀{ds:List D} {bs:List Bool} {vs:List V},dW ds=some bs->a7 K ρ H ds vs->vs=bs.map V.bl
 | [],_,_,e,a=>by
  cases e;exact a
 | .bl b::r,bs,vs,e,a=>by
  obtain⟨cs,e1,rfl⟩:=cj e;obtain⟨v,us,rfl,a1,a2⟩:=a;cases a1;rw[wI e1 a2];rfl
theorem Mn:fX X .all (λxs H Q=>∃(a:Addr) (bs:List Bool),xs=[.ref a]/\b9 X.K H a (bs.map V.bl)/\Q (.bl (bs.all id)) H):=by
 intro ρ m af H dx d x Q M ax e q;obtain⟨xs,e1,e⟩:=aT (show ((G5 dx m).bind λxs=>(dW xs).map λbs=>(D.bl (bs.all id),m))=some (d,af) from e);obtain⟨bs,e2,e⟩:=cj e;cases e;obtain⟨p,vs,rfl,h,as⟩:=J8 M ax e1;cases wI e2 as;exact⟨p,bs,rfl,h,.of (q.here M rfl)⟩
variable{a:Expr}
theorem EB(ha:PE X a (tD C X.K pa))(hc:X.calm=true:=by kernel_rfl)(hg:Gl X "all":=by kernel_rfl)(hm:X.mg "all" = none:=by assumption)(he:starEach [a] X.env=[(false,eval a X.env)]:=by kernel_rfl):PE X (.Call (.Name "all" p) [a] [] pos) (tD C X.K (.b1 .all pa)):=bT (fV hc) Mn PyProof.Rows.boot_all hg hm ha (by decide) (by decide) he
end
noncomputable def Bm:List Value->Option (List D)
 | []=>some []
 | .str x _::r=>(Bm r).map (.str x::·)
 | _=>none
noncomputable def Gr(its:Array Value):Option D:=if its.size<=100 then (Bm its.toList).map .tup else none
theorem uD{K:p4}:∀{l:List Value} {ds:List D},Bm l=some ds->∃vs,Vals vs l/\∀ρ H,a7 K ρ H ds vs
 | [],ds,e=>by
  cases e;exact⟨[],.nil,λ_ _=>rfl⟩
 | .str x t::r,ds,e=>by
  obtain⟨es,e1,rfl⟩:=cj e;obtain⟨vs,h1,h2⟩:=uD (K:=K) e1;exact⟨.str x::vs,.cons ⟨t,rfl⟩ h1,λ ρ H=>⟨_,_,rfl,rfl,h2 ρ H⟩⟩
theorem kU.strs{x:String}{its:Array Value}(h:mg (Str.ofString x)=some (.ref a))(hl:K.lookup a=some { cls:=.type "tuple",data:=.seq its n })(he:Gr its=some d):kU K mg x d:=by
 unfold Gr at he;split at he
 .rename_i hs
  obtain⟨ds,e1,rfl⟩:=cj he;obtain⟨vs,h1,h2⟩:=uD (K:=K) e1;exact⟨.ref a,.ref a,h,rfl,λ ρ H=>⟨a,vs,rfl,⟨_,rfl,rfl,Or.inr ⟨hl,its,n,rfl,eJ hs (by decide),h1⟩⟩,h2 ρ H⟩⟩
 .cases he
end WL
namespace PySem
def yz(h:Heap)(z TI TO:Addr)(o1:Value)(b:Bool):Prop:=h.get? z=some { cls:=.type "zip",data:=.fields #[o1,.bool b,.bool false,.ref TI,.ref TO] }
section
variable{TI TO l1 l2 p:Addr}{xs ys:Array Value}{k:Nat}{b:Bool}
theorem W3{M:Model}{f:Option Obj->Sem α}{Q:α->Shared->Prop}(h:wpAny M A (f (s.heap.get? a)) Q E s):wpAny M A (loadIfAlive a >>= f) Q E s:=h
theorem LZ(D:ZipApart z TI TO i1 i2 l1 l2)(hz:yz s.heap z TI TO (rawInt p) b)(hp:(s.heap.get? p).isSome=true)(qi:IsPair s.heap TI (.ref i1) (.ref i2))(h1:s.heap.IsListIter i1 l1 k)(h2:s.heap.IsListIter i2 l2 k)(qo:s.heap.IsList l1 xs)(nS:s.heap.IsList l2 ys)(h:(∃x y,xs[k]?=some x/\ys[k]?=some y/\∀h',yz h' z TI TO (rawInt p) true->h'.IsListIter i1 l1 (k+1)->h'.IsListIter i2 l2 (k+1)->IsPair h' s.heap.objs.size x y->(∀c o,c≠z->c≠i1->c≠i2->s.heap.get? c=some o->h'.get? c=some o)->Q (.ref s.heap.objs.size) { s with heap:=h' })\/
   (A.handled=none/\(xs[k]?=none\/ys[k]?=none)/\∀h' e,(∀c o,c≠z->c≠i1->c≠i2->s.heap.get? c=some o->h'.get? c=some o)->(∃o,h'.get? e=some o/\o.cls=.type "StopIteration")->E (.ref e) { s with heap:=h' })) :
  wpAny (model prog w) A (Builtin.«zip.__next__» ⟨[.ref z],[]⟩) (λfin s'=>∃v,fin=.done (.ret v)/\Q v s') E s:=by
 show wpAny _ _ (field (.ref z) 2 >>= _) _ _ _;refine ae (wpAny_field hz rfl (x:=.bool false) rfl ?_);show wpAny _ _ (field (.ref z) 3 >>= _) _ _ _;refine ae (wpAny_field hz rfl (x:=.ref TI) rfl (ae (wpAny_seqItems qi rfl ?_)));show wpAny _ _ (Builtin.SmallTypes.ownedTupleIsFree (.ref z) >>= _) _ _ _;obtain⟨op,C6⟩:=Option.isSome_iff_exists.mp hp;have free:wpAny (model prog w) A (Builtin.SmallTypes.ownedTupleIsFree (.ref z)) (λa s'=>a=false/\∃ha,s'={ s with heap:=ha }/\yz ha z TI TO (rawInt p) true/\Heap.SameBut z s.heap ha) E s:=by
  unfold Builtin.SmallTypes.ownedTupleIsFree;refine ae (wpAny_field hz rfl (x:=rawInt p) rfl ?_);refine W3 ?_;rw[show (Int.toNat (p:Int))=p from Int.toNat_natCast p,C6];simp only[Option.isNone_some,Bool.false_eq_true,if_false];refine ae (wpAny_field hz rfl (x:=.bool b) rfl ?_);cases b with
  | true=>exact ai ⟨rfl,s.heap,rfl,hz,Heap.SameBut.refl _ _⟩
  | false=>exact ae (wpAny_setField_rec hz (by simp) λha Dl sa=>ai ⟨rfl,ha,rfl,Dl,sa⟩)
 refine ae (ff free (λa s' ah=>?_) λ_ _ x=>x);obtain⟨ea,ha,es,Dl,sa⟩:=ah;subst ea es;have B8:=h1.at λo q=>sa.extBut i1 o D.i1z q
 have HP:=h2.at λo q=>sa.extBut i2 o D.i2z q
 have la:=qo.extBut sa.extBut D.l1z;have lb:=nS.extBut sa.extBut D.l2z;simp only[Bool.false_eq_true,if_false];refine ae ?_;rw[<-Array.forIn_toList];simp only[List.forIn_cons,List.forIn_nil];refine ae (ae (f6 ?_));show wpAny _ _ (Builtin.SmallTypes.nextOf (.ref i1) >>= _) _ _ _;refine ae ?_;rcases h with ⟨x,y,hx,hy,q⟩ | ⟨hh,he,q⟩
 .refine wpAny_nextOf_list_item B8 la hx λhb HM sb=>ai (ai ?_)
  refine ae (ae (f6 ?_));show wpAny _ _ (Builtin.SmallTypes.nextOf (.ref i2) >>= _) _ _ _;refine ae (wpAny_nextOf_list_item (HP.at λo q=>sb.extBut i2 o D.i12.symm q) (lb.extBut sb.extBut D.l2i1) hy λhc Ur sc=>ai (ai (ai ?_)));have hsz:hc.objs.size=s.heap.objs.size:=by rw[sc.1,sb.1,sa.1]
  refine ae (wpAny_newTuple (hsz:=by show 2<=sizeLine;decide) (ai ⟨_,rfl,?_⟩));show Q (.ref hc.objs.size) _;have hk:∀c o,hc.get? c=some o->(hc.push { cls:=.type "tuple",data:=.seq #[x,y] }).get? c=some o:=λc o e=>dg _ e
  have hT:IsPair (hc.push { cls:=.type "tuple",data:=.seq #[x,y] }) hc.objs.size x y:=dj _ rfl;rw[hsz]at hT ⊢;exact q _ (hk _ _ (sc.extBut _ _ D.i2z.symm (sb.extBut _ _ D.i1z.symm Dl))) (HM.at λo q=>hk _ _ (sc.extBut _ _ D.i12 q)) (Ur.at λo q=>hk _ _ q) hT λc o c1 c2 c3 e=>hk c o (sc.extBut _ _ c3 (sb.extBut _ _ c2 (sa.extBut _ _ c1 e)))
 .cases hx:xs[k]? with
  | none=>exact wpAny_nextOf_list_end hh B8 la hx λhb e sb he=>q hb e (λc o c1 c2 _ x=>sb _ _ c2 (sa.extBut _ _ c1 x)) he
  | some x=>
   refine wpAny_nextOf_list_item B8 la hx λhb HM sb=>ai (ai ?_)
   refine ae (ae (f6 ?_));show wpAny _ _ (Builtin.SmallTypes.nextOf (.ref i2) >>= _) _ _ _;exact ae (wpAny_nextOf_list_end hh (HP.at λo q=>sb.extBut i2 o D.i12.symm q) (lb.extBut sb.extBut D.l2i1) (he.resolve_left λz=>by rw[hx]at z;cases z) λhc e sc he=>q hc e (λc o c1 c2 c3 x=>sc _ _ c3 (sb.extBut _ _ c2 (sa.extBut _ _ c1 x))) he)
end
end PySem
namespace PySem
open Sem (wp)
namespace F
theorem Zd:typeLookup (.type "zip") "__len__" = pure none:=by rw[ji,jj];kernel_rfl
theorem Zc:typeLookup (.type "zip") "__length_hint__" = pure none:=by rw[ji,jj];kernel_rfl
end F
structure ZS(z TI TO i1 i2 a b:Addr)(k:Nat)(h:Heap):Prop where
 rc:IsZip h z TI TO .none\/∃(p:Addr) (q:Bool),yz h z TI TO (rawInt p) q/\(h.get? p).isSome=true/\p≠z/\p≠i1/\p≠i2
 ti:IsPair h TI (.ref i1) (.ref i2)
 to:∃x y,IsPair h TO x y
 s1:h.IsListIter i1 a k
 s2:h.IsListIter i2 b k
section
variable{TI TO b:Addr}{xs ys:Array Value}{k:Nat}
theorem u0(D:ZipApart z TI TO i1 i2 a b)(Z:ZS z TI TO i1 i2 a b k s.heap)(ha:s.heap.IsList a xs)(hb:s.heap.IsList b ys){Q:Option Value->Shared->Prop}(h:(∃x y,xs[k]?=some x/\ys[k]?=some y/\∀h',ZS z TI TO i1 i2 a b (k+1) h'->IsPair h' s.heap.objs.size x y->(∀c o,c∉[z,TO,i1,i2]->s.heap.get? c=some o->h'.get? c=some o)->Q (some (.ref s.heap.objs.size)) { s with heap:=h' })\/
   (A.handled=none/\(xs[k]?=none\/ys[k]?=none)/\∀h',(∀c o,c∉[z,TO,i1,i2]->s.heap.get? c=some o->h'.get? c=some o)->Q none { s with heap:=h' })) :
  wpAny (model prog w) A (pyNext (.ref z)) Q E s:=by
 have lt:∀{c:Addr} {o:Obj},s.heap.get? c=some o->s.heap.objs.size≠c:=λe=>iS (bh e)
 obtain⟨o1,e1,_⟩:=id Z.s1;obtain⟨o2,e2,_⟩:=id Z.s2;rcases Z.rc with hz | ⟨p,q,hz,hp,pz,p1,p2⟩
 .obtain⟨x0,y0,kK⟩:=Z.to
  rcases h with ⟨x,y,q1,q2,q3⟩ | ⟨hh,q1,q2⟩
  .refine wpAny_pyNext_zip_item D hz Z.ti kK Z.s1 Z.s2 ha hb q1 q2 λh' g1 g2 g3 g4 g5 _ g6=>q3 h' ⟨.inr ⟨_,false,g1,by rw[show h'.get? s.heap.objs.size=_ from g5];rfl,lt hz,lt e1,lt e2⟩,g6 _ _ D.TIz D.TITO D.TIi1 D.TIi2 Z.ti,⟨x,y,g2⟩,g3,g4⟩ g5 λc o hc e=>?_
   simp only[List.mem_cons,List.not_mem_nil,or_false,not_or]at hc;exact g6 c o hc.1 hc.2.1 hc.2.2.1 hc.2.2.2 e
  .refine wpAny_pyNext_zip_end hh D hz Z.ti kK Z.s1 Z.s2 ha hb q1 λh' g6=>q2 h' λc o hc e=>?_
   simp only[List.mem_cons,List.not_mem_nil,or_false,not_or]at hc;exact g6 c o hc.1 hc.2.1 hc.2.2.1 hc.2.2.2 e
 .have hT:s.TypeIs (.ref z) "zip":=⟨_,hz,rfl⟩
  obtain⟨x0,y0,kK⟩:=Z.to;unfold pyNext;refine ae (wpAny_attempt (wpAny_callSpecial?_slot (name:=Str.ofString "__next__") hT F.slot_zip_next (ir F.slot_zip_next hT F.entry_zip_next (LZ (A:=A.in1) D hz hp Z.ti Z.s1 Z.s2 ha hb ?_) (F.args_zip_next_1 _))));rcases h with ⟨x,y,q1,q2,q3⟩ | ⟨hh,q1,q2⟩
  .refine .inl ⟨x,y,q1,q2,λh' g1 g3 g4 g5 g6=>ai (q3 h' ⟨.inr ⟨p,true,g1,?_,pz,p1,p2⟩,g6 _ _ D.TIz D.TIi1 D.TIi2 Z.ti,⟨x0,y0,g6 _ _ D.TOz D.TOi1 D.TOi2 kK⟩,g3,g4⟩ g5 λc o hc e=>?_)⟩
   .obtain⟨op,C6⟩:=Option.isSome_iff_exists.mp hp
    rw[g6 p op pz p1 p2 C6];rfl
   .simp only[List.mem_cons,List.not_mem_nil,or_false,not_or]at hc
    exact g6 c o hc.1 hc.2.2.1 hc.2.2.2 e
  .refine .inr ⟨hh,q1,λh' e g6 ⟨o,ho,hc⟩=>?_⟩
   refine ae (wpAny_isInstance (T:="StopIteration") (b:=true) ⟨o,ho,hc⟩ isSubtype_stop (ai (q2 h' λc o hc e=>?_)));simp only[List.mem_cons,List.not_mem_nil,or_false,not_or]at hc;exact g6 c o hc.1 hc.2.2.1 hc.2.2.2 e
end
end PySem
namespace L2
open PySem PySem.Spec PyProof.Rows
theorem Inv.tracked{p:Addr}{o:HO}(I:Inv X pi σ H s)(f:PL X pi H p)(new:dw X.prog X.w (upd H p o) s.heap p o):Inv X pi σ (upd H p o) s:=by
 have hn:=f.1;have up:∀b u,H b=some u->upd H p o b=some u:=λb u e=>by rw[CK (G4 e hn)];exact e
 refine I.step (h':=s.heap) (t':=s.toks) (g':=s.gens) (d':=s.drawn) (ch:=[p]) (λb hb=>?_) (λb ob _ _ _ e _=>e) (λb ob _ _ _ e _=>⟨ob.slots,e⟩)
  (λb ob hc e n=>by rw[CK (λz=>hc (by simp[z]))];exact n) (λb ob _ e=>⟨ob,e⟩) (λb xs e=>up b _ e) (λb u xs e=>up b _ e) (λb ps e=>⟨#[],by rw[up b _ e];simp⟩) (λm hm=>hm) (λb u e=>?_) I.bare
 .rw[eR hb]
  exact⟨f.2.2.2.1,f.2.1,f.2.2.2.2.1,f.2.2.2.2.2⟩
 .by_cases hb:b=p
  .subst hb;rw[DP]at e;cases e;exact new
  .rw[CK hb]at e
   exact(I.aS b u e).ku (λc v _ q=>q) (λc q=>up c _ q) λc xs q=>up c _ q
def ZI(H:Hp)(xs ys vs:List V):Prop:=∀(j:Nat) (v:V),vs[j]?=some v->∃(x y:V) (p:Addr) (o:Obj),xs[j]?=some x/\ys[j]?=some y/\v=.ref p/\H p=some (.bq o (.tup [x,y]))/\o.cls=.type "tuple"/\o.dict=none
def gS(H aa:Hp):Prop:=∀c u,H c=some u->aa c=some u
section
variable{TI TO b S:Addr}{xs:List V}{oa:Obj}
theorem LW(hA:A.handled=none)(D:ZipApart z TI TO i1 i2 a b)(hS:S∉[z,TI,TO,i1,i2,a,b])(hl:min xs.length ys.length<=1000):
  ∀(m k:Nat) (s:Shared) (H:Hp) (acc:Array Value) (c:Nat) (vs:List V),min xs.length ys.length-k=m->k<=min xs.length ys.length->Inv X pi σ H s->(∀e∈[z,TI,TO,i1,i2,S],PL X pi H e)->
   H a=some (.bq oa (.lst xs))->H b=some (.bq ob (.lst ys))->ZS z TI TO i1 i2 a b k s.heap->s.heap.get? S=some { cls:=.type "list",data:=.seq acc c }->Vals vs acc.toList->vs.length=k->ZI H xs ys vs->
   (∀h' aa gT df tF,Inv X pi σ aa { s with heap:=h' }->PL X pi aa S->h'.get? S=some { cls:=.type "list",data:=.seq gT df }->Vals tF gT.toList->tF.length=min xs.length ys.length->ZI aa xs ys tF->gS H aa->R (.ok (.ret .none)) { s with heap:=h' })->
   codeAny (model X.prog X.w) A (.builtin "list.extend.loop" ⟨[.ref S,.ref z,.none],[]⟩) R s:=by
 simp only[List.mem_cons,List.not_mem_nil,or_false,not_or]at hS;obtain⟨Sz,Ta,BE,S1,S2,Sa,Sb⟩:=hS;intro m
 induction m with
 | zero=>
  intro k s H acc c vs hm hk I hf ha hb Z hL hv Al hz hR;obtain⟨its,r1,p1,_⟩:=I.list (.inl (.inr ⟨oa,ha⟩):b9 X.K H a xs);obtain⟨Dq,r2,p2,_⟩:=I.list (.inl (.inr ⟨ob,hb⟩):b9 X.K H b ys);have l1:=r1.length;have l2:=r2.length;refine jo PySem.F.entry_extend_loop ?_;rw[kj PySem.F.plain_extend_loop _];show wpAny _ A.in1 (pyNext (.ref z) >>= _) _ _ s;refine ae (u0 D Z p1.isList p2.isList (.inr ⟨by simp[hA],?_,λh' ic=>?_⟩))
  .rcases(show xs.length<=k\/ys.length<=k by lia) with q | q
   .left;simp;lia
   .right;simp;lia
  .have I1:Inv X pi σ H { s with heap:=h' }:=I.Kw (t':=s.toks) (fp:=[z,TI,TO,i1,i2,S]) hf λe o he q=>ic e o (λw=>he (by simp only[List.mem_cons,List.not_mem_nil,or_false]at w ⊢;rcases w with rfl | rfl | rfl | rfl<;>simp)) q
   refine ai (hR h' H acc c vs I1 (hf S (by simp)) (ic S _ (by simp[Sz,BE,S1,S2]) hL) hv (by lia) hz λ_ _ q=>q)
 | succ m ih=>
  intro k s H acc c vs hm hk I hf ha hb Z hL hv Al hz hR;obtain⟨its,r1,p1,_⟩:=I.list (.inl (.inr ⟨oa,ha⟩):b9 X.K H a xs);obtain⟨Dq,r2,p2,_⟩:=I.list (.inl (.inr ⟨ob,hb⟩):b9 X.K H b ys);have ko:k<xs.length:=by lia
  have sr:k<ys.length:=by lia
  obtain⟨u,eu,ru⟩:=r1.get (fo ko);obtain⟨v,ev,rv⟩:=r2.get (fo sr);refine jo PySem.F.entry_extend_loop ?_;rw[kj PySem.F.plain_extend_loop _];show wpAny _ A.in1 (pyNext (.ref z) >>= _) _ _ s;refine ae (u0 D Z p1.isList p2.isList (.inl ⟨u,v,by simpa using eu,by simpa using ev,λh' vF hT ic=>?_⟩));have Ib:h'.get? S=some { cls:=.type "list",data:=.seq acc c }:=ic S _ (by simp[Sz,BE,S1,S2]) hL;have gq:acc.size=k:=by rw[<-Al,hv.length,eK]
  have Ih:=bh hL;have line:(1002:Nat)<=sizeLine:=by decide
  show wpAny _ A.in1 (updateSeq S (·.push (.ref s.heap.objs.size)) >>= _) _ _ _;refine ae ?_;refine wpAny_updateSeq Ib rfl (ai ⟨plainId_quiet PySem.F.plain_extend_loop _,?_⟩) (by lia) (by show (acc.push _).size<=sizeLine+1;rw[Array.size_push];lia);generalize hH:h'.update S (Obj.mapSeq (·.push (.ref s.heap.objs.size)))=h2;obtain⟨c2,nL⟩:∃c2,h2.get? S=some { cls:=.type "list",data:=.seq (acc.push (.ref s.heap.objs.size)) c2 }:=⟨_,by rw[<-hH];exact k7 (Obj.mapSeq (·.push (.ref s.heap.objs.size))) Ib rfl⟩
  have k2:∀e o,e≠S->h'.get? e=some o->h2.get? e=some o:=λe o he q=>by rw[<-hH];exact(Heap.get?_update_other _ _ (Ne.symm he)).trans q
  have qh:h2.get? s.heap.objs.size=some { cls:=.type "tuple",data:=.seq #[u,v] }:=k2 _ _ (iS Ih) hT;have fresh:=I.aS.fresh (a0 s.heap.objs.size);have jw:∀e o,e∉[z,TI,TO,i1,i2,S]->s.heap.get? e=some o->h2.get? e=some o:=λe o he q=>by
   simp only[List.mem_cons,List.not_mem_nil,or_false,not_or]at he;exact k2 e o he.2.2.2.2.2 (ic e o (by simp[he.1,he.2.2.1,he.2.2.2.1,he.2.2.2.2.1]) q)
  have I2:Inv X pi σ (upd H s.heap.objs.size (.bq { cls:=.type "tuple",data:=.seq #[u,v] } (.tup [xs[k],ys[k]]))) { s with heap:=h2 }:=
   I.D7 (t':=s.toks) (fp:=[z,TI,TO,i1,i2,S]) hf jw (a0 _) ⟨qh,by show 2<=sizeLine;decide,[u,v],.cons ru (.cons rv .nil),⟨_,qh,rfl,_,rfl⟩⟩
  have sub:gS H (upd H s.heap.objs.size (.bq { cls:=.type "tuple",data:=.seq #[u,v] } (.tup [xs[k],ys[k]]))):=λe w q=>by rw[CK (G4 q fresh)];exact q
  have there:∀e∈[z,TI,TO,i1,i2,S],e<s.heap.objs.size:=λe he=>by
   simp only[List.mem_cons,List.not_mem_nil,or_false]at he;obtain⟨x0,y0,kK⟩:=Z.to;obtain⟨o1,e1,_⟩:=id Z.s1;obtain⟨o2,e2,_⟩:=id Z.s2;rcases he with rfl | rfl | rfl | rfl | rfl | rfl
   .rcases Z.rc with q | ⟨_,_,q,_⟩<;>exact bh q
   .exact bh Z.ti
   .exact bh kK
   .exact bh e1
   .exact bh e2
   .exact Ih
  have Cw:∀e∈[z,TI,TO,i1,i2,S],PL X pi (upd H s.heap.objs.size (.bq { cls:=.type "tuple",data:=.seq #[u,v] } (.tup [xs[k],ys[k]]))) e:=λe he=>
   ⟨by rw[CK (cm (there e he))];exact(hf e he).1,(hf e he).2⟩
  have Z2:ZS z TI TO i1 i2 a b (k+1) h2:=by
   have up:∀e o,e≠S->h'.get? e=some o->h2.get? e=some o:=k2;have hp:∀e,(h'.get? e).isSome=true->(h2.get? e).isSome=true:=λe q=>by
    obtain⟨o,ho⟩:=Option.isSome_iff_exists.mp q
    by_cases he:e=S
    .rw[he,nL];rfl
    .rw[up e o he ho];rfl
   refine⟨?_,up _ _ (Ne.symm Ta) vF.ti,?_,vF.s1.at λo q=>up _ _ (Ne.symm S1) q,vF.s2.at λo q=>up _ _ (Ne.symm S2) q⟩
   .rcases vF.rc with q | ⟨p,q,r1,r2,r3⟩
    .exact .inl (up _ _ (Ne.symm Sz) q)
    .exact .inr ⟨p,q,up _ _ (Ne.symm Sz) r1,hp p r2,r3⟩
   .obtain⟨x0,y0,q⟩:=vF.to
    exact⟨x0,y0,up _ _ (Ne.symm BE) q⟩
  refine ih (k+1) _ _ (acc.push (.ref s.heap.objs.size)) c2 (vs++[.ref s.heap.objs.size]) (by lia) (by lia) I2 Cw (sub _ _ ha) (sub _ _ hb) Z2 nL ?_ (by simp[Al]) ?_ λh3 H3 Tc c3 YV q1 q2 q3 q4 q5 q6 q7=>hR h3 H3 Tc c3 YV q1 q2 q3 q4 q5 q6 λe w q=>q7 e w (sub e w q)
  .rw[Array.toList_push]
   exact hv.append (.cons rfl .nil)
  .intro j w hj
   by_cases cp:j<vs.length
   .rw[kh cp]at hj
    obtain⟨x,y,p,o,e1,e2,e3,e4,e5⟩:=hz j w hj;exact⟨x,y,p,o,e1,e2,e3,sub _ _ e4,e5⟩
   .have sm:j=k:=by
     have:=(List.getElem?_eq_some_iff.mp hj).1;simp at this;lia
    subst sm;have ew:w=.ref s.heap.objs.size:=by
     have:(vs++[V.ref s.heap.objs.size])[j]?=some (V.ref s.heap.objs.size):=by rw[<-Al];simp
     rw[this]at hj;exact(cq hj).symm
    exact⟨xs[j],ys[j],_,_,fo ko,fo sr,ew,DP,rfl,rfl⟩
end
end L2
namespace L2
open PySem PySem.Spec PyProof.Rows
section
variable{TI TO b:Addr}{xs:List V}{oa:Obj}
theorem LY(hz:IsZip h z TI TO .none){t:Shared}(ht:t.heap=h){Q:Bool->Shared->Prop}(q:Q true t):wpAny (model X.prog X.w) A (Builtin.List.listLengthHint (.ref z)) Q E t:=by
 have hT:t.TypeIs (.ref z) "zip":=⟨_,by rw[ht];exact hz,rfl⟩
 unfold Builtin.List.listLengthHint;refine ae (wpAny_specialOf hT PySem.F.Zd ?_);refine ae (wpAny_specialOf hT PySem.F.Zc ?_);exact ai q
theorem LX(hA:A.handled=none)(D:ZipApart z TI TO i1 i2 a b)(hl:min xs.length ys.length<=1000)(I:Inv X pi σ H s)(hf:∀e∈[z,TI,TO,i1,i2],PL X pi H e)(ha:H a=some (.bq oa (.lst xs)))(hb:H b=some (.bq ob (.lst ys)))(hz:IsZip s.heap z TI TO .none)(qi:IsPair s.heap TI (.ref i1) (.ref i2))(kK:∃x y,IsPair s.heap TO x y)(h1:s.heap.IsListIter i1 a 0)(h2:s.heap.IsListIter i2 b 0)(hQ:∀S h' aa vs,Inv X pi σ (upd aa S (.lst vs)) { s with heap:=h' }->aa S=none->vs.length=min xs.length ys.length->ZI aa xs ys vs->gS H aa->Q (.ref S) { s with heap:=h' }) :
  wpAny (model X.prog X.w) A (call (.type "list") [.ref z]) Q E s:=by
 obtain⟨x0,y0,kK⟩:=kK;obtain⟨aa2,TC,_⟩:=id h1;obtain⟨aa3,TH,_⟩:=id h2;obtain⟨its,r1,p1,_⟩:=I.list (.inl (.inr ⟨oa,ha⟩):b9 X.K H a xs);obtain⟨Dq,r2,p2,_⟩:=I.list (.inl (.inr ⟨ob,hb⟩):b9 X.K H b ys);obtain⟨aa4,aaV,TK,_⟩:=id p1;obtain⟨aa5,aaW,TL,_⟩:=id p2;have fresh:=I.aS.fresh (a0 s.heap.objs.size);have lt:∀{c:Addr} {o:Obj},s.heap.get? c=some o->s.heap.objs.size≠c:=λe=>iS (bh e)
 have hS:s.heap.objs.size∉[z,TI,TO,i1,i2,a,b]:=by
  simp only[List.mem_cons,List.not_mem_nil,or_false,not_or];exact⟨lt hz,lt qi,lt kK,lt TC,lt TH,lt TK,lt TL⟩
 refine callType_codes (Q₁:=λobj bc=>obj=.ref s.heap.objs.size/\bc={ s with heap:=s.heap.push { cls:=.type "list",data:=.seq #[] } }) PySem.F.called_list (PySem.F.typeCall_list_1 _) PySem.F.entry_list_init (code_list_new _ ⟨rfl,rfl⟩) ?_;rintro obj bc ⟨rfl,rfl⟩;have hL:(s.heap.push { cls:=.type "list",data:=.seq #[] }).get? s.heap.objs.size=some { cls:=.type "list",data:=.seq #[] }:=dj _ rfl;refine⟨⟨_,hL,rfl⟩,PySem.F.args_list_init_2 _ _,?_⟩;generalize hH:s.heap.push { cls:=.type "list",data:=.seq #[] }=H1 at hL;have k1:∀c o,s.heap.get? c=some o->H1.get? c=some o:=λc o e=>by rw[<-hH];exact dg _ e
 have loop:∀(h:Heap) (c:Nat),h.get? s.heap.objs.size=some { cls:=.type "list",data:=.seq #[] c }->(∀c o,s.heap.get? c=some o->h.get? c=some o)->
   codeAny (model X.prog X.w) A.in1 (.builtin "list.extend.loop" ⟨[.ref s.heap.objs.size,.ref z,.none],[]⟩) (wants (λr cS=>r=.none/\Q (.ref s.heap.objs.size) cS) E) { s with heap:=h }:=by
  intro h c e1 e2;have I1:Inv X pi σ H { s with heap:=h }:=I.kept (t':=s.toks) e2;refine LW (by simp[hA]) D hS hl (min xs.length ys.length) 0 { s with heap:=h } H #[] c [] rfl (eS _) I1 (λe he=>?_) ha hb ⟨.inl (e2 _ _ hz),e2 _ _ qi,⟨x0,y0,e2 _ _ kK⟩,h1.at λo q=>e2 _ _ q,h2.at λo q=>e2 _ _ q⟩ e1 .nil rfl (λj v q=>by simp at q) λh' aa gT df tF q1 q2 q3 q4 q5 q6 q7=>⟨rfl,?_⟩
  .rcases cz (show e∈[z,TI,TO,i1,i2]++[s.heap.objs.size] by simpa using he) with he | he
   .exact hf e he
   .rw[eR he];exact I.nK (a0 _) fresh
  .have I2:Inv X pi σ (upd aa s.heap.objs.size (.lst tF)) { s with heap:=h' }:=by
    refine q1.tracked q2 ⟨?_,gT.toList,df,q4,by simpa using q3⟩;rw[q5];exact eJ hl (by decide)
   exact hQ _ h' aa tF I2 q2.1 q5 q6 q7
 unfold Builtin.«list.__init__»;show wpAny _ _ (do let old <-Builtin.List.listItems (.ref s.heap.objs.size);Builtin.List.listUpdate (.ref s.heap.objs.size) (λ_=>#[]);letGo old.toList.reverse;Builtin.List.listExtendWith (.ref s.heap.objs.size) (.ref z) .none) _ _ _;refine ae ?_;unfold Builtin.List.listItems;refine ae (wpAny_seqItems hL rfl (ai ?_));refine ae (m:=updateSeq s.heap.objs.size (λ_=>#[])) (wpAny_updateSeq hL rfl ?_);have nL:=k7 (Obj.mapSeq (λ_=>(#[]:Array Value))) hL rfl;have k2:∀c o,s.heap.get? c=some o->(H1.update s.heap.objs.size (Obj.mapSeq (λ_=>(#[]:Array Value)))).get? c=some o:=λc o e=>(Heap.get?_update_other _ _ (lt e)).trans (k1 c o e)
 generalize wx:H1.update s.heap.objs.size (Obj.mapSeq (λ_=>(#[]:Array Value)))=H2 at nL k2;refine ae (wpAny_letGo ?_);unfold Builtin.List.listExtendWith;refine ae (wpAny_typeOf (T:="zip") ⟨_,k2 _ _ hz,rfl⟩ ?_);rw[ak (by simp[Builtin.List.listSameRef,lt hz])];refine ae (wpAny_pyIter_zip (k2 _ _ hz) ?_);refine ae (f6 (LY (X:=X) (k2 _ _ hz) rfl ?_));refine wpAny_ite_split (λ_=>?_) (λq=>absurd (by simp) q);refine ae (jy ?_);refine ae ?_;show wpAny _ _ (updateSeq s.heap.objs.size (·.push .none) >>= λ_=>updateSeq s.heap.objs.size (·.pop)) _ _ _;refine ae (wpAny_updateSeq nL rfl ?_);have r6:=k7 (Obj.mapSeq (·.push Value.none)) nL rfl;refine wpAny_updateSeq (hz:=by seq_fits) r6 rfl ?_;have Cf:=k7 (Obj.mapSeq (·.pop)) r6 rfl;exact ai ⟨plainId_quiet PySem.F.plain_extend_loop _,loop _ _ Cf λc o e=>(Heap.get?_update_other _ _ (lt e)).trans ((Heap.get?_update_other _ _ (lt e)).trans (k2 c o e))⟩
end
def Rr(vs:List V)(H1:Hp)(Q:VK):Prop:=∃(a b:Addr) (oa ob:Obj) (xs ys:List V),vs=[.ref a,.ref b]/\H1 a=some (.bq oa (.lst xs))/\H1 b=some (.bq ob (.lst ys))/\min xs.length ys.length<=1000/\
 ∀(S:Addr) (aa:Hp) (ws:List V),aa S=none->ws.length=min xs.length ys.length->ZI aa xs ys ws->gS H1 aa->Q (.ref S) (upd aa S (.lst ws))
theorem Nb{l r:Expr}{ta:TA}(hc:X.calm=true)(iz:Gl X "list")(fh:X.mg "list" = none)(ju:Gl X "zip")(jx:X.mg "zip" = none)(ha:PA X [l,r] ta)(dh:starEach [Expr.Call (.Name "zip" p2) [l,r] [] q2] X.env=[(false,eval (.Call (.Name "zip" p2) [l,r] [] q2) X.env)]:=by rfl)(hs:starEach [l,r] X.env=[(false,eval l X.env),(false,eval r X.env)]:=by rfl)(dC:starEach [r] X.env=[(false,eval r X.env)]:=by rfl) :
  PE X (.Call (.Name "list" p1) [.Call (.Name "zip" p2) [l,r] [] q2] [] q1) (λ σ H Q=>ta σ H λvs H1=>Rr vs H1 Q):=by
 intro pi s σ H Q I h;refine Call_ (LQ I iz fh boot_list (PyProof.Rows.callWith_type1 ?_ dh rfl));have inner:wpAny (model X.prog X.w) X.A (eval (.Call (.Name "zip" p2) [l,r] [] q2) X.env)
   (λv s1=>∃z TI TO i1 i2 a b oa ob xs ys H1,v=.ref z/\ZipApart z TI TO i1 i2 a b/\Inv X pi σ H1 s1/\(∀e∈[z,TI,TO,i1,i2],PL X pi H1 e)/\H1 a=some (.bq oa (.lst xs))/\H1 b=some (.bq ob (.lst ys))/\IsZip s1.heap z TI TO .none/\IsPair s1.heap TI (.ref i1) (.ref i2)/\(∃x y,IsPair s1.heap TO x y)/\s1.heap.IsListIter i1 a 0/\s1.heap.IsListIter i2 b 0/\min xs.length ys.length<=1000/\
    ∀(S:Addr) (aa:Hp) (ws:List V),aa S=none->ws.length=min xs.length ys.length->ZI aa xs ys ws->gS H1 aa->Q (.ref S) (upd aa S (.lst ws))) X.xe s:=by
  refine Call_ (LQ I ju jx boot_zip (PyProof.Rows.callWith_type1 (a9 (ha q2 pi s σ H _ I h) λus s1 ah=>?_) (by rw[hs,dC]) (by rw[dC];rfl)));obtain⟨vs,H1,I1,r1,q1⟩:=ah;obtain⟨a,b,oa,ob,xs,ys,rfl,hA,hB,hl,q⟩:=q1;obtain⟨u,v,rfl,ru,rv⟩:=r1.two;cases ru;cases rv;obtain⟨its,rx,px,aaL⟩:=I1.list (.inl (.inr ⟨oa,hA⟩):b9 X.K H1 a xs);obtain⟨Dq,ry,py,aaM⟩:=I1.list (.inl (.inr ⟨ob,hB⟩):b9 X.K H1 b ys);obtain⟨ox,nx,ex,_⟩:=id px;obtain⟨oy,aaX,ey,_⟩:=id py;refine call_zip_2 px.isList py.isList λh' g1 g2 g3 g4 g5 _ hk=>?_
  have I2:Inv X pi σ H1 { s1 with heap:=h' }:=I1.kept (t':=s1.toks) hk;refine⟨_,_,_,_,_,a,b,oa,ob,xs,ys,H1,rfl,zipApart_new (bh ex) (bh ey),I2,λc hc=>?_,hA,hB,g1,g2,⟨_,_,g3⟩,g4,g5,hl,q⟩;have gu:s1.heap.objs.size<=c:=by
   simp only[List.mem_cons,List.not_mem_nil,or_false]at hc;rcases hc with rfl | rfl | rfl | rfl | rfl
   .exact wg _ _
   .exact wg _ _
   .exact wg _ _
   .exact a0 _
   .exact wg _ _
  exact I1.nK gu (I1.aS.fresh gu)
 rw[dh];refine oI (a9 inner λv s1 ah=>?_);obtain⟨z,TI,TO,i1,i2,a,b,oa,ob,xs,ys,H1,ev,D,I1,hf,hA,hB,hz,qi,kK,h1,h2,hl,q⟩:=ah;refine qe ?_;subst ev;exact LX (I1.ok.hd hc) D hl I1 hf hA hB hz qi kK h1 h2 λS h' aa vs J n e1 e2 e3=>⟨.ref S,_,J,rfl,q S aa vs n e1 e2 e3⟩
end L2
namespace WL
open PySem PySem.Spec PyProof.Rows L2
section
variable{a:Expr}
theorem FD:∀{ds es:List D} {xs ys ws:List V},a7 K ρ H ds xs->a7 K ρ H es ys->ws.length=min xs.length ys.length->ZI H xs ys ws->a7 K ρ H (ZR ds es) ws
 | [],es,xs,ys,ws,h1,h2,hl,hz=>by
  cases (show xs=[] from h1);have:ws=[]:=List.eq_nil_of_length_eq_zero (by rw[hl];simp);subst this;rfl
 | d::ds,[],xs,ys,ws,h1,h2,hl,hz=>by
  cases (show ys=[] from h2);have:ws=[]:=List.eq_nil_of_length_eq_zero (by rw[hl];simp);subst this;rfl
 | d::ds,e::es,xs,ys,ws,h1,h2,hl,hz=>by
  obtain⟨x,abd,rfl,ax,as⟩:=h1;obtain⟨y,abe,rfl,ay,bs⟩:=h2;cases ws with
  | nil=>simp at hl
  | cons w ws=>
   obtain⟨Ec,Ee,p,o,e1,e2,e3,e4,e5,e6⟩:=hz 0 w rfl;have e1:x=Ec:=cq e1;have e2:y=Ee:=cq e2;subst e1 e2;refine⟨w,ws,rfl,⟨p,[x,y],e3,⟨o,e5,e6,.inl e4⟩,x,[y],rfl,ax,y,[],rfl,ay,rfl⟩,FD as bs (by simp at hl;omega) λj v hj=>?_⟩;obtain⟨Ec,Ee,p,o,e1,e2,e3⟩:=hz (j+1) v (by simpa using hj);exact⟨Ec,Ee,p,o,by simpa using e1,by simpa using e2,e3⟩
theorem gS.fz(h:gS H aa):J6 H aa:=λa o u e=>h a _ e
theorem gS.go{H aa:Hp}(h:gS H aa)(ρ:List Addr):Go ρ ρ H aa:=⟨λb o e _=>h b o e,List.prefix_rfl,λ_ h=>.inl h⟩
theorem gS.mem(h:gS H aa)(M:bp K ρ m H):bp K ρ m aa:=M.keep (gS.fz h) λa ha=>by
 obtain⟨u,e,_⟩:=M.there ha;rw[h a u e,e]
theorem Mu{q2:Pos}(ha:PE X a (tD C X.K pa))(hb:PE X b (tD C X.K pb))(mu:Bool:=false)(hc:X.calm=true:=by kernel_rfl)(iz:Gl X "list":=by kernel_rfl)(fh:X.mg "list" = none:=by assumption)(ju:Gl X "zip":=by kernel_rfl)(jx:X.mg "zip" = none:=by assumption)(dh:starEach [Expr.Call (.Name "zip" p2) [a,b] [] q2] X.env=[(false,eval (.Call (.Name "zip" p2) [a,b] [] q2) X.env)]:=by kernel_rfl)(hs:starEach [a,b] X.env=[(false,eval a X.env),(false,eval b X.env)]:=by kernel_rfl)(dC:starEach [b] X.env=[(false,eval b X.env)]:=by kernel_rfl):
  PE X (.Call (.Name "list" p1) [.Call (.Name "zip" p2) [a,b] [] q2] [] q1) (tD C X.K (.DC mu pa pb)):=(Nb hc iz fh ju jx (J7 ha (J7 hb JR dC) (by rw[hs,dC])) dh hs dC).qx λ σ H Q ah=>by
 obtain⟨aj,m,ρ,d,af,S,M,e,q⟩:=ah;obtain⟨⟨x,m1⟩,e1,e⟩:=aT e;obtain⟨⟨y,m2⟩,e2,e⟩:=aT e;refine⟨aj,m,ρ,x,m1,S,M,e1,λv H1 az g1 M1 A1=>⟨aj,m1,az,y,m2,S.mono M g1,M1,e2,λu H2 c8 g2 M2 A2=>?_⟩⟩;have l9:=A1.mono M1 g2;cases x with
 | lst xs=>
  cases y with
  | lst ys=>
   have e:(if xs.length<=1000 then some (bw mu (ZR xs ys) m2) else none)=some (d,af):=e
   by_cases hl:xs.length<=1000
   .rw[ag hl]at e
    have aE:bw mu (ZR xs ys) m2=(d,af):=cq e;obtain⟨a1,o1,vs,rfl,h1,as⟩:=l9;obtain⟨a2,o2,us,rfl,h2,bs⟩:=A2;have l1:=as.len;refine⟨a1,a2,o1,o2,vs,us,rfl,h1,h2,by lia,λp aa ws hp hw hz sub=>?_⟩;have cg:en X.K c8 aa (bw mu (ZR xs ys) m2).1 (bw mu (ZR xs ys) m2).2 Q:=by
     rw[aE];exact(q.go (g1.trans g2)).go (gS.go sub c8)
    exact cg.lst (gS.mem sub M2) (FD (as.dq (gS.fz sub) (.refl _)) (bs.dq (gS.fz sub) (.refl _)) hw hz) hp
   .rw[ak hl]at e
    cases e
  | _=>cases e
 | _=>cases e
end
end WL
namespace PySem
open SetTable
noncomputable def lows:List (List Nat):=(((List.range 8).foldr (λx a=>a++a.map (x::·)) [[]]).filter λl=>decide (l.length<=3))
noncomputable def aC(p:List Nat)(i:Nat):Nat:=if i=0 then 0 else p.getD (i-1) 0+1
noncomputable def yw(p:List Nat):SetTable:=⟨7,p.toArray,#[],0,false,0,false⟩
theorem vD:∀p∈lows,(∀i≤p.length,below p.toArray (aC p i)=i)/\(p.length<=2->∀h∈([0,1,2]:List Int),∃j<8,(yw p).freeSlot h=some (j,false)/\((yw p).put j).1.place.toList∈lows):=by decide +kernel
def ot(t:SetTable):Prop:=t.mask=7/\t.dummies=#[]/\t.place.toList∈lows
theorem Lw(L:ot t)(h:Int):t.freeSlot h=(yw t.place.toList).freeSlot h:=by
 obtain⟨m,p,d,f,l,v,q⟩:=t;obtain⟨rfl,rfl,_⟩:=L;have key:∀(n:Nat) (z:Probe),probe.go ⟨7,p,#[],f,l,v,q⟩ (λ_=>h+1) h n z=probe.go (yw p.toList) (λ_=>h+1) h n z:=λn=>by
  induction n with
  | zero=>exact λ_=>rfl
  | succ n ih=>
   intro z;unfold probe.go;simp only[ih];rfl
 unfold freeSlot probe;rw[key];rfl
theorem Nz{t:SetTable}(L:ot t){es:Array (Int×Value)}(hf:t.fits es.size=true)(hz:es.size<=2){h:Int}(hh:0<=h/\h<=2)(x:Value):ot (layNew t es h x).2.1/\(layNew t es h x).2.1.tooFull=false:=by
 have kq:t.place.size=es.size:=by
  simp only[fits,gp,beq_iff_eq]at hf;exact hf.1
 obtain⟨j,hj,e,hl⟩:=(vD _ L.2.2).2 (by simpa[kq] using hz) h (by simp;lia);rw[<-Lw L]at e;obtain⟨m,p,d,f,l,v,q⟩:=t;obtain⟨rfl,rfl,L3⟩:=L;have s1:(insertAt p (below p j) j).size=es.size+1:=by
  have:(insertAt p (below p j) j).size=p.size+1:=by simp[insertAt];lia
  rw[this];exact congrArg (·+1) kq
 have s2:(insertAt es (below p j) (h,x)).size=es.size+1:=by simp[insertAt];lia
 have ft:(SetTable.put ⟨7,p,#[],f,l,v,q⟩ j).1.fits (insertAt es (below p j) (h,x)).size=true:=by
  show ((insertAt p (below p j) j).size==(insertAt es (below p j) (h,x)).size&&decide ((insertAt p (below p j) j).size+0<=7))=true;rw[s1,s2];simp;lia
 have et:(layNew ⟨7,p,#[],f,l,v,q⟩ es h x).2.1=(SetTable.put ⟨7,p,#[],f,l,v,q⟩ j).1:=by rw[layNew,e];exact ag ft
 rw[et];refine⟨⟨rfl,rfl,hl⟩,dn ?_⟩;show ¬((insertAt p (below p j) j).size+0)*5≥7*3;lia
end PySem
namespace PySem
open L2
noncomputable def qA:Value->Key
 | .str x _=>.inr x
 | .int i _=>.inl i
 | _=>.inl 0
noncomputable def fw(e:Int×Value):Key:=qA e.2
theorem oO{k:Key}(h:JV k v=true):qA v=k/\v.scannable=true:=by
 rcases FW h with ⟨i,t,rfl,rfl⟩ | ⟨x,t,rfl,rfl⟩<;>exact⟨rfl,rfl⟩
def SE(w:World)(l:List (Int×Value)):Prop:=∀e∈l,∃k,JV k e.2=true/\e.1=ZX w k
theorem SE.elems{l:List (Int×Value)}(h:SE w l):ElemsOf (CZ prog w) l:=λe he=>by
 obtain⟨k,h1,h2⟩:=h e he;exact⟨⟨k,h1,h2⟩,(oO h1).2⟩
theorem SE.perm{l gv:List (Int×Value)}(h:SE w l)(p:gv.Perm l):SE w gv:=λe he=>h e (p.mem_iff.mp he)
theorem SE.is{prog:Program}{w:World}{l:List (Int×Value)}(h:SE w l){e:Int×Value}(he:e∈l)(x:Key):(CZ prog w).is x e.2=decide (x=fw e):=by
 obtain⟨k,h1,_⟩:=h e he;rw[fw,(oO h1).1];exact KeyKind.is_eq_decide (knd:=CZ prog w) h1 x
theorem Sw(t:SetTable)(n:Nat):(t.orStandIn n).led=t.led/\((t.orStandIn n).plain=true->t.plain=true):=by
 unfold SetTable.orStandIn;split
 .exact⟨rfl,id⟩
 .exact⟨rfl,λq=>by simp[SetTable.standIn]at q⟩
theorem rW(t:SetTable)(es:Array (Int×Value))(h:Int)(x:Value):(layNew t es h x).2.1.led=t.led/\((layNew t es h x).2.1.plain=true->t.plain=true):=by
 unfold layNew;split
 .rename_i slot wd he
  exact Sw (t.put slot).1 (SetTable.insertAt es (t.put slot).2 (h,x)).size
 .exact⟨rfl,λq=>by simp[SetTable.standIn]at q⟩
theorem jX(t:SetTable)(es:Array (Int×Value))(wanted:Nat):(relayAll t es wanted).2.1.led=t.led/\((relayAll t es wanted).2.1.plain=true->t.plain=true):=by
 unfold relayAll;split
 .rename_i t' order he
  have ht:t'.led=t.led/\t'.plain=t.plain:=by
   unfold SetTable.relaid SetTable.laid at he;cases hc:SetTable.layClean (SetTable.sizeAbove wanted-1) (es.map (·.1)) with
   | none=>rw[hc]at he;cases he
   | some owner=>rw[hc]at he;cases he;exact⟨rfl,rfl⟩
  dsimp only;split
  .exact⟨ht.1,λq=>by rw[<-ht.2];exact q⟩
  .exact⟨rfl,λq=>by simp[SetTable.standIn]at q⟩
 .exact⟨rfl,λq=>by simp[SetTable.standIn]at q⟩
abbrev NK (es:Array (Int×Value)) (ep:Nat) (t:SetTable):Obj:={ cls:=.type "set",dict:=none,data:=.set es ep t,slots:=#[] }
structure SetB(w:World)(h:Heap)(a:Addr)(es:Array (Int×Value))(ep:Nat)(t:SetTable):Prop where
 ob:h.get? a=some (NK es ep t)
 fit:t.fits es.size=true
 led:t.led=!w.params.followText "set-order"
 pl:t.plain=false\/∀i≤t.place.size,SetTable.below t.place (aC t.place.toList i)=i
noncomputable def ZV:List Key:=[.inl 0,.inl 1,.inl 2]
structure mX(w:World)(h:Heap)(a:Addr)(es:Array (Int×Value))(ep:Nat)(t:SetTable):Prop extends SetB w h a es ep t where
 se:SE w es.toList
 nd:(es.toList.map fw).Nodup
 lo:t.plain=true->ot t/\∀k∈es.toList.map fw,k∈ZV
theorem ot.zg(L:ot t):∀i≤t.place.size,SetTable.below t.place (aC t.place.toList i)=i:=(vD _ L.2.2).1
theorem Pc{es:Array (Int×Value)}{ep:Nat}(S:mX w s.heap a es ep t)(hb:es.size+1<scanBound){x:Key}{v:Value}(xd:JV x v=true)(xx:(∃y,x=.inr y)\/x∈ZV){Q:Bool->Shared->Prop}(h:∀h' iX jq t' b,Heap.SameBut a s.heap h'->mX w h' a iX jq t'->iX.size<=es.size+1->(∀y,y∈iX.toList.map fw↔y∈es.toList.map fw\/y=x)->Q b { s with heap:=h' }) :
  wpAny (model prog w) A (setAddHashed a v (ZX w x)) Q E s:=by
 have Ip:ElemsOf (CZ prog w) es.toList:=S.se.elems;have IY:=(oO xd).2;unfold setAddHashed setAddHashedIn;refine f6 (ae (wpAny_setState_of S.ob rfl S.fit ?_));dsimp only;rw[byScan_of IY (Nat.lt_of_succ_lt hb) Ip];simp only[↓reduceIte];unfold setAddByScan;refine ae (ae (jy (ae (wpAny_setScan_of (knd:=CZ prog w) (show (CZ prog w).is x v=true from xd) S.ob rfl S.fit Ip ?_))));cases hr:List.findIdx? (λe=>(CZ prog w).is x e.2) es.toList with
 | some j=>
  dsimp only;obtain⟨hj,IT,_⟩:=List.findIdx?_eq_some_iff_getElem.mp hr;rw[S.se.is (List.getElem_mem hj),decide_eq_true_eq]at IT;have hx:x∈es.toList.map fw:=by rw[IT];exact gh (List.getElem_mem hj)
  refine ai (ai ?_);exact h s.heap es ep t _ (Heap.SameBut.refl a s.heap) S (ua _) λy=>⟨.inl,λq=>q.elim id λe=>e▸hx⟩
 | none=>
  dsimp only;have hx:x∉es.toList.map fw:=λq=>by
   obtain⟨e,he,rfl⟩:=cw q;have:=List.findIdx?_eq_none_iff.mp hr e he;rw[S.se.is he]at this;simp at this
  have gw:∀(b:Bool) {bc:Shared} {nj:Unit->Shared->Prop},nj () bc->wpAny (model prog w) A (match b with | true=>rule "set.scan.the-table-gave-way" | false=>pure ()) nj E bc:=λb bc nj q=>by cases b<;>first | exact ai q | exact jy q
  have lp:=layNew_perm t es (ZX w x) v;have lf:=layNew_fits t es (ZX w x) v;have ll:=rW t es (ZX w x) v;have lw:t.plain=true->x∈ZV->ot (layNew t es (ZX w x) v).2.1/\(layNew t es (ZX w x) v).2.1.tooFull=false:=λhp hk=>by
   have hz:=(List.nodup_cons.mpr ⟨hx,S.nd⟩).length_le_of_subset (l₂:=ZV) λk q=>(ck q).elim (λe=>e▸hk) ((S.lo hp).2 k)
   rw[kg,a8,eK]at hz;refine Nz (S.lo hp).1 S.fit (Nat.le_of_succ_le_succ hz) ?_ v;simp only[ZV,List.mem_cons,List.not_mem_nil,or_false]at hk;rcases hk with rfl | rfl | rfl<;>(simp only[ZX];decide)
  generalize hL:layNew t es (ZX w x) v=L at lp lf ll lw ⊢;obtain⟨fc,t1,wd,aai⟩:=L;dsimp only at lp lf ll lw ⊢;rw[Array.toList_push]at lp;have IZ:SE w fc.toList:=SE.perm (l:=es.toList++[(ZX w x,v)]) (λe he=>by
   rcases cz he with he | he
   .exact S.se e he
   .rw[eR he];exact⟨x,xd,rfl⟩) lp
  have fh:(fc.toList.map fw).Perm (es.toList.map fw++[x]):=by
   have:=lp.map fw;rw[dt,List.map_singleton,show fw (ZX w x,v)=x from (oO xd).1]at this;exact this
  have IG:(fc.toList.map fw).Nodup:=fh.nodup_iff.mpr (List.nodup_append.mpr ⟨S.nd,by simp,λa ha b hb e=>hx (by rw[<-eR hb,<-e];exact ha)⟩);have CU:∀y,y∈fc.toList.map fw↔y∈es.toList.map fw\/y=x:=λy=>by rw[fh.mem_iff];simp
  have aaI:fc.size=es.size+1:=by rw[<-eK,lp.length_eq,gc,eK];rfl
  refine ae (gw _ ?_);have tail:∀(t2:SetTable),t2.fits fc.size=true->t2.led=t.led->(t2.plain=false\/t2.tooFull=false)->(t2.plain=true->ot t2/\∀k∈fc.toList.map fw,k∈ZV)->wpAny (model prog w) A (do
    storeSet a fc t2
    if (!wd&&t2.tooFull)=true then do
      (match (relayAll t2 fc (SetTable.grown fc.size)).2.2 with | true=>rule "set.scan.the-table-gave-way" | false=>pure ())
      storeSet a (relayAll t2 fc (SetTable.grown fc.size)).1 (relayAll t2 fc (SetTable.grown fc.size)).2.1
      pure (some true)
     else pure (some true)) (λr s'=>∃b,r=some b/\Q b s') E s:=by
   intro t2 Cw nS qq Jg;refine ae (wpAny_storeSet_of S.ob rfl ?_ (fits_of_scanBound (by lia)));have o1:(s.heap.update a (Obj.putSet fc t2)).get? a=some (NK fc (ep+1) t2):=k7 (Obj.putSet fc t2) S.ob rfl;have Km:=wb s.heap a (Obj.putSet fc t2);split
   .rename_i Jc
    have qq:t2.plain=false:=qq.resolve_right λz=>by rw[z,Bool.and_false]at Jc;cases Jc
    have rp:=relayAll_perm t2 fc (SetTable.grown fc.size);have rf:=relayAll_fits t2 fc (SetTable.grown fc.size);have rl:=jX t2 fc (SetTable.grown fc.size);generalize relayAll t2 fc (SetTable.grown fc.size)=Rl at rp rf rl ⊢;obtain⟨qf,t3,aaj⟩:=Rl;dsimp only at rp rf rl ⊢;have hsz2:qf.size=fc.size:=by rw[<-eK,rp.length_eq,eK]
    refine ae (gw _ ?_);refine ae (wpAny_storeSet_of o1 rfl ?_ (fits_of_scanBound (by lia)));have o2:((s.heap.update a (Obj.putSet fc t2)).update a (Obj.putSet qf t3)).get? a=some (NK qf (ep+1+1) t3):=k7 (Obj.putSet qf t3) o1 rfl;have IP:t3.plain=false:=by
     cases q:t3.plain with
     | false=>rfl
     | true=>rw[rl.2 q]at qq;cases qq
    exact ai ⟨true,rfl,h _ qf _ t3 true (Km.trans (wb _ a _)) ⟨⟨o2,rf,by rw[rl.1,nS,S.led],.inl IP⟩,IZ.perm rp,(rp.map fw).nodup_iff.mpr IG,λz=>by rw[IP]at z;cases z⟩ (by lia) λy=>by rw[(rp.map fw).mem_iff];exact CU y⟩
   .refine ai ⟨true,rfl,h _ fc _ t2 true Km ⟨⟨o1,Cw,by rw[nS,S.led],?_⟩,IZ,IG,Jg⟩ (by lia) CU⟩
    cases q:t2.plain with
    | false=>exact .inl rfl
    | true=>exact .inr (Jg q).1.zg
  split
  .rename_i jd
   have hp:=ll.2 jd;refine ae ?_;rw[hashByValue_scannable 8 IY];refine ai ?_;have pk:plainKind v=true->x∈ZV:=λz=>xx.resolve_left λah=>by
    obtain⟨y,e⟩:=ah;subst e;obtain⟨t,rfl⟩:=Value.isStrOf_shape (x:=y) (v:=v) xd;cases z
   refine ff (tail (if plainKind v=true then t1 else { t1 with plain:=false }) ?_ ?_ ?_ ?_) (λr s' ⟨b,e,q⟩=>?_) λ_ _ e=>e
   .split
    .exact lf
    .exact SetTable.fits_plain_off lf
   .split<;>exact ll.1
   .split
    .rename_i z
     exact .inr (lw hp (pk z)).2
    .exact .inl rfl
   .split
    .rename_i z
     exact λ_=>⟨(lw hp (pk z)).1,λk hk=>((CU k).mp hk).elim ((S.lo hp).2 k) λe=>e▸pk z⟩
    .exact λz=>by cases z
   subst e;exact ai q
  .rename_i jd
   refine ae (ai ?_);simp only[↓reduceIte];have jd:t1.plain=false:=by simpa using jd
   refine ff (tail t1 lf ll.1 (.inl jd) λz=>by rw[jd]at z;cases z) (λr s' ⟨b,e,q⟩=>?_) λ_ _ e=>e
   subst e;exact ai q
theorem vH:∀{vs:List Value} {ys:List Key},Vals (ys.map kV) vs->∀(k:Nat) (v:Value),vs[k]?=some v->∃x,JV x v=true/\ys[k]?=some x
 | _,[],.nil,k,v,h=>by simp at h
 | _,y::ys,.cons a r,0,v,h=>by
  cases h;refine⟨y,?_,rfl⟩;cases y<;>(obtain⟨t,rfl⟩:=a;simp[JV,Value.isInt,Value.isStrOf])
 | _,y::ys,.cons a r,k+1,v,h=>vH r k v h
theorem Jt{l:Bool}:ot (.fresh 0 0 l):=⟨rfl,rfl,show []∈lows by decide⟩
theorem Ma(hh:A.handled=none){l S:Addr}{vs:List Value}{xs:List Key}(hv:Vals (xs.map kV) vs)(xx:∀x∈xs,(∃y,x=.inr y)\/x∈ZV)(Ab:l≠I)(Ci:S≠I)(Uw:S≠l)(hn:vs.length+1<scanBound):∀(m k:Nat) (s:Shared) (es:Array (Int×Value)) (ep:Nat) (t:SetTable),vs.length-k=m->k<=vs.length->s.heap.IsListIter I l k->s.heap.IsList l vs.toArray->mX w s.heap S es ep t->es.size<=k->(∀y,y∈es.toList.map fw↔y∈xs.take k)->
  (∀h' tk iX jq t',mX w h' S iX jq t'->iX.size<=vs.length->(∀y,y∈iX.toList.map fw↔y∈xs)->(∀b o,b≠I->b≠S->s.heap.get? b=some o->h'.get? b=some o)->R (.ok (.ret .none)) { s with heap:=h',toks:=tk })->
  codeAny (model prog w) A (.builtin "set.update.loop" ⟨[.ref S,.ref I],[]⟩) R s:=by
 have hlen:vs.length=xs.length:=by rw[<-hv.length,a8]
 intro m
 induction m with
 | zero=>
  intro k s es ep t hm hk hit hl hS hz oT hR;have W:=Walks.list (prog:=prog) (w:=w) (A:=A.in1) (by simp[hh]) I l Ab vs.toArray;have jw:k=vs.length:=by lia
  refine jo PyProof.Rows.F.entry_set_update_loop ?_;rw[kj PyProof.Rows.F.plain_set_update_loop _];show wpAny _ A.in1 (pyNext (.ref I) >>= _) _ _ s;refine ae (W.done s _ _ (by rw[dv,<-jw];exact⟨hit,hl⟩) λh' tk su=>?_);refine ai (hR h' tk es ep t { hS with ob:=su S _ (by simpa using Ci) hS.ob } (by lia) (λy=>?_) λb o b1 _ e=>su b o (by simpa using b1) e);rw[oT,rV (by lia)]
 | succ m ih=>
  intro k s es ep t hm hk hit hl hS hz oT hR;have W:=Walks.list (prog:=prog) (w:=w) (A:=A.in1) (by simp[hh]) I l Ab vs.toArray;have cp:k<vs.length:=by lia
  refine jo PyProof.Rows.F.entry_set_update_loop ?_;rw[kj PyProof.Rows.F.plain_set_update_loop _];show wpAny _ A.in1 (pyNext (.ref I) >>= _) _ _ s;refine ae (W.item k s _ _ (by simpa using cp) ⟨hit,hl⟩ λv h' tk Wi g7 su=>?_);obtain⟨x,ev,ex⟩:=vH hv k v (by simpa using Wi);have lh:mX w h' S es ep t:={ hS with ob:=su S _ (by simpa using Ci) hS.ob }
  show wpAny _ A.in1 (holding [v] (setAdd S v) >>= _) _ _ { s with heap:=h',toks:=tk };refine ae (f6 ?_);unfold setAdd;refine f6 (ae ((CZ prog w).pyHash (k:=x) ev ?_));refine Pc (s:={ s with heap:=h',toks:=tk+1 }) lh (by lia) ev (xx x (jg ex)) λh2 qf Hx t2 bb sb S2 z2 m2=>?_
  have kp:∀b o,b≠S->h'.get? b=some o->h2.get? b=some o:=λb o hb e=>sb.extBut b o hb e
  refine ai ⟨plainId_quiet PyProof.Rows.F.plain_set_update_loop _,ih (k+1) _ qf Hx t2 (by lia) cp (g7.1.at λo q=>kp _ _ (Ne.symm Ci) q) (g7.2.at λo q=>kp _ _ (Ne.symm Uw) q) S2 (by lia) (λy=>?_) λh3 YI TU TR t3 q1 q2 q3 q4=>hR h3 YI TU TR t3 q1 q2 q3 λb o b1 b2 e=>q4 b o b1 b2 (kp b o b2 (su b o (by simpa using b1) e))⟩;have aav:k<xs.length:=by lia
  have e1:xs.take (k+1)=xs.take k++[x]:=by
   rw[List.take_succ,ex];rfl
  rw[m2,oT,e1];simp
theorem Pb{a:Value}{Q₁:Value->Shared->Prop}(h:Q₁ (.ref s.heap.objs.size) { s with heap:=s.heap.push (NK #[] 0 (.fresh 0 0 (!w.params.followText "set-order"))) }):
  codeAny (model prog w) A (.call (.builtin "set.__new__") ⟨[.type "set",a],[]⟩) (wants Q₁ E) s:=by
 refine codeAny_of_tree ?_;show wpAny _ A.in1 (checkBuiltinCall "set.__new__" ⟨[.type "set",a],[]⟩ >>= λ_=>again (.builtin "set.__new__" ⟨[.type "set",a],[]⟩)) _ _ s;refine ae (wpAny_of_eq (F.newCall_set_1 a) (ai ⟨plainId_quiet F.plain_set_new _,jo F.entry_set_new ?_⟩));rw[kj F.plain_set_new _];unfold Builtin.«set.__new__» Builtin.Frozenset.newClass;have VW:=sub_set_self;obtain⟨hp,gg,dd,kk,aa6⟩:=s;dsimp only
 wp_walk
 refine wpAny_askSetting (ai ?_);dsimp only;simp only[newObj];exact ae (wpAny_alloc (ai (ai h)))
theorem Mf{l:Addr}{vs:List Value}{xs:List Key}(hh:A.handled=none)(hl:s.heap.IsList l vs.toArray)(hv:Vals (xs.map kV) vs)(xx:∀x∈xs,(∃y,x=.inr y)\/x∈ZV)(hn:vs.length+1<scanBound)(h:∀(h':Heap) (tk:Nat) es ep t,mX w h' s.heap.objs.size es ep t->es.size<=vs.length->(∀y,y∈es.toList.map fw↔y∈xs)->(∀b o,s.heap.get? b=some o->h'.get? b=some o)->Q (.ref s.heap.objs.size) { s with heap:=h',toks:=tk }) :
  wpAny (model prog w) A (call (.type "set") [.ref l]) Q E s:=by
 obtain⟨c0,tl,aaA⟩:=F.called_set.mro;have aay:=F.called_set.made;have jl:=F.called_set.sub;have aaD:=F.called_set.notType;have km:=F.called_set.canCreate;have Im:=F.typeCall_set_1 (.ref l);refine wpAny_call (codeAny_of_tree ?_);show wpAny _ _ (callAny (.type "set") _) _ _ _;refine ai ⟨Code.quiet_builtin _ (by decide +kernel),jo F.entry_type_call ?_⟩;rw[Around.under_plain (weight_type_call_type "set" [.ref l] []) rfl]
 repeat (any_goals (first | assumption | wp_step))
 refine wc (Pb (E:=E) (Q₁:=λobj bc=>obj=.ref s.heap.objs.size/\bc={ s with heap:=s.heap.push (NK #[] 0 (.fresh 0 0 (!w.params.followText "set-order"))) }) ⟨rfl,rfl⟩) λr bc hr=>?_
 cases r with
 | error e=>exact hr
 | ok fl=>
  cases fl with
  | ret obj=>
   obtain⟨rfl,rfl⟩:=hr;generalize CL:(!w.params.followText "set-order")=led;have nT:(s.heap.push (NK #[] 0 (.fresh 0 0 led))).get? s.heap.objs.size=some (NK #[] 0 (.fresh 0 0 led)):=dj _ rfl;have hT:Shared.TypeIs { s with heap:=s.heap.push (NK #[] 0 (.fresh 0 0 led)) } (.ref s.heap.objs.size) "set":=⟨_,nT,rfl⟩
   have aaw:=F.called_set.init.lookup;have aao:=F.called_set.init.bind (.ref s.heap.objs.size)
   repeat (any_goals (first | assumption | wp_step))
   refine wc (codeAny_call_builtin (R:=wants (λr cS=>r=.none/\∃h' tk es ep t,cS={ s with heap:=h',toks:=tk }/\mX w h' s.heap.objs.size es ep t/\es.size<=vs.length/\(∀y,y∈es.toList.map fw↔y∈xs)/\(∀b o,s.heap.get? b=some o->h'.get? b=some o)) E) F.called_set.init.plain F.entry_set_init (check_set_init_1 hT ?_)) λYi cS Df=>?_
   .obtain⟨ol,IM,dA,nl,xb⟩:=hl
    obtain⟨aaZ,Xw,aa0,XG⟩:=ol;simp only at dA xb;subst dA;subst xb;have Vz:(s.heap.push (NK #[] 0 (.fresh 0 0 led))).get? l=some { cls:=.type "list",dict:=Xw,data:=.seq vs.toArray nl,slots:=XG }:=dg _ IM;have aaH:=F.sub_list_set;have aaG:=F.sub_list_frozenset;have eL:(Value.type "list" == Value.type "dict")=false:=by decide
    have qo:(s.heap.push (NK #[] 0 (.fresh 0 0 led))).IsList l vs.toArray:=⟨_,Vz,rfl,nl,rfl⟩
    have cp:l<s.heap.objs.size:=bh IM;unfold Builtin.«set.__init__» noKeywords Builtin.Frozenset.updateFrom;generalize Uu:pyIter=PI
    wp_walk
    subst Uu;refine wpAny_pyIter_list qo (ae (wpAny_runValue ?_));have hz:(s.heap.push (NK #[] 0 (.fresh 0 0 led))).objs.size=s.heap.objs.size+1:=mE ..;have up:∀b o,s.heap.get? b=some o->((s.heap.push (NK #[] 0 (.fresh 0 0 led))).push { cls:=.type "list_iterator",data:=.fields #[.ref l,.int 0 0] }).get? b=some o:=λb o e=>dg _ (dg _ e)
    refine Ma (by simp[hh]) hv xx (by rw[hz];exact cm (mh cp)) (by rw[hz];exact cm (rj _)) (iS cp) hn _ 0 _ #[] 0 (.fresh 0 0 led) rfl (eS _) ⟨_,dj _ rfl,rfl,rfl⟩ (qo.push _) ⟨⟨dg _ nT,rfl,by rw[<-CL];rfl,.inr Jt.zg⟩,λe he=>by simp at he,by simp,λ_=>⟨Jt,by simp⟩⟩ (eS _) (λy=>by simp) λh' tk iX jq t' q1 q2 q3 q4=>?_
    show wpAny _ _ _ _ _ _;refine ai (ai ⟨rfl,h',tk,iX,jq,t',rfl,q1,q2,q3,λb o e=>q4 b o ?_ ?_ (up b o e)⟩)
    .rw[hz];exact cm (mh (bh e))
    .exact cm (bh e)
   .cases Yi with
    | error e=>exact Df
    | ok T1=>
     cases T1 with
     | ret r=>
      obtain⟨rfl,h',tk,es,ep,t,rfl,q1,q2,q3,q4⟩:=Df
      repeat (any_goals (first | assumption | wp_step))
      exact h h' tk es ep t q1 q2 q3 q4
     | _=>exact Df.elim
  | _=>exact hr.elim
end PySem
namespace PySem
namespace F
theorem yg:Slot "set_iterator" "__next__" "set_iterator.__next__":=
 .of (owner:="set_iterator") (n:="__next__") (by rw[ji,jj];kernel_rfl) (by decide +kernel) (by decide +kernel) (by decide +kernel)
  (by first | exact .inl (by decide +kernel) | exact .inr (by decide +kernel)) (by rw[isSubtype_type];kernel_rfl)
theorem Kn:Slot "set_iterator" "__iter__" "set_iterator.__iter__":=
 .of (owner:="set_iterator") (n:="__iter__") (by rw[ji,jj];kernel_rfl) (by decide +kernel) (by decide +kernel) (by decide +kernel)
  (by first | exact .inl (by decide +kernel) | exact .inr (by decide +kernel)) (by rw[isSubtype_type];kernel_rfl)
theorem Yq:entryFor table "set_iterator.__next__" = some Builtin.«set_iterator.__next__»:=zo (by kernel_rfl)
theorem Yp:entryFor table "set_iterator.__iter__" = some Builtin.«dict_keyiterator.__iter__»:=
 entryFor_alias (id':="dict_keyiterator.__iter__") (by kernel_rfl) (by first | rfl | decide +kernel | (unfold String.splitOn;simp +decide [String.splitOnAux])) (by decide +kernel) (by kernel_rfl)
theorem nP:Manifest.owners.lookup (String.ofList ['r','o','t','a','r','e','t','i','_','t','e','s'].reverse)=some Manifest.sig_set_iterator:=by kernel_rfl
theorem Yo(a:Value):argsOk "set_iterator.__next__" ⟨[a],[]⟩:=by
 unfold argsOk;rw[signature?_of (id:="set_iterator.__next__") (n:=['_','_','t','x','e','n','_','_']) (o:=['r','o','t','a','r','e','t','i','_','t','e','s']) (by kernel_rfl) nP];kernel_rfl
theorem Yn(a:Value):argsOk "set_iterator.__iter__" ⟨[a],[]⟩:=by
 unfold argsOk;rw[signature?_of (id:="set_iterator.__iter__") (n:=['_','_','r','e','t','i','_','_']) (o:=['r','o','t','a','r','e','t','i','_','t','e','s']) (by kernel_rfl) nP];kernel_rfl
theorem Yr:entryFor table "set.__iter__" = some Builtin.«frozenset.__iter__»:=
 entryFor_alias (id':="frozenset.__iter__") (by kernel_rfl) rfl (by decide +kernel) (by kernel_rfl)
end F
theorem VL{α:Type}:∀(l:List α) (i:Nat) (h:i<l.length),(l[i]::l.eraseIdx i).Perm l
 | [],i,h=>absurd h (oC _)
 | a::r,0,h=>.refl _
 | a::r,i+1,h=>(List.Perm.swap _ _ _).trans (.cons a (VL r i (by simpa using h)))
theorem v9(next:Nat->Nat):∀(fuel k:Nat) (left:List α) (out:Array α),fuel=left.length->(pickOrder.go next fuel k left out).toList.Perm (out.toList++left)
 | 0,k,left,out,h=>by
  have:left=[]:=List.eq_nil_of_length_eq_zero h.symm;subst this;simp[pickOrder.go]
 | fuel+1,k,left,out,h=>by
  have hp:0<left.length:=by lia
  have hi:next k % left.length<left.length:=Nat.mod_lt _ hp
  unfold pickOrder.go;rw[fo hi];dsimp only;refine(v9 next fuel (k+1) _ _ (by rw[List.length_eraseIdx_of_lt hi];lia)).trans ?_;rw[Array.toList_push,wm];exact List.Perm.append_left _ (VL _ _ hi)
theorem QL(next:Nat->Nat)(xs:Array α):(pickOrder next xs).toList.Perm xs.toList:=by
 have:=v9 next xs.size 0 xs.toList #[] (by simp)
 simpa[pickOrder] using this
theorem fP{src:Source}{Q:Nat->Shared->Prop}(hn:n≠0)(h:∀i d',i<n->Q i { s with drawn:=d' }):wpAny (model prog w) A (choose src n) Q E s:=λ_ _ _=>⟨hn,h _ _ (Nat.mod_lt _ (Nat.pos_of_ne_zero hn))⟩
theorem d9:∀(n:Nat) (xs:List α) (s:Shared) (Q:List α->Shared->Prop),xs.length=n->(∀ys d',ys.Perm xs->Q ys { s with drawn:=d' })->wpAny (model prog w) A (drawOrder n xs) Q E s
 | 0,xs,s,Q,hl,h=>by
  have:xs=[]:=List.eq_nil_of_length_eq_zero hl;subst this;unfold drawOrder;exact ai (h [] s.drawn .nil)
 | n+1,[],s,Q,hl,h=>by simp at hl
 | n+1,x::r,s,Q,hl,h=>by
  unfold drawOrder;refine ae (fP (by simp) λi d' hi=>?_);rw[fo hi];dsimp only;refine ae (d9 n _ _ _ (by rw[List.length_eraseIdx_of_lt hi];simp at hl ⊢;lia) λys d2 hp=>?_);exact ai (h _ d2 ((List.Perm.cons _ hp).trans (VL _ _ hi)))
abbrev ou (h:Heap) (I:Addr) (f0:Value) (i:Nat) (a:Addr) (n ep:Nat):Prop:=h.get? I=some { cls:=.type "set_iterator",data:=.fields #[f0,rawInt i,.ref a,rawInt n,rawInt ep] }
section
variable{es:Array (Int×Value)}{ep:Nat}{t:SetTable}{f0:Value}
theorem U3(S:SetB w s.heap a es ep t)(hI:ou s.heap I f0 i a es.size ep){Q:Option Value->Shared->Prop}(h:(∃sl:Nat,f0=rawInt (sl:Nat)/\wpAny (model prog w) A.in1 (setNext a sl i ep) (λr s'=>s'=s/\((∃x nx,r=some (x,nx)/\∀h',ou h' I (rawInt (nx:Nat)) (i+1) a es.size ep->Heap.SameBut I s.heap h'->Q (some x) { s with heap:=h' })\/(r=none/\A.handled=none/\∀h',Heap.ExtBut I s.heap h'->Q none { s with heap:=h' }))) (λ_ _=>False) s)\/
   (∃T pl,f0=.ref T/\s.heap.IsTuple T pl/\((∃(p:Nat) (tk:Tok) (e:Int×Value),pl[i]?=some (.int p tk)/\es[p]?=some e/\∀h',ou h' I f0 (i+1) a es.size ep->Heap.SameBut I s.heap h'->Q (some e.2) { s with heap:=h' })\/(pl[i]?=none/\A.handled=none/\∀h',Heap.ExtBut I s.heap h'->Q none { s with heap:=h' })))) :
  wpAny (model prog w) A (pyNext (.ref I)) Q E s:=by
 have hT:s.TypeIs (.ref I) "set_iterator":=⟨_,hI,rfl⟩
 unfold pyNext;refine ae (wpAny_attempt (wpAny_callSpecial?_slot (name:=Str.ofString "__next__") hT F.yg (ir F.yg hT F.Yq ?_ (F.Yo _))));unfold Builtin.«set_iterator.__next__»;refine ae (wpAny_of_eq (a:=(Value.ref I,[])) rfl ?_);refine ae (wpAny_fieldsOf hI rfl ?_);show wpAny _ _ (setEntries a >>= _) _ _ s;refine ae (wpAny_setEntries_of S.ob rfl S.fit ?_);have eL:(((es.size:Nat):Int) != ((es.size:Nat):Int))=false:=by simp
 rw[eL];simp only[Bool.false_eq_true,if_false];rcases h with ⟨sl,rfl,h⟩ | ⟨T,pl,rfl,uk,h⟩
 .show wpAny _ _ (setNext a (Int.toNat (sl:Int)) (Int.toNat (i:Int)) (Int.toNat (ep:Int)) >>= _) _ _ s
  rw[Int.toNat_natCast,Int.toNat_natCast,Int.toNat_natCast];refine ae (ff h (λr s' ah=>?_) λ_ _ f=>f.elim);obtain⟨iX,q⟩:=ah;subst iX;rcases q with ⟨x,nx,rfl,q⟩ | ⟨rfl,hh,q⟩
  .dsimp only
   refine ae (wpAny_setField_rec hI (by simp) λh1 kl s1=>?_);refine ae (wpAny_setField_rec (s:={ s' with heap:=h1 }) kl (by simp) λh2 HV s2=>ai ⟨x,rfl,ai (q h2 HV (s1.trans s2))⟩)
  .dsimp only
   refine ae (wpAny_setField_rec hI (by simp) λh1 kl s1=>?_);exact ff (S7 (s:={ s' with heap:=h1 }) (h:=s'.heap) (it:=I) (Q:=Q) (E:=E) hh (λb o hb e=>s1.extBut b o hb e) λh' hk=>q h' hk) (λ_ _ f=>f.elim) λe s2 q=>q
 .obtain⟨aaY,eT,cT,aaU,dT⟩:=uk
  show wpAny _ _ (seqItems? (.ref T) >>= _) _ _ s;refine ae (wpAny_seqItems eT dT ?_);rcases h with ⟨p,tk,e,hp,he,q⟩ | ⟨hp,hh,q⟩
  .dsimp only
   rw[show Int.toNat (i:Int)=i from Int.toNat_natCast i,hp];dsimp only;refine ae ?_;unfold setNextDrawn;refine ae (wpAny_setState_of S.ob rfl S.fit ?_);have h2:(ep != (Int.toNat (ep:Int)))=false:=by rw[Int.toNat_natCast];simp
   dsimp only;rw[h2,show Int.toNat (p:Int)=p from Int.toNat_natCast p,he];simp only[Bool.false_eq_true,if_false];refine ai ?_;refine ae (wpAny_setField_rec hI (by simp) λh1 kl s1=>ai ⟨e.2,rfl,ai (q h1 kl s1)⟩)
  .dsimp only
   rw[show Int.toNat (i:Int)=i from Int.toNat_natCast i,hp];dsimp only;refine ae (wpAny_setField_rec hI (by simp) λh1 kl s1=>?_);refine ae (wpAny_setField_rec (s:={ s with heap:=h1 }) kl (by simp) λh2 HV s2=>?_);exact ff (S7 (s:={ s with heap:=h2 }) (h:=s.heap) (it:=I) (Q:=Q) (E:=E) hh (λb o hb e=>s2.extBut b o hb (s1.extBut b o hb e)) λh' hk=>q h' hk) (λ_ _ f=>f.elim) λe s2 q=>q
end
end PySem
namespace PySem
section
variable{es:Array (Int×Value)}{ep:Nat}{t:SetTable}
theorem SetB.at(S:SetB w h a es ep t)(e:∀o,h.get? a=some o->h'.get? a=some o):SetB w h' a es ep t:={ S with ob:=e _ S.ob }
theorem jN(hI:ou s.heap I f0 i a n ep)(h:Q (.ref I) s):wpAny (model prog w) A (pyIter (.ref I)) Q E s:=by
 have hT:s.TypeIs (.ref I) "set_iterator":=⟨_,hI,rfl⟩
 refine wpAny_pyIter_slot hT F.Kn (ir F.Kn hT F.Yp ?_ (F.Yn _));show wpAny _ _ (ret (.ref I)) _ _ s;exact ai ⟨_,rfl,"set_iterator",_,hT,F.yg.lookup,h⟩
theorem Walks.Yl(hB:w.params.followText "set-order" = true)(hA:A.handled=none)(eL:a≠I):Walks prog w A I [I,a] [I] es.size (λi v=>∃e,(pickOrder (w.params.setOrder a ep) es)[i]?=some e/\v=e.2) (λi h=>(∃sl:Nat,ou h I (rawInt (sl:Nat)) i a es.size ep)/\SetB w h a es ep t) where
 sub:=λb hb=>by simp at hb;simp[hb]
 frame:=λ_ _ _ x hk=>⟨let ⟨sl,q⟩:=x.1;⟨sl,hk I (by simp) _ q⟩,x.2.at λo q=>hk a (by simp) o q⟩
 item:=λi s Q E hi x hQ=>by
  obtain⟨⟨sl,hI⟩,S⟩:=x;have hsz:(pickOrder (w.params.setOrder a ep) es).size=es.size:=by
   have:=(QL (w.params.setOrder a ep) es).length_eq;simpa using this
  have hx:(pickOrder (w.params.setOrder a ep) es)[i]?=some ((pickOrder (w.params.setOrder a ep) es)[i]'(by lia)):=Array.getElem?_eq_getElem (by lia);refine U3 S hI (.inl ⟨sl,rfl,?_⟩);unfold setNext;refine ae (wpAny_setState_of S.ob rfl S.fit ?_);unfold setsByText;refine ae (ae (wpAny_askSetting (ai ?_)));show wpAny _ _ (if w.params.followText "set-order" = true then _ else _) _ _ _;rw[hB];simp only[if_true,bne_self_eq_false,Bool.false_eq_true,if_false];refine ae ?_;unfold setWalk;refine ae (wpAny_setState_of S.ob rfl S.fit ?_);unfold setsByText;refine ae (ae (wpAny_askSetting (ai ?_)));show wpAny _ _ (if w.params.followText "set-order" = true then _ else _) _ _ _;rw[hB];simp only[if_true];refine ae (wpAny_askSetting (ai ?_));show wpAny _ _ (pure (((pickOrder (w.params.setOrder a ep) es)[i]?).map λe=>(e.2,sl))) _ _ _;rw[hx];refine ai ⟨rfl,.inl ⟨_,sl,rfl,λh' wy sb=>?_⟩⟩;exact hQ _ h' s.toks ⟨_,hx,rfl⟩ ⟨⟨sl,wy⟩,S.at λo q=>sb.extBut _ _ eL q⟩ λb o hb e=>sb.extBut b o (λz=>hb (by simp[z])) e
 done:=λs Q E x hQ=>by
  obtain⟨⟨sl,hI⟩,S⟩:=x;have hsz:(pickOrder (w.params.setOrder a ep) es).size=es.size:=by
   have:=(QL (w.params.setOrder a ep) es).length_eq;simpa using this
  have hx:(pickOrder (w.params.setOrder a ep) es)[es.size]?=none:=by simp[hsz]
  refine U3 S hI (.inl ⟨sl,rfl,?_⟩);unfold setNext;refine ae (wpAny_setState_of S.ob rfl S.fit ?_);unfold setsByText;refine ae (ae (wpAny_askSetting (ai ?_)));show wpAny _ _ (if w.params.followText "set-order" = true then _ else _) _ _ _;rw[hB];simp only[if_true,bne_self_eq_false,Bool.false_eq_true,if_false];refine ae ?_;unfold setWalk;refine ae (wpAny_setState_of S.ob rfl S.fit ?_);unfold setsByText;refine ae (ae (wpAny_askSetting (ai ?_)));show wpAny _ _ (if w.params.followText "set-order" = true then _ else _) _ _ _;rw[hB];simp only[if_true];refine ae (wpAny_askSetting (ai ?_));show wpAny _ _ (pure (((pickOrder (w.params.setOrder a ep) es)[es.size]?).map λe=>(e.2,sl))) _ _ _;rw[hx];exact ai ⟨rfl,.inr ⟨rfl,hA,λh' hk=>hQ h' s.toks λb o hb e=>hk b o (λz=>hb (by simp[z])) e⟩⟩
 self:=λ_ _ _ _ x hQ=>let ⟨⟨sl,hI⟩,_⟩:=x;jN hI hQ
theorem Walks.Yj(hA:A.handled=none){T:Addr}{ys:List Nat}(eL:a≠I)(hT:T≠I)(hy:ys.Perm (List.range es.size)):Walks prog w A I [I,a,T] [I] es.size (λi v=>∃(p:Nat) (e:Int×Value),ys[i]?=some p/\es[p]?=some e/\v=e.2) (λi h=>ou h I (.ref T) i a es.size ep/\SetB w h a es ep t/\h.IsTuple T (ys.map λ(p:Nat)=>rawInt p).toArray) where
 sub:=λb hb=>by simp at hb;simp[hb]
 frame:=λ_ _ _ x hk=>⟨hk I (by simp) _ x.1,x.2.1.at λo q=>hk a (by simp) o q,let ⟨o,e,c⟩:=x.2.2;⟨o,hk T (by simp) _ e,c⟩⟩
 item:=λi s Q E hi x hQ=>by
  obtain⟨hI,S,uk⟩:=x;have hl:ys.length=es.size:=by rw[hy.length_eq,List.length_range]
  have kL:i<ys.length:=by lia
  have hp:ys[i]<es.size:=List.mem_range.mp (hy.mem_iff.mp (List.getElem_mem kL));refine U3 S hI (.inr ⟨T,_,rfl,uk,.inl ⟨ys[i],0,es[ys[i]],by simp[kL,rawInt],by simp[hp],λh' wy sb=>?_⟩⟩);exact hQ _ h' s.toks ⟨_,_,fo kL,by simp[hp],rfl⟩ ⟨wy,S.at λo q=>sb.extBut _ _ eL q,let ⟨o,e,c⟩:=uk;⟨o,sb.extBut _ _ hT e,c⟩⟩ λb o hb e=>sb.extBut b o (λz=>hb (by simp[z])) e
 done:=λs Q E x hQ=>by
  obtain⟨hI,S,uk⟩:=x;have hl:ys.length=es.size:=by rw[hy.length_eq,List.length_range]
  refine U3 S hI (.inr ⟨T,_,rfl,uk,.inr ⟨by simp[hl],hA,λh' hk=>hQ h' s.toks λb o hb e=>hk b o (λz=>hb (by simp[z])) e⟩⟩)
 self:=λ_ _ _ _ x hQ=>jN x.1 hQ
theorem Walks.Yk(hB:w.params.followText "set-order" = false)(hA:A.handled=none)(eL:a≠I)(h1:(!t.plain&&decide (es.size > 1))=false)(hb:∀i≤t.place.size,SetTable.below t.place (aC t.place.toList i)=i):Walks prog w A I [I,a] [I] es.size (λi v=>∃e,es[i]?=some e/\v=e.2) (λi h=>ou h I (rawInt (aC t.place.toList i:Nat)) i a es.size ep/\SetB w h a es ep t):=by
 have kq:∀{h:Heap},SetB w h a es ep t->t.place.size=es.size:=λS=>by
  have:=S.fit;simp only[SetTable.fits,gp,beq_iff_eq]at this;exact this.1
 have nx:∀{i:Nat} {s:Shared} {R:Option (Value×Nat)->Shared->Prop},SetB w s.heap a es ep t->i<=es.size->R (match es[i]?,t.place[i]? with | some (_,x),some j=>some (x,j+1) | _,_=>none) s->wpAny (model prog w) A.in1 (setNext a (aC t.place.toList i) i ep) R (λ_ _=>False) s:=by
  intro i s R S hi q;have CL:t.led=true:=by rw[S.led,hB];rfl
  unfold setNext;refine ae (wpAny_setState_of S.ob rfl S.fit ?_);unfold setsByText;refine ae (ae (wpAny_askSetting (ai ?_)));show wpAny _ _ (if w.params.followText "set-order" = true then _ else _) _ _ _;rw[hB];simp only[Bool.false_eq_true,if_false];show wpAny _ _ (if (!t.plain&&decide (es.size > 1))=true then _ else _) _ _ _;rw[h1,ak (by simp)];refine ae ?_;show wpAny _ _ (if (!t.led&&!es.isEmpty)=true then _ else _) _ _ _;rw[ak (by simp[CL])];refine ai ?_;show wpAny _ _ (pure (match es[SetTable.below t.place (aC t.place.toList i)]?,t.place[SetTable.below t.place (aC t.place.toList i)]? with | some (_,x),some j=>some (x,j+1) | _,_=>none)) _ _ _;rw[hb i (by rw[kq S];exact hi)];exact ai q
 refine⟨λb hb=>by simp at hb;simp[hb],λ_ _ _ x hk=>⟨hk I (by simp) _ x.1,x.2.at λo q=>hk a (by simp) o q⟩,λi s Q E hi x hQ=>?_,λs Q E x hQ=>?_,λ_ _ _ _ x hQ=>jN x.1 hQ⟩
 .obtain⟨hI,S⟩:=x
  have hj:i<t.place.size:=by rw[kq S];exact hi
  refine U3 S hI (.inl ⟨_,rfl,nx S (ml hi) ?_⟩);rw[Array.getElem?_eq_getElem hi,Array.getElem?_eq_getElem hj];refine⟨rfl,.inl ⟨_,_,rfl,λh' wy sb=>hQ _ h' s.toks ⟨_,Array.getElem?_eq_getElem hi,rfl⟩ ⟨?_,S.at λo q=>sb.extBut _ _ eL q⟩ λb o hb e=>sb.extBut b o (λz=>hb (by simp[z])) e⟩⟩;have:aC t.place.toList (i+1)=t.place[i]+1:=by simp[aC,List.getD_eq_getElem?_getD,hj]
  rw[this];exact wy
 .obtain⟨hI,S⟩:=x
  refine U3 S hI (.inl ⟨_,rfl,nx S (a0 _) ?_⟩);rw[Array.getElem?_eq_none (a0 _)];exact⟨rfl,.inr ⟨rfl,hA,λh' hk=>hQ h' s.toks λb o hb e=>hk b o (λz=>hb (by simp[z])) e⟩⟩
end
end PySem
namespace PySem
section
variable{es:Array (Int×Value)}{ep:Nat}{t:SetTable}
def Sn(prog:Program)(w:World)(es:Array (Int×Value))(a I:Addr)(h':Heap)(n0:Nat):Prop:=∃(fp:List Addr) (P:Nat->Value->Prop) (St:Nat->Heap->Prop),(∀A:Around,A.handled=none->Walks prog w A I fp [I] es.size P St)/\St 0 h'/\(∀b∈fp,b<h'.objs.size)/\n0<=I/\(∀b∈fp,b=a\/n0<=b)/\(∀acc,ItemsOf P acc es.size->acc.toList.Perm (es.toList.map (·.2)))
theorem VH{P:Nat->Value->Prop}{acc:Array Value}{L:List Value}(h:ItemsOf P acc n)(hL:L.length=n)(hp:∀i v,P i v->L[i]?=some v):acc.toList=L:=by
 apply List.ext_getElem?;intro i
 by_cases hi:i<acc.size
 .have e:acc[i]?=some acc[i]:=Array.getElem?_eq_getElem hi
  rw[Array.getElem?_toList,e];exact(hp i _ (h.2 i _ e)).symm
 .have:=h.1
  rw[List.getElem?_eq_none (by rw[eK];lia),List.getElem?_eq_none (by lia)]
theorem SetB.zg(S:SetB w h a es ep t)(h1:(!t.plain&&decide (es.size > 1))=false):∀i≤t.place.size,SetTable.below t.place (aC t.place.toList i)=i:=by
 have hf:=S.fit;simp only[SetTable.fits,gp,beq_iff_eq]at hf;rcases S.pl with q | q
 .have hz:t.place.size<=1:=by
   rw[q]at h1;simp at h1;lia
  obtain⟨m,⟨p⟩,d,f,l,v,u⟩:=t
  match p,hz with
  | [],_=>intro i hi;simp at hi;subst hi;rfl
  | [j],_=>
   intro i hi;have:i=0\/i=1:=by simp at hi;lia
   rcases this with rfl | rfl<;>simp[SetTable.below,SetTable.below.go,aC]
 .exact q
theorem Mr(S:SetB w s.heap a es ep t)(hle:es.size<=1000)(h:∀I h' d',Sn prog w es a I h' s.heap.objs.size->(∀b o,s.heap.get? b=some o->h'.get? b=some o)->h'.objs.size<=s.heap.objs.size+2->Q (.ref I) { s with heap:=h',drawn:=d' }):wpAny (model prog w) A (pyIter (.ref a)) Q E s:=by
 have hT:s.TypeIs (.ref a) "set":=⟨_,S.ob,rfl⟩
 have cp:=bh S.ob;refine wpAny_pyIter_slot hT F.slot_set_iter (ir F.slot_set_iter hT F.Yr ?_ (F.args_set_iter_1 _));unfold Builtin.«frozenset.__iter__»;refine ae (wpAny_of_eq (a:=a) rfl ?_);unfold Builtin.Frozenset.sizeOf;refine ae (ae (wpAny_setEntries_of S.ob rfl S.fit (ai ?_)));have plain:∀(B:Bool),w.params.followText "set-order" = B->(B=true\/(!t.plain&&decide (es.size > 1))=false)->∀d':Drawn,wpAny (model prog w) A.in1 (newFields "set_iterator" [rawInt 0,rawInt 0,.ref a,rawInt es.size,rawInt ep] >>= λit=>ret it) (λfin s'=>∃v,fin=Fin.done (.ret v)/\∃T m,s'.TypeIs v T/\typeLookup (.type T) "__next__" = pure (some m)/\Q v s') E { s with drawn:=d' }:=by
  intro B hB xk d';unfold newFields;refine ae (jr (ai ⟨_,rfl,"set_iterator",_,⟨_,dj _ rfl,rfl⟩,F.yg.lookup,?_⟩));have hI:ou (s.heap.push { cls:=.type "set_iterator",data:=.fields #[rawInt 0,rawInt 0,.ref a,rawInt es.size,rawInt ep] }) s.heap.objs.size (rawInt 0) 0 a es.size ep:=dj _ rfl;have kp:∀b o,s.heap.get? b=some o->(s.heap.push { cls:=.type "set_iterator",data:=.fields #[rawInt 0,rawInt 0,.ref a,rawInt es.size,rawInt ep] }).get? b=some o:=λb o e=>dg _ e
  have hz:(s.heap.push { cls:=.type "set_iterator",data:=.fields #[rawInt 0,rawInt 0,.ref a,rawInt es.size,rawInt ep] }).objs.size=s.heap.objs.size+1:=mE ..;have zk:∀b∈[s.heap.objs.size,a],b<(s.heap.push { cls:=.type "set_iterator",data:=.fields #[rawInt 0,rawInt 0,.ref a,rawInt es.size,rawInt ep] }).objs.size:=λb hb=>by
   rw[hz];rcases ck hb with q | q
   .rw[q];exact rj _
   .rw[eR q];exact mh cp
  have HI:∀b∈[s.heap.objs.size,a],b=a\/s.heap.objs.size<=b:=λb hb=>by
   rcases ck hb with q | q
   .exact .inr (by rw[q];exact a0 _)
   .exact .inl (eR q)
  refine h _ _ d' ?_ kp (by rw[hz];exact ua _);cases B with
  | true=>
   refine⟨_,_,_,λA hA=>Walks.Yl (t:=t) hB hA (cm cp),⟨⟨0,hI⟩,S.at λo q=>kp _ _ q⟩,zk,a0 _,HI,λacc gq=>?_⟩;have hp:=QL (w.params.setOrder a ep) es;rw[VH (L:=(pickOrder (w.params.setOrder a ep) es).toList.map (·.2)) gq (by rw[a8,hp.length_eq,eK]) λi v ⟨e,q1,q2⟩=>by rw[gi,Array.getElem?_toList,q1,q2];rfl];exact hp.map _
  | false=>
   have h1:=xk.resolve_left λq=>by cases q
   refine⟨_,_,_,λA hA=>Walks.Yk (t:=t) hB hA (cm cp) h1 (S.zg h1),⟨hI,S.at λo q=>kp _ _ q⟩,zk,a0 _,HI,λacc gq=>?_⟩;rw[VH (L:=es.toList.map (·.2)) gq (by simp) λi v ⟨e,q1,q2⟩=>by rw[gi,Array.getElem?_toList,q1,q2];rfl]
 refine ae ?_;unfold setDrawn;refine ae (wpAny_setState_of S.ob rfl S.fit ?_);unfold setsByText;refine ae (ae (wpAny_askSetting (ai (ai ?_))));show wpAny _ _ (if (!w.params.followText "set-order"&&(!t.plain&&decide (es.size > 1)))=true then _ else _) _ _ _
 by_cases hd:(!w.params.followText "set-order"&&(!t.plain&&decide (es.size > 1)))=true
 .rw[ag hd]
  refine ae (d9 es.size _ _ _ (by simp) λys d' hp=>?_);refine ae (wpAny_newTuple (hsz:=by rw[a8,hp.length_eq,List.length_range];exact eJ hle (by decide)) ?_);generalize Ce:s.heap.push { cls:=.type "tuple",data:=.seq (ys.map λ(p:Nat)=>rawInt p).toArray }=H1;have Jn:∀b o,s.heap.get? b=some o->H1.get? b=some o:=λb o e=>by rw[<-Ce];exact dg _ e
  have wz:H1.IsTuple s.heap.objs.size (ys.map λ(p:Nat)=>rawInt p).toArray:=by rw[<-Ce];exact⟨_,dj _ rfl,rfl,_,rfl⟩
  have pf:H1.objs.size=s.heap.objs.size+1:=by rw[<-Ce];exact mE ..
  have S1:SetB w H1 a es ep t:=S.at λo q=>Jn _ _ q
  refine ae (wpAny_setEpoch_of (s:={ s with heap:=H1,drawn:=d' }) S1.ob rfl S.fit ?_);unfold newFields;refine ae (jr (ai ⟨_,rfl,"set_iterator",_,⟨_,dj _ rfl,rfl⟩,F.yg.lookup,?_⟩));generalize wx:H1.push { cls:=.type "set_iterator",data:=.fields [.ref s.heap.objs.size,rawInt 0,.ref a,rawInt es.size,rawInt ep].toArray }=H2;have Dz:∀b o,H1.get? b=some o->H2.get? b=some o:=λb o e=>by rw[<-wx];exact dg _ e
  have hI:ou H2 H1.objs.size (.ref s.heap.objs.size) 0 a es.size ep:=by rw[<-wx];exact dj _ rfl
  have uy:H2.objs.size=s.heap.objs.size+2:=by rw[<-wx,mE,pf]
  refine h _ H2 d' ⟨_,_,_,λA hA=>Walks.Yj (t:=t) hA (T:=s.heap.objs.size) (by rw[pf];exact cm (mh cp)) (by rw[pf];exact cm (rj _)) hp,⟨hI,S1.at λo q=>Dz _ _ q,let ⟨o,e,c⟩:=wz;⟨o,Dz _ _ e,c⟩⟩,λb hb=>?_,by rw[pf];exact ua _,λb hb=>?_,λacc gq=>?_⟩ (λb o e=>Dz b o (Jn b o e)) (by rw[uy];exact a0 _)
  .rw[uy]
   simp only[List.mem_cons,List.not_mem_nil,or_false]at hb;rcases hb with rfl | rfl | rfl
   .rw[pf];exact rj _
   .exact mh (mh cp)
   .exact mh (rj _)
  .simp only[List.mem_cons,List.not_mem_nil,or_false]at hb
   rcases hb with rfl | rfl | rfl
   .right;rw[pf];exact ua _
   .exact .inl rfl
   .exact .inr (a0 _)
  .have hl:ys.length=es.size:=by rw[hp.length_eq,List.length_range]
   rw[VH (L:=ys.map λp=>(es.toList.map (·.2)).getD p .none) gq (by rw[a8,hl]) λi v ah=>by
    obtain⟨p,e,q1,q2,q3⟩:=ah;rw[gi,q1,q3];have:(es.toList.map (·.2))[p]?=some e.2:=by rw[gi,Array.getElem?_toList,q2];rfl
    simp only[jh,List.getD_eq_getElem?_getD,this,Option.getD_some]]
   refine(hp.map _).trans ?_;have:(List.range es.size).map (λp=>(es.toList.map (·.2)).getD p Value.none)=es.toList.map (·.2):=by
    apply List.ext_getElem?;intro i
    by_cases hi:i<es.size
    .rw[gi,List.getElem?_range hi]
     simp[List.getD_eq_getElem?_getD,hi]
    .rw[List.getElem?_eq_none (by simp;lia),List.getElem?_eq_none (by simp;lia)]
   rw[this]
 .rw[ak hd]
  refine ae (ai (ae (wpAny_setEpoch_of S.ob rfl S.fit ?_)));refine plain _ rfl ?_ s.drawn;cases hB:w.params.followText "set-order" with
  | true=>exact .inl rfl
  | false=>rw[hB]at hd;exact .inr (by simpa using hd)
end
end PySem
namespace PySem
section
variable{es:Array (Int×Value)}{ep:Nat}{t:SetTable}
theorem Md(S:SetB w h a es ep t)(hs:s.heap=h){Q:Bool->Shared->Prop}(q:Q false s):wpAny (model prog w) A (Builtin.List.listLengthHint (.ref a)) Q E s:=by
 have hT:s.TypeIs (.ref a) "set":=⟨_,by rw[hs];exact S.ob,rfl⟩
 unfold Builtin.List.listLengthHint;refine ae (wpAny_specialOf hT F.slot_set_len.lookup ?_);generalize qm:("set.__len__" : String)=xB
 wp_delta
 rw[show splitId xB=some ("set","__len__") from by subst qm;decide +kernel];subst qm;refine ae (wpAny_isInstance (T:="set") (b:=true) hT sub_set_self ?_);refine wpAny_ite_split (λfg=>absurd fg (by decide)) (λ_=>?_);refine wpAny_ite_split (λ_=>?_) (λfg=>absurd (by decide +kernel) fg);exact ae (wpAny_typeOf hT (ai q))
theorem rC(S:SetB w s.heap a es ep t)(hle:es.size<=1000)(hh:A.handled=none){R:List Value->Shared->Prop}(h:∀(h':Heap) (tk:Nat) (d':Drawn) (acc:Array Value),(∀b o,s.heap.get? b=some o->h'.get? b=some o)->acc.toList.Perm (es.toList.map (·.2))->R acc.toList { s with heap:=h',toks:=tk,drawn:=d' }) :
  wpAny (model prog w) A (collect (.ref a)) R E s:=by
 have cp:=bh S.ob;unfold collect;refine ae (wpAny_runValue (jo PyProof.Rows.entry_proto_collect' ?_));rw[kj PySem.F.plain_proto_collect _];show wpAny _ A.in1 (newList [] >>= λl=>again (.builtin "list.__iadd__" ⟨[l,.ref a],[]⟩)) _ _ s;refine ae (jr ?_);refine ai ⟨plainId_quiet PySem.F.plain_list_iadd _,jo PyProof.Rows.entry_list_iadd' ?_⟩;rw[kj PySem.F.plain_list_iadd _];show wpAny _ A.in1 (Builtin.List.listExtendWith (.ref s.heap.objs.size) (.ref a) (.ref s.heap.objs.size)) _ _ _;generalize hH:s.heap.push { cls:=.type "list",data:=.seq ([]:List Value).toArray }=H1;have hL:H1.get? s.heap.objs.size=some { cls:=.type "list",data:=.seq #[] }:=by rw[<-hH];exact dj _ rfl
 have k1:∀b o,s.heap.get? b=some o->H1.get? b=some o:=λb o e=>by rw[<-hH];exact dg _ e
 have pf:H1.objs.size=s.heap.objs.size+1:=by rw[<-hH];exact mE ..
 have S1:SetB w H1 a es ep t:=S.at λo q=>k1 _ _ q
 unfold Builtin.List.listExtendWith;refine ae (wpAny_typeOf (T:="set") ⟨_,S1.ob,rfl⟩ ?_);rw[ak (by simp[Builtin.List.listSameRef,iS cp])];refine ae (Mr (s:={ s with heap:=H1 }) S1 hle λI h2 d' ⟨fp,P,St,W,st,aaq,Vu,xk,sx⟩ k2 _=>?_);have uj:s.heap.objs.size∉fp:=λhm=>by
  rcases xk _ hm with q | q
  .exact absurd q (iS cp)
  .have:H1.objs.size<=s.heap.objs.size:=q
   rw[pf]at this;exact absurd this (Nat.not_succ_le_self _)
 have hI:s.heap.objs.size<I:=by
  have:H1.objs.size<=I:=Vu;rw[pf]at this;exact this
 have nL:h2.get? s.heap.objs.size=some { cls:=.type "list",data:=.seq #[] }:=k2 _ _ hL;have S2:SetB w h2 a es ep t:=S1.at λo q=>k2 _ _ q
 have key:∀(h3:Heap) (c:Nat),St 0 h3->(∀b o,b≠s.heap.objs.size->h2.get? b=some o->h3.get? b=some o)->h3.get? s.heap.objs.size=some { cls:=.type "list",data:=.seq #[] c }->
   codeAny (model prog w) A (.builtin "list.extend.loop" ⟨[.ref s.heap.objs.size,.ref I,.ref s.heap.objs.size],[]⟩) (λr cS=>match r with | .ok (.ret v)=>wpAny (model prog w) A (match v with | .ref x=>load x >>= λo=>(match o.data with | .seq xs _=>pure xs.toList | _=>unsupported "internal:collect") | _=>unsupported "internal:collect") R E cS | .ok _=>False | .error e=>E e cS) { s with heap:=h3,drawn:=d' }:=by
  intro h3 c AE k3 r6;refine codeAny_extend_loopS ((W A.in1 (by simp[hh])).toS) (eJ hle (by decide)) _ uj _ es.size 0 _ #[] c rfl (eS _) AE r6 (ItemsOf.nil _) λs' gT df hm lh gq=>?_
  rw[Moved.eq_with hm];show wpAny _ A (load s.heap.objs.size >>= _) _ _ _;refine ae (wpAny_load lh (ai (h s'.heap s'.toks d' gT (λb o e=>?_) (sx gT gq))));have hb:b<s.heap.objs.size:=bh e;refine hm.heap b o (λz=>?_) (k3 b o (cm hb) (k2 b o (k1 b o e)));rcases ck z with z | z
  .exact absurd z (cm hb)
  .rw[eR z]at hb
   exact absurd (Nat.lt_trans hI hb) (hZ _)
 refine ae (f6 (Md (s:={ s with heap:=h2,drawn:=d' }) S2 rfl ?_));refine wpAny_ite_split (λ_=>?_) (λ_=>ai ⟨plainId_quiet PySem.F.plain_extend_loop _,key h2 0 st (λb o _ e=>e) nL⟩);refine ae (jy ?_);refine ae ?_;show wpAny _ _ (updateSeq s.heap.objs.size (·.push .none) >>= λ_=>updateSeq s.heap.objs.size (·.pop)) _ _ _;refine ae (wpAny_updateSeq (s:={ s with heap:=h2,drawn:=d' }) nL rfl ?_);have r6:=k7 (Obj.mapSeq (·.push Value.none)) nL rfl;refine wpAny_updateSeq (hz:=by seq_fits) r6 rfl ?_;have Cf:=k7 (Obj.mapSeq (·.pop)) r6 rfl;have k4:∀b o,b≠s.heap.objs.size->h2.get? b=some o->((h2.update s.heap.objs.size (Obj.mapSeq (·.push Value.none))).update s.heap.objs.size (Obj.mapSeq (·.pop))).get? b=some o:=λb o hb e=>(Heap.get?_update_other _ _ (Ne.symm hb)).trans ((Heap.get?_update_other _ _ (Ne.symm hb)).trans e)
 exact ai ⟨plainId_quiet PySem.F.plain_extend_loop _,key _ _ ((W A hh).frame 0 _ _ st λb hb o e=>k4 b o (λz=>uj (z▸hb)) e) k4 Cf⟩
end
end PySem
namespace L2
open PySem PySem.Spec PyProof.Rows
theorem yF{l:List (Int×Value)}{acc:List Value}(hs:SE w l)(hp:acc.Perm (l.map (·.2))):Vals ((acc.map qA).map kV) acc/\(acc.map qA).Perm (l.map fw):=by
 have one:∀v∈acc,RelV (kV (qA v)) v:=λv hv=>by
  obtain⟨e,he,rfl⟩:=cw (hp.mem_iff.mp hv);obtain⟨k,h1,_⟩:=hs e he;rw[(oO h1).1];rcases FW h1 with ⟨i,t,rfl,e⟩ | ⟨x,t,rfl,e⟩<;>exact⟨t,e⟩
 have key:∀vs:List Value,(∀v∈vs,RelV (kV (qA v)) v)->Vals ((vs.map qA).map kV) vs:=λvs=>by
  induction vs with
  | nil=>exact λ_=>.nil
  | cons v r ih=>exact λh=>.cons (h v b0) (ih λy hy=>h y (b7 _ hy))
 have:=hp.map qA;rw[bS]at this;exact⟨key acc one,this⟩
def yj(b:Bool)(k:Key):Prop:=k.isRight=b
def AA:Bool->List Key->Prop
 | true,ks=>∃ss,ks=ss.map .inr/\sortedS ss=true
 | false,ks=>∃ns:List Int,ks=ns.map .inl/\ns.Pairwise (·<=·)
theorem ty_map{b:Bool}:∀{ks:List Key},(∀k∈ks,yj b k)->(b=true/\∃ss:List Str,ks=ss.map .inr)\/(b=false/\∃ns:List Int,ks=ns.map .inl)
 | [],_=>by
  cases b
  .exact .inr ⟨rfl,[],rfl⟩
  .exact .inl ⟨rfl,[],rfl⟩
 | k::r,h=>by
  have h0:k.isRight=b:=h k b0;rcases ty_map λx hx=>h x (b7 _ hx) with ⟨rfl,ss,rfl⟩ | ⟨rfl,ns,rfl⟩
  .cases k with
   | inl i=>cases h0
   | inr x=>exact .inl ⟨rfl,x::ss,rfl⟩
  .cases k with
   | inl i=>exact .inr ⟨rfl,i::ns,rfl⟩
   | inr x=>cases h0
theorem Yw{b:Bool}{vs:List Value}(hv:Vals (ks.map kV) vs)(ht:∀k∈ks,yj b k)(dz:vs.length<64)(ho:s.heap.get? a=some (seqObj "list" vs.toArray 0)){P:Fin->Shared->Prop}(h:∀(out:Array Value) (bj:List Key),Vals (bj.map kV) out.toList->bj.Perm ks->AA b bj->P (.done (.ret .none)) { s with heap:=sortedHeap s.heap a vs out }):wpAny (model prog w) A (Builtin.«list.sort» ⟨[.ref a],[]⟩) P E s:=by
 rcases ty_map ht with ⟨rfl,ss,rfl⟩ | ⟨rfl,ns,rfl⟩
 .rw[bS]at hv
  have hS:StrsAre vs ss:=bD hv;refine list_sort_treeK strKind_oneLt ho hS.keysOf (λYY Y1 rest e=>keyKind_strs (by rw[<-e];exact hS)) dz λg7 hp hs=>?_
  obtain⟨gE,g1,g2,g3⟩:=sorted_out_str hS hp hs;refine h _ (gE.map .inr) ?_ (g2.map _) ⟨gE,rfl,g3⟩;rw[bS];exact fY g1
 .rw[bS]at hv
  refine list_sort_tree ho (intsAre_of hv) dz λout sQ g1 g2 g3=>h out (sQ.map .inl) ?_ (g2.map _) ⟨sQ,rfl,g3⟩
  rw[bS];exact fZ g1
theorem xM{b:Bool}{es:Array (Int×Value)}{ep:Nat}(S:mX w s.heap a es ep t)(ht:∀k∈es.toList.map fw,yj b k)(dz:es.size<64)(hh:A.handled=none)(h:∀(h1 h':Heap) (tk:Nat) (d':Drawn) (D:Addr) (out:Array Value) (ks:List Key) (c:Nat),(∀b o,s.heap.get? b=some o->h1.get? b=some o)->D=h1.objs.size->(∀b o,h1.get? b=some o->h'.get? b=some o)->h'.get? D=some { cls:=.type "list",data:=.seq out c }->Vals (ks.map kV) out.toList->ks.Perm (es.toList.map fw)->AA b ks->
   Q (.ref D) { s with heap:=h',toks:=tk,drawn:=d' }):wpAny (model prog w) A (call (.builtin "sorted") [.ref a]) Q E s:=by
 refine wu kind_sorted plain_sorted entry_sorted (args_sorted1 _) ?_;unfold Builtin.«sorted»;refine ae (m:=checkCount "sorted" 1 1 _) (ai ?_);refine ae (rC (A:=A.in1) S.toSetB (by lia) (by simp[hh]) λh1 tk d' acc ko sx=>?_);obtain⟨hS,IQ⟩:=yF S.se sx;have hl:acc.toList.length=es.size:=by rw[sx.length_eq,a8,eK]
 refine ae (ug ?_ (by rw[hl,fq];lia));have ho:(h1.push (seqObj "list" acc.toList.toArray 0)).get? h1.objs.size=some (seqObj "list" acc.toList.toArray 0):=dj _ rfl;refine ae (f6 (ir slot_list_sort ⟨_,ho,rfl⟩ entry_list_sort (Yw hS (λk hk=>ht k (IQ.mem_iff.mp hk)) (by rw[hl];exact dz) ho λout ks g1 g2 g3=>⟨_,rfl,?_⟩) (args_list_sort _)));refine ai ⟨_,rfl,?_⟩;obtain⟨c,hc⟩:=sortedHeap_at (vs:=acc.toList) (out:=out) ho;refine h h1 _ tk d' _ _ ks c ko rfl (λb o e=>?_) hc g1 (g2.trans IQ) g3;have hb:b<h1.objs.size:=bh e;rw[sortedHeap_old (cm hb) (by rw[mE];exact mh hb)];exact dg _ e
theorem Inv.drawn(I:Inv X pi σ H s)(d':Drawn):Inv X pi σ H { s with drawn:=d' }:=
 I.step (h':=s.heap) (t':=s.toks) (g':=s.gens) (d':=d') (ch:=[]) (λ_ z=>nomatch z) (λb o _ _ _ e _=>e) (λb o _ _ _ e _=>⟨o.slots,e⟩) (λ_ _ _ _ n=>n) (λb o _ e=>⟨o,e⟩) (λ_ _ e=>e) (λ_ _ _ e=>e) (λb ps e=>⟨#[],by rw[e];simp⟩) (λm hm=>hm) I.aS I.bare
def bV(b:Bool)(K:p4)(vs:List V)(H1:Hp)(Q:VK):Prop:=∃(a:Addr) (xs:List Key),vs=[V.ref a]/\b9 K H1 a (xs.map kV)/\xs.length<=4000/\(∀x∈xs,yj b x/\((∃y,x=.inr y)\/x∈ZV))/\(∀ys:List Key,ys.Nodup->(∀y,y∈ys↔y∈xs)->ys.length<64)/\
 ∀(p:Addr) (ks:List Key),H1 p=none->ks.Nodup->(∀y,y∈ks↔y∈xs)->AA b ks->Q (.ref p) (upd H1 p (.lst (ks.map kV)))
theorem kY{b:Bool}(hc:X.calm=true)(iz:Gl X "sorted")(fh:X.mg "sorted" = none)(ju:Gl X "set")(jx:X.mg "set" = none)(he:PE X e te)(dh:starEach [Expr.Call (.Name "set" p2) [e] [] q2] X.env=[(false,eval (.Call (.Name "set" p2) [e] [] q2) X.env)]:=by rfl)(dC:starEach [e] X.env=[(false,eval e X.env)]:=by rfl) :
  PE X (.Call (.Name "sorted" p1) [.Call (.Name "set" p2) [e] [] q2] [] q1) (λ σ H Q=>te σ H λx H1=>bV b X.K [x] H1 Q):=by
 intro pi s σ H Q I h;refine Call_ (LQ I iz fh boot_sorted (PyProof.Rows.callWith_builtin1 ?_ dh rfl));have inner:wpAny (model X.prog X.w) X.A (eval (.Call (.Name "set" p2) [e] [] q2) X.env)
   (λv s1=>∃(S:Addr) (xs:List Key) (es:Array (Int×Value)) (ep:Nat) (t:SetTable) (H1:Hp),v=.ref S/\Inv X pi σ H1 s1/\mX X.w s1.heap S es ep t/\(∀y,y∈es.toList.map fw↔y∈xs)/\(∀x∈xs,yj b x)/\(∀ys:List Key,ys.Nodup->(∀y,y∈ys↔y∈xs)->ys.length<64)/\
    ∀(p:Addr) (ks:List Key),H1 p=none->ks.Nodup->(∀y,y∈ks↔y∈xs)->AA b ks->Q (.ref p) (upd H1 p (.lst (ks.map kV)))) X.xe s:=by
  refine Call_ (LQ I ju jx boot_set (PyProof.Rows.callWith_type1 (a9 (J7 he JR dC q2 pi s σ H (λvs H1=>bV b X.K vs H1 Q) I ?_) λus s1 ⟨vs,H1,I1,r1,q1⟩=>?_) dC rfl))
  .exact h
  .obtain⟨a,xs,rfl,hq,hl,ht,dz,q⟩:=q1
   obtain⟨u,rfl,ru⟩:=r1.one;cases ru;obtain⟨its,rv,pl,hz⟩:=I1.list hq;have CO:=rv.length;rw[a8]at CO;refine Mf (I1.ok.hd hc) pl.isList rv (λx hx=>(ht x hx).2) (by show its.length+1<4096;lia) λh' tk es ep t g1 g2 g3 g4=>?_
   exact⟨_,xs,es,ep,t,H1,rfl,I1.kept g4,g1,g3,λx hx=>(ht x hx).1,dz,q⟩
 rw[dh];refine oI (a9 inner λv s1 ah=>?_);obtain⟨S,xs,es,ep,t,H1,ev,I1,hS,hm,ht,dz,q⟩:=ah;refine qe ?_;subst ev;have hz:es.size<64:=by
  have:=dz _ hS.nd hm;rw[a8,eK]at this;exact this
 refine xM hS (λk hk=>ht k ((hm k).mp hk)) hz (I1.ok.hd hc) λh1 h' tk d' D out ks c k1 eD k2 hD hO hp hs=>?_
 subst eD;have I2:Inv X pi σ H1 { s1 with heap:=h1,toks:=tk,drawn:=d' }:=(I1.kept (t':=tk) k1).drawn d';have I3:Inv X pi σ (upd H1 h1.objs.size (.lst (ks.map kV))) { s1 with heap:=h',toks:=tk,drawn:=d' }:=I2.laid (t':=tk) (λb o e=>k2 b o e) (a0 _) ⟨?_,out.toList,c,hO,by simpa using hD⟩
 .exact⟨.ref _,_,I3,rfl,q _ ks (I2.aS.fresh (a0 _)) (hp.nodup_iff.mpr hS.nd) (λy=>by rw[hp.mem_iff];exact hm y) hs⟩
 .rw[a8,hp.length_eq,a8,eK,fq]
  lia
end L2
namespace WL
open PySem PySem.Spec PyProof.Rows L2
theorem RF{α β:Type}{f:α->β}{l:List α}(h:(l.map f).Nodup):l.Nodup:=List.Pairwise.of_map f (λa b z e=>z (congrArg f e)) h
theorem Qd{α:Type}{f:α->Key}(hf:∀a b,f a=f b->a=b){zs ss:List α}(hm:∀y,y∈zs.map f↔y∈ss.map f)(z:α):z∈zs↔z∈ss:=by
 have one:∀{l:List α},f z∈l.map f↔z∈l:=λ {l}=>⟨λh=>by
  obtain⟨y,hy,e⟩:=cw h;exact hf _ _ e▸hy,λh=>gh h⟩
 rw[<-one,hm,one]
section
variable{a:Expr}
end
end WL
namespace WL
open PySem L2
theorem NL{k:Nat}(hr:gf k A):A.units+11<cLine:=by have:=hr.un;lia
theorem NJ{k:Nat}(hr:gf k A):A.units+20<cLine:=by have:=hr.un;lia
theorem rq{a b:FK}:VJ a b=true↔a=b\/cW a b=true:=by
 unfold VJ
 by_cases h:a=b
 .subst h;simp[rL.nV]
 .rw[rL.j2 a b h];simp[h]
theorem p8{a b:FK}(h1:VJ a b=true)(h2:VJ b a=true):a=b:=by
 rcases rq.mp h1 with h | h
 .exact h
 .rcases rq.mp h2 with h' | h'
  .exact h'.symm
  .have:=rL.tr _ _ _ h h'
   rw[rL.nV]at this;cases this
theorem Qp{a b c:FK}(h1:VJ a b=true)(h2:VJ b c=true):VJ a c=true:=by
 rcases rq.mp h1 with rfl | h
 .exact h2
 .rcases rq.mp h2 with rfl | h'
  .exact h1
  .exact rq.mpr (.inr (rL.tr _ _ _ h h'))
theorem NV(a b:FK):(VJ a b||VJ b a)=true:=by
 by_cases h:a=b
 .subst h;simp[rq]
 .have:=rL.j2 a b h
  unfold VJ;rw[this];cases cW a b<;>rfl
theorem bH(l:List FK):(G8 l).Pairwise (λa b=>VJ a b=true):=List.pairwise_mergeSort (le:=VJ) (λa b c h h'=>Qp h h') NV l
theorem O9(l:List FK):(G8 l).Perm l:=fb l _
theorem nO{l ys:List FK}(hp:ys.Perm l)(hs:ys.Pairwise (λa b=>cW a b=true)):ys=G8 l:=
 List.Perm.eq_of_pairwise (le:=λa b=>VJ a b=true) (λa b _ _ h1 h2=>p8 h1 h2) (hs.imp λh=>rq.mpr (.inr h)) (bH l) (hp.trans (O9 l).symm)
theorem ON:∀{x:Key} {v:V},At K ρ H (dE x) v->v=kV x
 | .inl _,_,h=>h
 | .inr _,_,h=>h
theorem aN{k:FK}(h:At K ρ H (fD k) v):∃b,v=.ref b/\V9 K H k b:=by
 obtain⟨b,vs,rfl,hf,v1,r1,rfl,h1,v2,r2,rfl,h2,h3⟩:=h;obtain⟨c,us,rfl,hg,u1,s1,rfl,g1,u2,s2,rfl,g2,g3⟩:=h2;cases (show v1=.str k.1 from h1);cases (show r2=[] from h3);cases (show u1=.str k.2.1 from g1);cases (show s2=[] from g3);rw[ON g2]at hg;exact⟨b,rfl,c,hf.sq,hg.sq⟩
theorem E9:∀{y:D} {k:FK},nI y=some k->y=fD k:=by
 intro y k h;unfold nI at h;split at h
 .rename_i a b x
  obtain⟨q,e,rfl⟩:=cj h;cases x with
  | int i=>cases e;rfl
  | str z=>cases e;rfl
  | _=>cases e
 .cases h
section
variable{a:Expr}
theorem Mx:PE X (.Dict [] [] pos) (tD C X.K .Hz):=XN.imp λ σ H Q ah=>by
 obtain⟨aj,m,ρ,d,af,S,M,e,q⟩:=ah;cases e;intro p hp;refine q _ _ (ρ++[p]) (lF M hp) (M.push hp ⟨[],DP,rfl,by simp⟩) ⟨p,?_,rfl⟩;rw[<-M.len];simp
theorem zQ{xs:List (FK×Addr)}{ks:List FK}{k:FK}{p:Addr}(h:xs.map (·.1)=ks):(eO xs k p).map (·.1)=XD ks k:=by
 subst h;unfold eO XD;rw[List.any_map,show xs.any ((λx:FK=>decide (x=k))∘λx=>x.1)=xs.any (λx=>decide (x.1=k)) from rfl]
 by_cases q:xs.any (λx=>decide (x.1=k))=true
 .rw[ag q,ag q]
 .rw[ak q,ak q];simp
theorem Me(ha:PE X a (tD C X.K pa))(hb:PE X b (tD C X.K pb))(hu:X.A.units+11<cLine:=by assumption):PS X (.Assign [.Subscript a b pos'] (.Constant (.bool true) j p1) pos) (l3 C W X.K (.B4 pa pb)):=
 (MT hu ha hb).imp λE σ H ah=>by
 obtain⟨aj,m,ρ,o,af,S,M,e,q⟩:=ah;obtain⟨⟨x,m1⟩,e1,e⟩:=aT e;obtain⟨⟨y,m2⟩,e2,e⟩:=aT e;refine⟨aj,m,ρ,x,m1,S,M,e1,λu H1 az g1 M1 A1=>⟨aj,m1,az,y,m2,S.mono M g1,M1,e2,λw H2 c8 g2 M2 A2=>?_⟩⟩;have l9:=A1.mono M1 g2;have S2:=(S.mono M g1).mono M1 g2;cases x with
 | ao i=>
  obtain⟨p,hi,rfl⟩:=l9;have e:(match m2[i]?,nI y with
   | some (.fd ks),some k=>if ks.length<10000 then some (Out.nx aj,m2.set i (.fd (XD ks k))) else none
   | _,_=>none)=some (o,af):=e
  split at e
  .rename_i ks k hm hk
   split at e
   .rename_i hz
    cases e;obtain⟨xs,hp,fv,hx⟩:=M2.at' i p _ hi hm;have hy:=E9 hk;subst hy;obtain⟨c,rfl,sk⟩:=aN A2;have fe:J6 H2 (upd H2 p (.dF (eO xs k c))):=λi9 b5 g9 c6=>by
     rw[CK]
     .exact c6
     .rintro rfl;rw[hp]at c6;cases c6
    have Wo:xs.length=ks.length:=by rw[<-fv,a8]
    obtain⟨M4,g4⟩:=M2.write (o:=.dF (eO xs k c)) (q:=.fd (XD ks k)) hi ⟨_,DP,zQ fv,λz hz=>by
     unfold eO at hz;split at hz
     .exact(hx z hz).dq fe (.refl _)
     .rcases cz hz with hz | hz
      .exact(hx z hz).dq fe (.refl _)
      .rw[eR hz]
       refine A2.clean (ρ':=c8.take i) fe ?_;rcases k with ⟨k1,k2,k3 | k3⟩<;>rfl⟩
    exact⟨p,c,k,xs,rfl,rfl,hp,sk,λz hz=>by
     obtain⟨mf,eb,gu⟩:=aN (hx z hz);cases eb;exact gu,hV (by lia:xs.length<100000) (JF (a0 _)),q _ c8 (g1.trans (g2.trans g4)) M4 σ (S2.mono M2 g4)⟩
   .cases e
  .cases e
 | _=>cases e
theorem rH(ha:PE X a (tD C X.K pa))(mu:Bool:=false)(hu:X.A.units+20<cLine:=by assumption)(hc:X.calm=true:=by kernel_rfl)(hg:Gl X "sorted":=by kernel_rfl)(hm:X.mg "sorted" = none:=by assumption)(he:starEach [a] X.env=[(false,eval a X.env)]:=by kernel_rfl):PE X (.Call (.Name "sorted" p1) [a] [] q1) (tD C X.K (.b1 (.D2 mu) pa)):=
 bT (lY hc hu) (by
  intro ρ m af H dx d x Q M ax e q;cases dx with
  | ao i=>
   obtain⟨p,hi,rfl⟩:=ax;have e:(match m[i]? with
    | some (.fd ks)=>if ks.length<64/\ks.all PB=true then some (bw mu ((G8 ks).map fD) m) else none
    | _=>none)=some (d,af):=e
   split at e
   .rename_i ks Vt
    split at e
    .rename_i hz
     obtain⟨xs,hp,fv,hx⟩:=M.at' i p _ hi Vt;have Wo:xs.length=ks.length:=by rw[<-fv,a8]
     refine⟨p,xs,rfl,hp,λz hz=>?_,by lia,λy hy z qw=>?_,λl ys hl xl xn=>?_⟩
     .obtain⟨mf,eb,gu⟩:=aN (hx z hz)
      cases eb;exact gu
     .have ok:=k6 hz.2
      have h1:=ok y.1 (by rw[<-fv];exact gh hy);have h2:=ok z.1 (by rw[<-fv];exact gh qw)
      by_cases q:y.1.2.1=z.1.2.1
      .refine .inl ?_
       unfold PB at h1 h2;rw[q]at h1;cases xy:y.1.2.2<;>cases uy:z.1.2.2<;>simp only[xy,uy]at h1 h2<;>first | rfl | (exfalso;simp_all)
      .exact .inr q
     .have o6:ys.map (·.1)=G8 ks:=nO (by rw[<-fv];exact xl.map _) (by rw[List.pairwise_map];exact xn)
      have cg:en X.K ρ H (bw mu ((G8 ks).map fD) m).1 (bw mu ((G8 ks).map fD) m).2 Q:=by rw[cq e];exact q
      refine cg.lst M ?_ hl;rw[<-o6,bS];have:∀l:List (FK×Addr),(∀z∈l,z∈xs)->a7 X.K ρ H (l.map (fD∘(·.1))) (l.map λx=>V.ref x.2):=λl=>by
       induction l with
       | nil=>exact λ_=>rfl
       | cons z r ih=>exact λhl=>⟨_,_,rfl,(hx z (hl z b0)).dq (λ_ _ _ h=>h) (i8.take ρ i),ih λy hy=>hl y (b7 _ hy)⟩
      exact this ys λz hz=>xl.mem_iff.mp hz
    .cases e
   .cases e
  | _=>cases e) PyProof.Rows.boot_sorted hg hm ha (by decide) (by decide) he
end
end WL
namespace WL
open PySem PySem.Spec PyProof.Rows L2
theorem Nt{y z:FK}(h1:PB y=true)(h2:PB z=true):YZ y.2.2 z.2.2=true\/y.2.1≠z.2.1:=by
 by_cases q:y.2.1=z.2.1
 .refine .inl ?_
  unfold PB at h1 h2;rw[q]at h1;cases xy:y.2.2<;>cases uy:z.2.2<;>simp only[xy,uy]at h1 h2<;>first | rfl | (exfalso;simp_all)
 .exact .inr q
theorem cX:∀{ds:List D} {ks:List FK} {vs:List V},T6 ds=some ks->a7 K ρ H ds vs->∃fs:List (FK×Addr),fs.map (·.1)=ks/\vs=(fs.map λx=>V.ref x.2)/\(∀x∈fs,V9 K H x.1 x.2)/\∀x∈fs,At K ρ H (fD x.1) (.ref x.2)
 | [],ks,vs,e,as=>by
  cases e;cases (show vs=[] from as);exact⟨[],rfl,rfl,λx hx=>(nomatch hx),λx hx=>(nomatch hx)⟩
 | d::r,ks,vs,e,as=>by
  obtain⟨k,e1,e⟩:=aT (show ((nI d).bind λk=>(T6 r).map λks=>k::ks)=some ks from e);obtain⟨bj,e2,rfl⟩:=cj e;obtain⟨v,us,rfl,a1,a2⟩:=as;have hd:=E9 e1;subst hd;obtain⟨b,rfl,hb⟩:=aN a1;obtain⟨fs,g1,rfl,g3,g4⟩:=cX e2 a2;refine⟨(k,b)::fs,by rw[cn,g1],rfl,λx hx=>?_,λx hx=>?_⟩
  .rcases ck hx with rfl | hx
   .exact hb
   .exact g3 x hx
  .rcases ck hx with rfl | hx
   .exact a1
   .exact g4 x hx
theorem yN{fs:List (FK×Addr)}(g:∀x∈fs,At K ρ H (fD x.1) (.ref x.2)){l:List (FK×Addr)}(hl:∀z∈l,z∈fs):a7 K ρ H (l.map (fD∘(·.1))) (l.map λx=>V.ref x.2):=aW λz hz=>g z (hl z hz)
section
variable{a:Expr}
end
end WL
namespace L2
open PySem PySem.Spec PyProof.Rows
noncomputable def Hg(a:Addr)(o:Obj)(kvs:List (Key×V)):It:=
 ⟨λi H=>H a=some (.bq o (.dK kvs))/\∃p,kvs[i]?=some p,λi H x aa=>aa=H/\∃p,kvs[i]?=some p/\x=kV p.1,λi H=>H a=some (.bq o (.dK kvs))/\kvs.length<=i⟩
theorem Bc{o:Obj}{es:Array DictEntry}(ok:eM P w H h)(e:H a=some (.bq o (.dK kvs)))(he:o.data=.dict es ep):∃vs,KV kvs vs/\h.DictAt (CZ P w) a vs ep:=by
 obtain⟨ho,_,_,vs,kv,b5,iX,jq,g1,g2,g3,g4⟩:=(show dw P w H h a (.bq o (.dK kvs)) from ok a _ e)
 rw[ho]at g1;cases g1;rw[he]at g3;cases g3;exact⟨vs,kv,o,es,ho,g2,he,g4⟩
theorem cO{vs:List (Key×Value)}(h:KV kvs vs):vs.length=kvs.length:=by
 induction h with
 | nil=>rfl
 | cons _ _ ih=>simp[ih]
theorem Qf{vs:List (Key×Value)}(h:KV kvs vs):∀{i:Nat} {p:Key×V},kvs[i]?=some p->∃v,vs[i]?=some (p.1,v):=by
 induction h with
 | nil=>intro i p e;simp at e
 | cons a b ih=>
  intro i p e;cases i with
  | zero=>
   simp only[List.getElem?_cons_zero,Option.some.injEq]at e;subst e
   rename_i x y _ _
   exact⟨y.2,congrArg some (Prod.ext a.1.symm rfl)⟩
  | succ i=>exact ih (by simpa using e)
theorem MH{k:Key}(h:(CZ P w).is k u=true):RelV (kV k) u:=by
 have h:JV k u=true:=h;cases k with
 | inl i=>cases u<;>first | (cases h;done) | (simp[JV,Value.isInt]at h;subst h;exact⟨_,rfl⟩)
 | inr x=>cases u<;>first | (cases h;done) | (simp[JV,Value.isStrOf]at h;subst h;exact⟨_,rfl⟩)
theorem xJ{o:Obj}{es:Array DictEntry}(a it:Addr)(kvs:List (Key×V))(he:o.data=.dict es ep):Turn P w K tg (Hg a o kvs) [it] it (λi h=>h.IsKeyIter it a i kvs.length ep) where
 mem:=by simp
 obj:=λi h st b hb=>by
  have e:b=it:=by simpa using hb
  subst e;obtain⟨o,e,c,d⟩:=st;exact⟨o,e,λv z=>by rw[d]at z;cases z⟩
 keep:=λi h h' st k=>st.at λo e=>k it (by simp) o e
 item:=by
  intro X hP hw hK hc i pi s σ H E I hf st hg;subst hP hw hK;obtain⟨hq,p,hx⟩:=hg;obtain⟨vs,kv,dd⟩:=Bc I.aS hq he;obtain⟨v,hv⟩:=Qf kv hx;obtain⟨f0,f1,f2,f3,f4,f5⟩:=hf it (by simp);refine wpAny_pyNext_dict_item (by rw[cO kv];exact st) dd hv λkey h' hk g7 sb=>?_
  rw[cO kv]at g7;have I1:Inv X pi σ H { s with heap:=h' }:=I.turned (t':=s.toks) (λb o hb e=>(sb.2 b hb).trans e) f0 f1 f3 f4 f5;exact⟨key,rfl,letGo_keyiter (s':={ s with heap:=h' }) g7 ⟨kV p.1,H,I1,MH hk,⟨rfl,p,hx,rfl⟩,g7,λb hb=>(hf b hb).1⟩⟩
 done:=by
  intro X hP hw hK hc i pi s σ H E I hf st hg;subst hP hw hK;obtain⟨hq,hx⟩:=hg;obtain⟨vs,kv,dd⟩:=Bc I.aS hq he;obtain⟨f0,f1,f2,f3,f4,f5⟩:=hf it (by simp);exact wpAny_pyNext_dict_end (I.ok.hd hc) (by rw[cO kv];exact st) dd (List.getElem?_eq_none (by rw[cO kv];exact hx)) λh' eb=>⟨rfl,I.turned (t':=s.toks) (λb o hb e=>eb b o hb e) f0 f1 f3 f4 f5⟩
 self:=λ_ _ _ _ _ st h=>wpAny_pyIter_keyiter st h
theorem MX{l:Expr}(hl:PE X l tl):PI X tg l (λ σ H R=>tl σ H λx H1=>∃a o kvs,x=.ref a/\H1 a=some (.bq o (.dK kvs))/\R (Hg a o kvs) H1):=by
 intro pi s σ H R I h;refine a9 (hl pi s σ H _ I h) λv s1 ah=>?_
 obtain⟨x,H1,I1,r1,q1⟩:=ah;obtain⟨a,o,kvs,e,hq,q⟩:=q1;subst e;cases r1;obtain⟨ho,_,lo,iN,aaP,b5,es,ep,g1,g2,g3,g4⟩:=(show dw X.prog X.w H1 s1.heap a (.bq o (.dK kvs)) from I1.aS a _ hq)
 rw[ho]at g1;cases g1;obtain⟨vs,kv,dd⟩:=Bc I1.aS hq g3;refine wpAny_pyIter_dict lo dd ?_;refine⟨s1.heap.objs.size,[s1.heap.objs.size],_,_,H1,rfl,I1.kept (t':=s1.toks) λb o e=>dg _ e,xJ a _ kvs g3,⟨_,dj _ rfl,rfl,by rw[cO kv];rfl⟩,λb hb=>?_,q⟩;have e:b=s1.heap.objs.size:=by simpa using hb
 subst e;exact I1.nK (a0 _) (I1.aS.fresh (a0 _))
end L2
namespace WL
open PySem PySem.Spec PyProof.Rows L2
theorem Qk:∀x:Key,At K ρ H (dE x) (kV x)
 | .inl _=>rfl
 | .inr _=>rfl
section
variable{a:Expr}
theorem uJ(ha:PE X a (tD C X.K pa)):PI X tg a (lT C X.K (.keys pa)):=(MX ha).imp λ σ H R ah=>by
 obtain⟨aj,m,ρ,w,af,S,M,e,q⟩:=ah;obtain⟨⟨x,m1⟩,e1,e⟩:=aT e;refine⟨aj,m,ρ,x,m1,S,M,e1,λv H1 az g1 M1 A1=>?_⟩;cases x with
 | aq ks vs=>
  cases e;obtain⟨p,o,kvs,rfl,hp,hk,as⟩:=A1;refine⟨p,o,kvs,rfl,hp,q _ H1 az g1 M1 λi ρ' af aa hf hr i7 _=>?_⟩;have Ae:=hf _ _ _ hp;have hl:ks.length=kvs.length:=by rw[<-hk,a8]
  refine⟨λd ed=>?_,λhle=>⟨Ae,by rw[<-hl];simpa using hle⟩⟩;rw[gi]at ed;obtain⟨y,ey,rfl⟩:=cj ed;rw[<-hk,gi]at ey;obtain⟨fA,jq,rfl⟩:=cj ey;refine⟨⟨Ae,fA,jq⟩,λz H2 yl=>?_⟩;obtain⟨rfl,p2,e2,rfl⟩:=yl;rw[jq]at e2;cases e2;exact⟨.refl _,Qk _⟩
 | _=>cases e
theorem Mt{p0:Pos}(ho:PE X a (tD C X.K pa))(ia:attributeBase a "pop" X.env (eval a X.env)=eval a X.env:=by kernel_rfl)(mM:((backTo b8 (starEach [Expr.Constant (.int 0) j p0] X.env)).all (λx=>!x.1)&&(backToKw b8 (keywordEach [] X.env)).all (λx=>x.1.isSome)
   &&decide (([Expr.Constant (.int 0) j p0]:List Expr).length+([]:List Keyword).length+(if ([]:List Keyword).isEmpty then 0 else 1)<30))=true:=by kernel_rfl)(iA:(apos.endLine==b8.line)=true:=by kernel_rfl)(hs:starEach [Expr.Constant (.int 0) j p0] X.env=[(false,eval (Expr.Constant (.int 0) j p0) X.env)]:=by kernel_rfl):PE X (.Call (.Attribute a "pop" apos) [.Constant (.int 0) j p0] [] b8) (tD C X.K (.DO pa)):=
 (gW PySem.F.plainAttrs_list PySem.F.slot_list_pop PySem.F.type_list_pop Lu ho (J7 EU JR hs) ia mM iA hs rfl).imp λ σ H Q ah=>by
 obtain⟨aj,m,ρ,d,af,S,M,e,q⟩:=ah;obtain⟨⟨x,m1⟩,e1,e⟩:=aT e;refine⟨aj,m,ρ,x,m1,S,M,e1,λv H1 az g1 M1 A1=>?_⟩;cases x with
 | ao i=>
  obtain⟨p,hi,rfl⟩:=A1;have e:(match m1[i]? with
   | some (.lst (d::r))=>some (d,m1.set i (.lst r))
   | _=>none)=some (d,af):=e
  split at e
  .rename_i d' r hm
   cases e;obtain⟨vs,hp,as⟩:=M1.at' i p _ hi hm;obtain⟨y,vr,rfl,a3,ar⟩:=as;have fe:J6 H1 (upd H1 p (.lst vr)):=λi9 b5 g9 c6=>by
    rw[CK]
    .exact c6
    .rintro rfl;rw[hp]at c6;cases c6
   obtain⟨M4,g4⟩:=M1.write (o:=.lst vr) (q:=.lst r) hi ⟨_,DP,ar.dq fe (.refl _)⟩;refine⟨.inl ⟨rfl,_,.of hp⟩,p,y::vr,0,0,y,rfl,rfl,hp,by decide,by decide,by simp[seqIndex?],rfl,q _ _ az (g1.trans g4) M4 ((a3.dq (λ_ _ _ z=>z) (.take az i)).mono M1 g4)⟩
  .cases e
 | _=>cases e
end
end WL
namespace L2
open PySem PySem.Spec PyProof.Rows
def Ri(td te:TE):TE:=λ σ H Q=>td σ H λx H1=>∃a,x=.ref a/\Bz H1 a/\te σ H1 λy H2=>∃b ob kvs more,y=.ref b/\H2 a=some (.dK kvs)/\H2 b=some (.bq ob (.dK more))/\kvs.length+more.length<=sizeLine/\Q .au (upd H2 a (.dK (JT kvs more)))
theorem Nd(ho:PE X o td)(he:PE X e te)(m:M1 X o "update" apos e b8):PE X (.Call (.Attribute o "update" apos) [e] [] b8) (Ri td te):=by
 intro pi s σ H Q I h;refine wpAny_Call_method m.base m.BY m.line PySem.F.plainAttrs_dict PySem.F.slot_dict_update PySem.F.type_dict_update (a9 (ho pi s σ H _ I h) λu s1 ah=>?_);obtain⟨x,H1,I1,rx,a,ex,d,q1⟩:=ah;subst ex;obtain rfl:u=Value.ref a:=rx;obtain⟨t1,t2,_⟩:=sE I1 d;refine⟨t1,t2,?_⟩;rw[m.trees];refine Calls.callWith_builtin rfl (Calls.evalArgs_plain (oI (a9 (he pi s1 σ H1 _ I1 q1) λiv s2 ah=>?_)));obtain⟨y,H2,I2,ry,b,ob,kvs,more,ey,ea,eb,hz,q2⟩:=ah;refine qe ?_;subst ey;obtain rfl:iv=Value.ref b:=ry;obtain⟨z,hd,vs,rel,dd⟩:=F9 I2.aS ea;obtain⟨z2,hd2,ws,Ke,nE⟩:=T7 I2.aS (.inr ⟨ob,eb⟩);have eL:a≠b:=by
  rintro rfl;rw[ea]at eb;cases eb
 refine call_meetsIn PySem.F.slot_dict_update dd.typeIs PySem.F.entry_dict_update (PySem.F.args_dict_update_2 _ _) (meets_dict_update (CZ X.prog X.w) a b eL hd2) ⟨vs,ws,dd,nE,by rw[<-rel.length,<-Ke.length];exact hz,λh' nB _ hs=>?_⟩;have hq:∃q,h'.get? a=some q:=let ⟨q,_,_,hq,_⟩:=nB;⟨q,hq⟩
 have hl:(JT kvs more).length<=sizeLine:=eJ (M6 more kvs) hz;exact⟨.au,_,aR (t':=s2.toks) I2 (by rw[ea];exact True.intro) hs hq (lQ hl hd (Ke.merge rel) nB),rfl,q2⟩
end L2
namespace WL
open PySem PySem.Spec PyProof.Rows L2
section
variable{a:Expr}
theorem Pn(ho:PE X a (tD C X.K pa))(he:PE X b (tD C X.K pb))(mm:M1 X a "update" apos b b8:=by constructor<;>kernel_rfl):PE X (.Call (.Attribute a "update" apos) [b] [] b8) (tD C X.K (.upd pa pb)):=
 (Nd ho he mm).imp λ σ H Q ah=>by
 obtain⟨aj,m,ρ,d,af,S,M,e,q⟩:=ah;obtain⟨⟨x,m1⟩,e1,e⟩:=aT e;obtain⟨⟨iE,Tz⟩,e0,e⟩:=aT e;obtain⟨⟨y,m2⟩,e2,e⟩:=aT e;refine⟨aj,m,ρ,x,m1,S,M,e1,λv H1 az g1 M1 A1=>?_⟩;obtain⟨p,DA,rfl,Dc,_⟩:=T8 M1 A1 e0;refine⟨p,rfl,.inl ⟨DA,Dc⟩,aj,m1,az,y,m2,S.mono M g1,M1,e2,λu H2 c8 g2 M2 A2=>?_⟩;have l9:=A1.mono M1 g2;cases x with
 | ao i=>
  cases y with
  | aq ks vs=>
   obtain⟨fA,hi,e6⟩:=l9;cases e6;have e:(match m2[i]? with
    | some (.aq iE iN)=>if D.clean.cy vs&&decide (iE.length+ks.length<=1000) then some (D.au,m2.set i (.aq (FT iE iN ks vs).1 (FT iE iN ks vs).2)) else none
    | _=>none)=some (d,af):=e
   split at e
   .rename_i pj Kx hm
    split at e
    .rename_i hz
     rw[gp,decide_eq_true_eq]at hz;cases e;obtain⟨kvs,hp,hk,as⟩:=M2.at' i p _ hi hm;obtain⟨mf,ob,more,rfl,hb,sr,oB⟩:=A2;have fe:J6 H2 (upd H2 p (.dK (JT kvs more))):=λi9 b5 g9 c6=>by
      rw[CK]
      .exact c6
      .rintro rfl;rw[hp]at c6;cases c6
     have l1:kvs.length=pj.length:=by rw[<-hk,a8]
     have l2:more.length=ks.length:=by rw[<-sr,a8]
     have kp:=eA.AB (K:=X.K) (ρ:=c8.take i) (H:=upd H2 p (.dK (JT kvs more))) (eA.dq fe (.refl _) ⟨hk,as⟩) ⟨sr,oB.clean (ρ':=c8.take i) fe hz.1⟩;obtain⟨M4,g4⟩:=M2.write (o:=.dK (JT kvs more)) (q:=.aq (FT pj Kx ks vs).1 (FT pj Kx ks vs).2) hi ⟨_,DP,kp⟩;exact⟨mf,ob,kvs,more,rfl,hp,hb,by rw[l1,l2,fq];lia,q _ _ c8 (g1.trans (g2.trans g4)) M4 rfl⟩
    .cases e
   .cases e
  | _=>cases e
 | _=>cases e
end
end WL
namespace PySem
open Sem (wp)
namespace F
theorem Tv:typeLookup (.type "list") (Str.ofString "keys")=pure none:=by rw[ji,jj];kernel_rfl
end F
theorem yS{o:Obj}{xs:Array Value}{k:Nat}{Q:Option Value->Shared->Prop}(hx:s.heap.get? a=some o)(hc:o.cls=.type "list")(fS:o.data=.seq xs k)(hd:o.dict=none)(hA:A.handled=none)(h:∀h' tk,(∀b ob,s.heap.get? b=some ob->h'.get? b=some ob)->Q none { s with heap:=h',toks:=tk }):wpAny (model prog w) A (getAttr? (.ref a) "keys") Q E s:=by
 obtain⟨c,aq,dat,sl⟩:=o;simp only at hc fS hd;subst hc fS hd;obtain⟨hp,g,d,tk,os⟩:=s;have hT:∀pT,(⟨hp,g,d,pT,os⟩:Shared).TypeIs (.ref a) "list":=λ_=>⟨_,hx,rfl⟩
 have f1:=sub_AttributeError;have f3:=F.slot_list_getattribute.lookup;have f4:=F.slot_list_getattribute.bind (.ref a);have f5:=am_list_getattr_none;have n1:(["__module__","__name__","__qualname__","__doc__","__annotations__"]:List Str).contains (Str.ofString "keys")=false:=by decide +kernel
 have n2:(Str.ofString "keys").length+100<=sizeLine:=by decide +kernel
 unfold getAttr? getAttrBy? getAttrBy
 repeat (any_goals (first | assumption | exact hT _ | ((with_reducible show wpAny _ _ (call (Value.builtin "list.__getattribute__") _ _) _ _ _);refine call_meets F.slot_list_getattribute (hT _) am_entry_list_getattribute (F.args_list_getattribute_2 _ _) (meets_getattribute_miss_list a xs k sl (Str.ofString "keys") _ F.Tv n1 n2) ⟨hx,hA,λh' pT e kP=>?_⟩) | wp_step))
 obtain⟨t',g9,he⟩:=kP.there;show wpAny _ _ (getattributeRaised _ _ _ _ _ _ _) _ _ _;unfold getattributeRaised
 repeat (any_goals (first | assumption | wp_step))
 exact h _ _ kP.keeps
section
variable{K:Type}[DecidableEq K]{knd:KeyKind prog w K}
theorem Oi{d t:Addr}(hh:A.handled=none)(Cu:d≠t)(hit:it≠t)(si:d≠it)(ie:∀u∈us,u≠.ref d/\u≠.ref it)(hz:us.length<=1000):
  ∀(n i:Nat) (s:Shared) (ps:List (K×Value)) (kvs:List (K×Value)),us.length-i=n->i<=us.length->s.heap.IsListIter it t i->s.heap.IsList t us.toArray->iP knd s.heap (us.drop i) ps->s.heap.DictOf knd d kvs->kvs.length+ps.length<=2000->
   (∀h' tk,h'.DictOf knd d (ps.foldl (λacc p=>stored acc p.1 p.2) kvs)->(∀b o,b≠d->b≠it->s.heap.get? b=some o->h'.get? b=some o)->R (.ok (.ret .none)) { s with heap:=h',toks:=tk })->
   codeAny (model prog w) A (.builtin "dict.update.loop" ⟨[.ref d,.ref it,rawInt i,.none],[]⟩) R s:=by
 intro n
 induction n with
 | zero=>
  intro i s ps kvs hn hi hI hT hP hD hl hR;refine jo F.zi ?_;rw[kj F.qc _];unfold Builtin.«dict.update.loop»;have C2:us.drop i=[]:=List.drop_eq_nil_of_le (by lia);rw[C2]at hP;cases hP;refine ae (wpAny_pyNext_list_end (A:=A.in1) hh hI hT (by simp;lia) λh' hk=>?_);refine ae (m:=Builtin.Dict.addKeywords d []) (ai ?_);refine ai (hR h' s.toks ?_ λb o _ hb e=>hk b o hb e);obtain⟨o,es,ep,ho,r⟩:=hD;exact⟨o,es,ep,hk _ _ si ho,r⟩
 | succ n ih=>
  intro i s ps kvs hn hi hI hT hP hD hl hR;refine jo F.zi ?_;rw[kj F.qc _];unfold Builtin.«dict.update.loop»;have cp:i<us.length:=by lia
  have Ct:us.drop i=us[i]::us.drop (i+1):=List.drop_eq_getElem_cons cp;rw[Ct]at hP;cases hP with
  | @cons u p D9 pw q rest=>
  obtain⟨a,key,ea,hk,ha⟩:=q;have oT:=ie us[i] (List.getElem_mem cp);refine ae (wpAny_pyNext_list_item hI hT (x:=us[i]) (by simp[cp]) λh1 kl dh=>?_);have Cn:jk h1 a #[key,p.2]:=let ⟨o,ho,hc⟩:=ha;⟨o,(dh.2 a (λz=>oT.2 (by rw[ea,z]))).trans ho,hc⟩
  have wz:h1.IsList t us.toArray:=let ⟨o,ho,hc⟩:=hT;⟨o,(dh.2 t (Ne.symm hit)).trans ho,hc⟩
  have Cc:h1.DictOf knd d kvs:=let ⟨o,es,ep,ho,r⟩:=hD;⟨o,es,ep,(dh.2 d si).trans ho,r⟩
  have Cg:iP knd h1 (us.drop (i+1)) pw:=iP.keep (d:=d) (it:=it) rest (λu hu=>ie u (List.mem_of_mem_drop hu)) λb o _ hb e=>(dh.2 b hb).trans e
  dsimp only;rw[ea];refine ae (f6 ?_);have pair:wpAny (model prog w) A.in1 (Builtin.Dict.pairItems (.ref a)) (λl s'=>l=[key,p.2]/\s'={ s with heap:=h1 }) (λ_ _=>False) { s with heap:=h1 }:=by
   obtain⟨o,ho,hc,m,hd⟩:=Cn;unfold Builtin.Dict.pairItems;refine ae (wpAny_typeOf (T:="tuple") ⟨o,ho,hc⟩ ?_);rw[ag (by simp)];refine ae (wpAny_seqItems ho hd (ai ⟨by simp,rfl⟩))
  refine ae (wpAny_tryCatch (ff pair (λl s' CI=>?_) λ_ _ f=>f.elim));obtain⟨rfl,rfl⟩:=CI;have hlen:kvs.length<=sizeLine:=by rw[fq];lia
  refine f6 (wpAny_dictSet_pairs (s:={ s with heap:=h1 }) hk Cc (λh2 Cd dC=>?_) hlen);refine ai ⟨plainId_quiet F.qc _,?_⟩;have ei:(i:Int)+1=((i+1:Nat):Int):=by lia
  rw[ei];have jw:∀b o,b≠d->h1.get? b=some o->h2.get? b=some o:=λb o hb e=>(dC.2 b hb).trans e
  refine ih (i+1) { s with heap:=h2,toks:=s.toks+1 } pw (stored kvs p.1 p.2) (by lia) (by lia) (kl.at λo e=>jw it o (Ne.symm si) e) (let ⟨o,ho,hc⟩:=wz;⟨o,jw t o (Ne.symm Cu) ho,hc⟩)
   (iP.keep (d:=d) (it:=it) Cg (λu hu=>ie u (List.mem_of_mem_drop hu)) λb o hb _ e=>jw b o hb e) Cd ?_ λh' tk Cb ic=>?_
  .have:=gF kvs p.1 p.2
   rw[kg]at hl;lia
  .exact hR h' tk Cb λb o w4 w8 e=>ic b o w4 w8 (jw b o w4 ((dh.2 b w8).trans e))
theorem Oj{t:Addr}{o:Obj}{m:Nat}{ps:List (K×Value)}(hh:A.handled=none)(ho:s.heap.get? t=some o)(hc:o.cls=.type "list")(hd:o.dict=none)(fS:o.data=.seq us.toArray m)(hP:iP knd s.heap us ps)(hz:us.length<=1000)(UD:sysModules<s.heap.objs.size)(h:∀h' tk,h'.DictOf knd s.heap.objs.size (ps.foldl (λacc p=>stored acc p.1 p.2) [])->(∀b ob,s.heap.get? b=some ob->h'.get? b=some ob)->Q (.ref s.heap.objs.size) { s with heap:=h',toks:=tk }) :
  wpAny (model prog w) A (call (.type "dict") [.ref t]) Q E s:=by
 refine callType_codes (Q₁:=λobj bc=>obj=.ref s.heap.objs.size/\bc={ s with heap:=s.heap.push { cls:=.type "dict",data:=.dict #[] } }) F.kt_called_dict (F.kt_typeCall_dict_1 _) F.entry_dict_init (kt_code_dict_new _ ⟨rfl,rfl⟩) ?_;rintro obj bc ⟨rfl,rfl⟩;have mN:(s.heap.push { cls:=.type "dict",data:=.dict #[] }).DictOf knd s.heap.objs.size []:=Heap.DictOf.new s.heap;refine⟨mN.typeIs,F.args_dict_init_2 _ _,?_⟩;generalize hH:s.heap.push { cls:=.type "dict",data:=.dict #[] }=H1 at mN;have k1:∀b ob,s.heap.get? b=some ob->H1.get? b=some ob:=λb ob e=>by rw[<-hH];exact dg _ e
 have dh:H1.objs.size=s.heap.objs.size+1:=by rw[<-hH,mE]
 have xu:t<s.heap.objs.size:=bh ho;unfold Builtin.«dict.__init__»;refine ae ?_;unfold Builtin.Dict.selfAndRest;refine ae (wpAny_notOrdered_dict mN.typeIs ?_);show wpAny _ _ (pure (s.heap.objs.size,[Value.ref t])) _ _ _;refine ai ?_;show wpAny _ _ (Builtin.Dict.updateFrom "dict.__init__" s.heap.objs.size (.ref t) [] .none) _ _ _;unfold Builtin.Dict.updateFrom;refine ae (wpAny_typeOf (T:="list") ⟨o,k1 _ _ ho,hc⟩ ?_);rw[ag (by decide)];refine ae (yS (s:={ s with heap:=H1 }) (k1 _ _ ho) hc fS hd (show A.in1.in1.handled=none from hh) λH2 tk k2=>?_);rw[ag (by rfl)];refine ae (jy ?_);have qh:H2.IsList t us.toArray:=⟨o,k2 _ _ (k1 _ _ ho),hc,m,fS⟩
 refine ae (wpAny_pyIter_list (s:={ s with heap:=H2,toks:=tk }) qh ?_);refine ai ⟨plainId_quiet F.qc _,?_⟩;have oS:s.heap.objs.size<H2.objs.size:=by
  obtain⟨od,_,_,kM,_⟩:=mN;exact bh (k2 _ _ kM)
 have ie:∀u∈us,∃a,u=.ref a/\a<s.heap.objs.size:=λu hu=>hP.mem u hu
 have k3:∀b ob,H2.get? b=some ob->(H2.push { cls:=.type "list_iterator",data:=.fields #[.ref t,.int 0 0] }).get? b=some ob:=λb ob e=>dg _ e
 refine Oi (knd:=knd) (A:=A.in1) (it:=H2.objs.size) (t:=t) (us:=us) hh (iS xu) (iS (Nat.lt_trans xu oS)) (cm oS) (λu hu=>?_) hz us.length 0 _ ps [] (by lia) (eS _) ⟨_,dj _ rfl,rfl,rfl⟩
  (let ⟨ob,e,c⟩:=qh;⟨ob,k3 _ _ e,c⟩) ?_ ?_ ?_ λh' pT hD hk=>?_
 .obtain⟨a,rfl,ha⟩:=ie u hu
  exact⟨λz=>by cases z;exact hZ _ ha,λz=>by cases z;exact hZ _ (Nat.lt_trans ha oS)⟩
 .rw[List.drop_zero]
  refine iP.keep (d:=s.heap.objs.size) (it:=s.heap.objs.size) hP (λu hu=>?_) λb ob _ _ e=>k3 _ _ (k2 _ _ (k1 _ _ e))
  obtain⟨a,rfl,ha⟩:=ie u hu;exact⟨λz=>by cases z;exact hZ _ ha,λz=>by cases z;exact hZ _ ha⟩
 .obtain⟨od,es,ep,kM,r⟩:=mN
  exact⟨od,es,ep,k3 _ _ (k2 _ _ kM),r⟩
 .have e:us.length=ps.length:=Paired.length hP
  simp only[List.length_nil];lia
 .refine⟨rfl,h h' pT hD λb ob e=>hk b ob (cm (bh e)) (cm (Nat.lt_trans (bh e) oS)) (k3 _ _ (k2 _ _ (k1 _ _ e)))⟩
end
end PySem
namespace L2
open PySem PySem.Spec PyProof.Rows
theorem tK(hc:X.calm=true):fI X (.type "dict") (λxs H Q=>∃a vs kvs,xs=[.ref a]/\b9 X.K H a vs/\zT X.K H vs kvs/\kvs.length<=1000/\∀p,H p=none->Q (.ref p) (upd H p (.dK (JT [] kvs)))):=by
 intro pi s σ H xs us Q I r h;obtain⟨a,vs,kvs,rfl,ha,hp,hz,q⟩:=h;obtain⟨u,rfl,ru⟩:=vals1 r;cases ru;obtain⟨its,rv,pl,qw⟩:=I.list ha;obtain⟨o,e,dA,hd,m,fS⟩:∃o,s.heap.get? a=some o/\o.cls=.type "list"/\o.dict=none/\∃m,o.data=.seq its.toArray m:=by
  obtain⟨o,n,h1,h2,h3,h4⟩:=pl;exact⟨o,h1,h2,h3,n,h4⟩
 obtain⟨ps,CH,C7⟩:=ER I hp rv;have hl:its.length=kvs.length:=by rw[<-rv.length];exact Paired.length hp
 refine Oj (I.ok.hd hc) e dA hd fS C7 (by lia) I.big λh' tk hD hk=>?_
 have I2:Inv X pi σ (upd H s.heap.objs.size (.dK (JT [] kvs))) { s with heap:=h',toks:=tk }:=I.laid (λb ob e=>hk b ob e) (a0 _) ?_
 .exact⟨.ref _,_,I2,rfl,q _ (I.aS.fresh (a0 _))⟩
 .refine lQ ?_ ?_ (Z9 kvs (P:=X.prog) (w:=X.w) CH .nil) hD
  .have:=M6 kvs []
   simp only[List.length_nil]at this;rw[fq];lia
  .have:=I.big
   simp only[beq_eq_false_iff_ne];exact iS this
end L2
namespace WL
open PySem PySem.Spec PyProof.Rows L2
section
variable{a:Expr}
theorem xQ:fX X (.zh mu) (λxs H Q=>∃a vs kvs,xs=[.ref a]/\b9 X.K H a vs/\zT X.K H vs kvs/\kvs.length<=1000/\∀p,H p=none->Q (.ref p) (upd H p (.dK (JT [] kvs)))):=by
 intro ρ m af H dx d x Q M ax e q;obtain⟨xs,e0,e⟩:=aT (show ((G5 dx m).bind λxs=>(pairsOf xs).bind λz=>if z.1.length<=1000 then some (gX mu (FT [] [] z.1 z.2).1 (FT [] [] z.1 z.2).2 m) else none)=some (d,af) from e);obtain⟨⟨ks,us⟩,e1,e⟩:=aT e;split at e
 .rename_i hl
  have aE:=cq e;obtain⟨p,vs,rfl,hq,as⟩:=J8 M ax e0;obtain⟨kvs,h1,h2⟩:=QM e1 as;have cg:en X.K ρ H (gX mu (FT [] [] ks us).1 (FT [] [] ks us).2 m).1 (gX mu (FT [] [] ks us).1 (FT [] [] ks us).2 m).2 Q:=by rw[aE];exact q
  have h3:=eA.AB (eA.nil (K:=X.K) (ρ:=ρ) (H:=H)) h2;exact⟨p,vs,kvs,rfl,hq,h1,by rw[<-eG h2];exact hl,λl hl=>cg.aq M h3.1 h3.2 hl⟩
 .cases e
theorem nW(ha:PE X a (tD C X.K pa))(mu:Bool:=false)(hc:X.calm=true:=by kernel_rfl)(hg:Gl X "dict":=by kernel_rfl)(hm:X.mg "dict" = none:=by assumption)(he:starEach [a] X.env=[(false,eval a X.env)]:=by kernel_rfl):PE X (.Call (.Name "dict" p) [a] [] pos) (tD C X.K (.b1 (.zh mu) pa)):=nQ (tK hc) xQ boot_dict hg hm ha (by decide) (by decide) he
end
noncomputable def vx:Nat->VK->VK
 | 0,Q=>Q
 | n+1,Q=>λv H=>∃a u,H a=some u/\iU u/\∀o,vx n Q v (upd H a (.bq o u))
theorem Fh:∀(n:Nat) {Q:VK} {u:Value},EP X pi σ (vx n Q) u s->EP X pi σ Q u s
 | 0,_,_,h=>h
 | n+1,Q,u,bf=>by
  obtain⟨v,aa,I,r,a,w,ha,c,q⟩:=bf;obtain⟨o,iq⟩:=freeze I ha c;exact Fh n ⟨v,_,iq,r,q o⟩
theorem P2(h:PE X e t):PE X e (λ σ H Q=>∃n,t σ H (vx n Q)):=by
 intro pi s σ H Q I ah;obtain⟨n,q⟩:=ah;exact a9 (h pi s σ H _ I q) λ_ _ z=>Fh n z
noncomputable def qS(t:Str×Key):D:=.tup [.str t.1,dE t.2]
abbrev GL:=List (Str×Addr×List V)
noncomputable def fR(L:GL):List (Key×V):=L.map λt=>(Sum.inr t.1,V.ref t.2.1)
def GR(K:p4)(ρ:List Addr)(H:Hp):iO->GL->Prop
 | [],[]=>True
 | a::r,b::q=>a.1=b.1/\a7 K ρ H (a.2.map qS) b.2.2/\GR K ρ H r q
 | _,_=>False
noncomputable def mV(L:GL)(x:Str)(v:V):GL:=L.map λt=>if t.1=x then (t.1,t.2.1,t.2.2++[v]) else t
section
variable{H0:Hp}
theorem WY:∀{g:iO} {L:GL},GR K ρ H0 g L->g.map (·.1)=L.map (·.1)
 | [],[],_=>rfl
 | _::_,_::_,⟨a,_,c⟩=>by rw[cn,cn,a,WY c]
 | [],_::_,h=>h.elim
 | _::_,[],h=>h.elim
theorem E5{k:FK}(hv:At K ρ H0 (qS k.2) v):∀{g:iO} {L:GL},GR K ρ H0 g L->GR K ρ H0 (g.map (λp=>if p.1=k.1 then (p.1,p.2++[k.2]) else p)) (mV L k.1 v)
 | [],[],_=>trivial
 | a::r,b::q,bf=>by
  obtain⟨h1,h2,h3⟩:=bf;refine⟨?_,?_,E5 hv h3⟩
  .dsimp only
   by_cases e:a.1=k.1
   .rw[ag e,ag (h1▸e)];exact h1
   .rw[ak e,ak λz=>e (h1.trans z)];exact h1
  .dsimp only
   by_cases e:a.1=k.1
   .rw[ag e,ag (h1▸e)]
    show a7 K ρ H0 ((a.2++[k.2]).map qS) (b.2.2++[v]);rw[dt];exact h2.snoc hv
   .rw[ak e,ak λz=>e (h1.trans z)];exact h2
 | [],_::_,h=>h.elim
 | _::_,[],h=>h.elim
theorem E4{k:FK}(hv:At K ρ H0 (qS k.2) v):∀{g:iO} {L:GL},GR K ρ H0 g L->GR K ρ H0 (g++[(k.1,[k.2])]) (L++[(k.1,q,[v])])
 | [],[],_=>⟨rfl,a7.one hv,trivial⟩
 | a::r,b::q,bf=>by
  obtain⟨h1,h2,h3⟩:=bf;exact⟨h1,h2,E4 hv h3⟩
 | [],_::_,h=>h.elim
 | _::_,[],h=>h.elim
theorem F6:∀{L:GL},(L.map (·.1)).Nodup->t∈L->KD (fR L) (Sum.inr t.1)=some (.ref t.2.1)
 | a::r,hn,h=>by
  have hn:=k0 (show (a.1::r.map (·.1)).Nodup from hn);rcases ck h with rfl | h
  .exact JD rfl
  .rw[show fR (a::r)=(Sum.inr a.1,V.ref a.2.1)::fR r from rfl,J0 λe=>hn.1 (by rw[iw e];exact gh h)]
   exact F6 hn.2 h
theorem sJ:∀{L:GL},x∉L.map (·.1)->KD (fR L) (Sum.inr x)=none
 | [],_=>rfl
 | a::r,h=>by
  rw[show fR (a::r)=(Sum.inr a.1,V.ref a.2.1)::fR r from rfl,J0 λe=>h (by rw[<-iw e];exact b0)];exact sJ λq=>h (b7 _ q)
theorem NN(L:GL)(x:Str)(v:V):fR (mV L x v)=fR L:=by
 unfold fR mV;rw[bS];refine ke λt _=>?_
 show (Sum.inr (if t.1=x then (t.1,t.2.1,t.2.2++[v]) else t).1,_)=_
 by_cases e:t.1=x
 .simp[e]
 .simp[e]
structure GS(K:p4)(ρ:List Addr)(H0:Hp)(p:Addr)(g:iO)(H:Hp)(L:GL):Prop where
 kp:∀c u,H0 c=some u->H c=some u
 p0:H0 p=none
 hp:H p=some (.dK (fR L))
 hl:∀t∈L,H t.2.1=some (.lst t.2.2)/\H0 t.2.1=none
 na:(L.map (·.2.1)).Nodup
 nn:(L.map (·.1)).Nodup
 gr:GR K ρ H0 g L
theorem GS.add{p:Addr}{g:iO}{L:GL}(S:GS K ρ H0 p g H L){k:FK}(hv:At K ρ H0 (qS k.2) v){t:Str×Addr×List V}(ht:t∈L)(e:t.1=k.1):GS K ρ H0 p (GQ g k) (upd H t.2.1 (.lst (t.2.2++[v]))) (mV L k.1 v):=by
 have xm:p≠t.2.1:=λz=>by
  have:=(S.hl t ht).1;rw[<-z,S.hp]at this;cases this
 have hk:g.any (λq=>decide (q.1=k.1))=true:=by
  rw[B6];have:k.1∈g.map (·.1):=by rw[WY S.gr,<-e];exact gh ht
  obtain⟨q,hq,eq⟩:=cw this;exact⟨q,hq,dm eq⟩
 have m1:(mV L k.1 v).map (·.2.1)=L.map (·.2.1):=by
  unfold mV;rw[bS];refine ke λa _=>?_
  show (if a.1=k.1 then (a.1,a.2.1,a.2.2++[v]) else a).2.1=_;split<;>rfl
 have m2:(mV L k.1 v).map (·.1)=L.map (·.1):=by
  unfold mV;rw[bS];refine ke λa _=>?_
  show (if a.1=k.1 then (a.1,a.2.1,a.2.2++[v]) else a).1=_;split<;>rfl
 have uq:∀a∈L,a.1=k.1->a=t:=λa ha ea=>by
  obtain⟨i,hi,e1⟩:=nz ha;obtain⟨j,hj,e2⟩:=nz ht;have:i=j:=(List.getElem_inj (h₀:=by simpa using hi) (h₁:=by simpa using hj) S.nn).mp (by simp[e1,e2,ea,e]);subst this;exact e1.symm.trans e2
 have ad:∀a∈L,a.2.1=t.2.1->a=t:=λa ha ea=>by
  obtain⟨i,hi,e1⟩:=nz ha;obtain⟨j,hj,e2⟩:=nz ht;have:i=j:=(List.getElem_inj (h₀:=by simpa using hi) (h₁:=by simpa using hj) S.na).mp (by simp[e1,e2,ea]);subst this;exact e1.symm.trans e2
 refine⟨λc u hc=>?_,S.p0,?_,λa ha=>?_,by rw[m1];exact S.na,by rw[m2];exact S.nn,?_⟩
 .rw[CK λz=>by rw[z,(S.hl t ht).2]at hc;cases hc]
  exact S.kp c u hc
 .rw[CK xm,NN];exact S.hp
 .obtain⟨b,hb,rfl⟩:=cw ha
  by_cases eb:b.1=k.1
  .obtain rfl:=uq b hb eb
   rw[ag eb];exact⟨DP,(S.hl b ht).2⟩
  .rw[ak eb]
   have eL:b.2.1≠t.2.1:=λz=>eb (by rw[ad b hb z];exact e)
   exact⟨by rw[CK eL];exact(S.hl b hb).1,(S.hl b hb).2⟩
 .unfold GQ
  rw[ag hk];exact E5 hv S.gr
theorem GS.new{p:Addr}{g:iO}{L:GL}(S:GS K ρ H0 p g H L){k:FK}(hv:At K ρ H0 (qS k.2) v)(hx:k.1∉L.map (·.1)){q:Addr}(hq:H q=none):
  GS K ρ H0 p (GQ g k) (upd (upd (upd H q (.lst [])) p (.dK (putK (fR L) (Sum.inr k.1) (.ref q)))) q (.lst [v])) (L++[(k.1,q,[v])]):=by
 have ah:H0 q=none:=by
  cases z:H0 q with
  | none=>rfl
  | some u=>rw[S.kp q u z]at hq;cases hq
 have VO:p≠q:=λz=>by rw[<-z,S.hp]at hq;cases hq
 have hk:¬g.any (λq=>decide (q.1=k.1))=true:=λz=>by
  obtain⟨q,hq,eq⟩:=List.any_eq_true.mp z;exact hx (by rw[<-WY S.gr,<-f7 eq];exact gh hq)
 have VQ:putK (fR L) (Sum.inr k.1) (.ref q)=fR (L++[(k.1,q,[v])]):=by
  unfold putK;rw[ak (by rw[RZ,sJ hx];simp)];simp[fR]
 have hn:∀t∈L,t.2.1≠q:=λt ht z=>by
  have:=(S.hl t ht).1;rw[z,hq]at this;cases this
 refine⟨λc u hc=>?_,S.p0,?_,λa ha=>?_,?_,?_,?_⟩
 .have h1:c≠q:=λz=>by rw[z,ah]at hc;cases hc
  have h2:c≠p:=λz=>by rw[z,S.p0]at hc;cases hc
  rw[CK h1,CK h2,CK h1];exact S.kp c u hc
 .rw[CK VO,DP,VQ]
 .rcases cz ha with ha | ha
  .have h2:a.2.1≠p:=λz=>by
    have:=(S.hl a ha).1;rw[z,S.hp]at this;cases this
   rw[CK (hn a ha),CK h2,CK (hn a ha)];exact S.hl a ha
  .rw[eR ha]
   exact⟨DP,ah⟩
 .rw[dt]
  refine List.nodup_append.mpr ⟨S.na,by simp,λa ha b hb=>?_⟩;obtain⟨t,ht,rfl⟩:=cw ha;have:b=q:=by simpa using hb
  rw[this];exact hn t ht
 .rw[dt]
  refine List.nodup_append.mpr ⟨S.nn,by simp,λa ha b hb=>?_⟩;have:b=k.1:=by simpa using hb
  rw[this];exact λz=>hx (z▸ha)
 .unfold GQ
  rw[ak hk];exact E4 hv S.gr
theorem GS.freeze{p:Addr}{Q:VK}:∀(R hE:GL) {H:Hp},(∀c u,H0 c=some u->H c=some u)->H0 p=none->H p=some (.dK (fR (hE++R)))->(∀t∈R,H t.2.1=some (.lst t.2.2)/\H0 t.2.1=none)->(∀t∈hE,(∃o,H t.2.1=some (.bq o (.lst t.2.2)))/\H0 t.2.1=none)->((hE++R).map (·.2.1)).Nodup->
  (∀aa,(∀c u,H0 c=some u->aa c=some u)->(∃o,aa p=some (.bq o (.dK (fR (hE++R)))))->(∀t∈hE++R,∃o,aa t.2.1=some (.bq o (.lst t.2.2)))->Q (.ref p) aa)->vx (R.length+1) Q (.ref p) H
 | [],hE,H,kp,p0,hp,hR,hL,nd,q=>by
  refine⟨p,_,hp,trivial,λo=>?_⟩;refine q _ (λc u hc=>?_) ⟨o,DP⟩ λt ht=>?_
  .rw[CK λz=>by rw[z,p0]at hc;cases hc];exact kp c u hc
  .rw[ue]at ht
   obtain⟨⟨ob,e⟩,_⟩:=hL t ht;exact⟨ob,by rw[CK λz=>by rw[z,hp]at e;cases e];exact e⟩
 | r::R,hE,H,kp,p0,hp,hR,hL,nd,q=>by
  obtain⟨h1,h2⟩:=hR r b0;refine⟨r.2.1,_,h1,trivial,λo=>?_⟩;have e1:hE++r::R=(hE++[r])++R:=by simp
  rw[e1]at hp nd q;have uw:p≠r.2.1:=λz=>by rw[<-z,hp]at h1;cases h1
  have nr:∀t∈R,t.2.1≠r.2.1:=λt ht z=>by
   rw[dt]at nd;exact(List.nodup_append.mp nd).2.2 r.2.1 (gh (hJ _ b0)) t.2.1 (gh ht) z.symm
  refine GS.freeze R (hE++[r]) (λc u hc=>?_) p0 ?_ (λt ht=>?_) (λt ht=>?_) nd q
  .rw[CK λz=>by rw[z,h2]at hc;cases hc];exact kp c u hc
  .rw[CK uw];exact hp
  .obtain⟨a,b⟩:=hR t (b7 _ ht)
   exact⟨by rw[CK (nr t ht)];exact a,b⟩
  .rcases cz ht with ht | ht
   .obtain⟨⟨ob,e⟩,z⟩:=hL t ht
    exact⟨⟨ob,by rw[CK λy=>by rw[y,h1]at e;cases e];exact e⟩,z⟩
   .rw[eR ht]
    exact⟨⟨o,DP⟩,h2⟩
theorem F5(hf:J6 H0 aa):∀{g:iO} {L:GL},GR K ρ H0 g L->(∀t∈L,∃o,aa t.2.1=some (.bq o (.lst t.2.2)))->a7 K ρ aa (g.map λq=>.lst (q.2.map qS)) (L.map λt=>V.ref t.2.1)
 | [],[],_,_=>rfl
 | a::r,b::q,bf,h=>by
  obtain⟨h1,h2,h3⟩:=bf;obtain⟨o,e⟩:=h b b0;exact⟨_,_,rfl,⟨b.2.1,o,b.2.2,rfl,e,h2.dq hf (.refl _)⟩,F5 hf h3 λt ht=>h t (b7 _ ht)⟩
 | [],_::_,h,_=>h.elim
 | _::_,[],h,_=>h.elim
end
def El(K:p4):TS:=vj (yq Em (cV 1)) (vj (Gu (GI K (RV 0)) (GN K 2 (Bb (cV 2) (Bb (cV 3) GO))) (vj (Bo (tB (jH (RV 2) (RV 1))) (uM (RV 1) (RV 2) (Bn vk)) uF) (AU (D6 K "list" jZ (AV (RV 1) (RV 2)) (AW (RV 3) vk))))) (Gs (λ σ H Q=>∃n,RV 1 σ H (vx n Q))))
theorem sI{H0:Hp}{p:Addr}{g:iO}{L:GL}{σ:L2.St}{k:FK}{D:Ends}(S:GS K ρ H0 p g H L)(hv:At K ρ H0 (qS k.2) v)(h1:σ[1]?=some (some (.ref p)))(h2:σ[2]?=some (some (.str k.1)))(h3:σ[3]?=some (some v))(hL:L.length<=i)(hz:∀t∈L,t.2.2.length<=i)(hi:i<1000)(q:∀aa hE,GS K ρ H0 p (GQ g k) aa hE->hE.length<=i+1->(∀t∈hE,t.2.2.length<=i+1)->D.nx σ aa) :
  vj (Bo (tB (jH (RV 2) (RV 1))) (uM (RV 1) (RV 2) (Bn vk)) uF) (AU (D6 K "list" jZ (AV (RV 1) (RV 2)) (AW (RV 3) vk))) D σ H:=by
 have o5:∀n:Nat,n<=1000->n<sizeLine:=λn hn=>by rw[fq];lia
 refine⟨_,h2,_,h1,p,_,rfl,j0.k (k:=Sum.inr k.1) S.hp,?_⟩
 by_cases hx:k.1∈L.map (·.1)
 .obtain⟨t,ht,et⟩:=cw hx
  have Ak:KD (fR L) (Sum.inr k.1)=some (.ref t.2.1):=by rw[<-et];exact F6 S.nn ht
  refine⟨_,rfl,?_⟩;rw[Ak];simp only[Option.isSome_some,Bool.not_true,Bool.false_eq_true,if_false];unfold uF;dsimp only;refine⟨_,h1,_,h2,p,.ref t.2.1,rfl,?_,.inl ⟨rfl,_,.of (S.hl t ht).1⟩,_,h3,t.2.1,t.2.2,v,rfl,rfl,(S.hl t ht).1,o5 _ (by have:=hz t ht;lia),?_⟩
  .rw[<-Ak];exact j0.k (k:=Sum.inr k.1) S.hp
  .refine q _ _ (S.add hv ht et) (by unfold mV;rw[a8];lia) λa ha=>?_
   obtain⟨b,hb,rfl⟩:=cw ha;have:=hz b hb;split
   .rw[gc,oQ];lia
   .lia
 .have Ak:KD (fR L) (Sum.inr k.1)=none:=sJ hx
  refine⟨_,rfl,?_⟩;rw[Ak];simp only[Option.isSome_none,Bool.not_false,if_true];show uM _ _ _ _ σ H;refine⟨eS _,λr hr=>⟨_,h1,_,h2,p,_,rfl,.inl ⟨fR L,Sum.inr k.1,?_,rfl,?_,rfl⟩,?_⟩⟩
  .rw[CK λz=>by rw[<-z,S.hp]at hr;cases hr];exact S.hp
  .unfold fR;rw[a8];exact o5 _ (by lia)
  .have uw:r≠p:=λz=>by rw[z,S.hp]at hr;cases hr
   have e1:upd (upd H r (.lst [])) p (.dK (putK (fR L) (Sum.inr k.1) (.ref r))) r=some (.lst []):=by rw[CK uw,DP]
   refine⟨_,h1,_,h2,p,.ref r,rfl,?_,.inl ⟨rfl,_,.of e1⟩,_,h3,r,[],v,rfl,rfl,e1,o5 _ (eS _),?_⟩
   .have e2:KD (putK (fR L) (Sum.inr k.1) (.ref r)) (Sum.inr k.1)=some (.ref r):=by rw[KI,ag rfl]
    rw[<-e2];exact j0.k (k:=Sum.inr k.1) DP
   .refine q _ _ (S.new hv hx hr) (by rw[gc,oQ];lia) λa ha=>?_
    rcases cz ha with ha | ha
    .have:=hz a ha;lia
    .rw[eR ha]
     show 1<=i+1;lia
theorem yM{E:Ends}{σ:L2.St}(h4:σ.length=4)(h:Y9 C W K (.cons (.ret (.b1 .group (.var 0))) .nil) E σ H):El K E σ H:=by
 obtain⟨aj,m,ρ,o,af,S,M,e,q⟩:=h;have e:((((match aj[0]? with | some (some d)=>some (d,m) | _=>none).bind λz:D×Mem=>de .group z.1 z.2).map λz:D×Mem=>(Out.rt z.1,z.2)).bind λz:Out×Mem=>match z.1 with | .nx σ'=>aI C W .nil σ' z.2 | .rt d=>some (.rt d,z.2))=some (o,af):=e;obtain⟨⟨o1,m1⟩,e1,e⟩:=aT e;obtain⟨⟨d1,m2⟩,e2,e1⟩:=cj e1;cases e1;cases e;obtain⟨⟨d0,m3⟩,e3,e2⟩:=aT e2;split at e3
 .rename_i aaa w9
  cases e3;cases d0 with
  | tup xs=>
   obtain⟨ks,e4,e5⟩:=aT (show ((T6 xs).bind λks=>if ks.length<=1000 then some (JM (ks.foldl GQ []),m) else none)=some (d1,m2) from e2);split at e5
   .rename_i hlen
    cases e5;obtain⟨v0,Wj,a,vs,rfl,hT,as⟩:=S.2 0 _ w9;obtain⟨fs,g1,rfl,g3,g4⟩:=cX e4 as;have sk:fs.length=ks.length:=by rw[<-g1,a8]
    intro p hp;have Jm:∀c u,H c=some u->upd H p (.dK []) c=some u:=λc u hc=>by rw[CK λz=>by rw[z,hp]at hc;cases hc];exact hc
    have zt:∀aa,(∀c u,H c=some u->aa c=some u)->dS K aa a (fs.map λx=>V.ref x.2):=λaa k=>(hT.mono λb ob u z=>k b _ z).sq
    have h0:(σ.set 1 (some (.ref p)))[0]?=some (some (V.ref a)):=by rw[List.getElem?_set_ne (by decide)];exact Wj
    have h1:(σ.set 1 (some (.ref p)))[1]?=some (some (V.ref p)):=List.getElem?_set_self (by lia);refine⟨_,h0,a,rfl,⟨_,zt _ Jm⟩,λi mm σ' aa=>mm+i=fs.length/\σ'.length=4/\σ'[0]?=some (some (V.ref a))/\σ'[1]?=some (some (V.ref p))/\∃L,GS K ρ H p ((ks.take i).foldl GQ []) aa L/\L.length<=i/\∀t∈L,t.2.2.length<=i,⟨fs.length,rfl,by rw[List.length_set];exact h4,h0,h1,[],⟨Jm,hp,DP,λt ht=>(nomatch ht),mq,mq,trivial⟩,a0 _,λt ht=>(nomatch ht)⟩,?_⟩;rintro i mm σ' aa ⟨hm,xg,s0,s1,L,G,hL,hz⟩
    by_cases hi:i<fs.length
    .have hx:(fs.map λx=>V.ref x.2)[i]?=some (.ref fs[i].2):=by rw[gi,fo hi];rfl
     refine .inr ⟨⟨_,_,zt _ G.kp,hx⟩,λij H2=>fs.length-(i+1)+(i+1)=fs.length/\ij.length=4/\ij[0]?=some (some (V.ref a))/\ij[1]?=some (some (V.ref p))/\∃L,GS K ρ H p ((ks.take (i+1)).foldl GQ []) H2 L/\L.length<=i+1/\∀t∈L,t.2.2.length<=i+1,λij H2 z=>⟨_,by lia,z⟩,λx H2 y=>?_⟩;obtain⟨rfl,y⟩:=y;have ex:=(y _ (zt _ G.kp)).symm.trans hx;cases ex;have U2:fs[i]∈fs:=List.getElem_mem hi;obtain⟨b,us,eb,hf,v1,r1,rfl,a1,v2,r2,rfl,a2,a3⟩:=g4 _ U2;cases eb;cases (show v1=.str fs[i].1.1 from a1);cases (show r2=[] from a3);refine⟨_,_,rfl,(hf.mono λb ob u z=>G.kp b _ z).sq,rfl,_,_,rfl,_,_,rfl,rfl,?_⟩;have Vk:ks[i]?=some fs[i].1:=by rw[<-g1,gi,fo hi];rfl
     have We:(ks.take (i+1)).foldl GQ []=GQ ((ks.take i).foldl GQ []) fs[i].1:=by rw[List.take_succ,Vk,List.foldl_append];rfl
     refine sI (k:=fs[i].1) G a2 ?_ ?_ ?_ hL hz (by lia) λaa hE SU l1 l2=>⟨by lia,?_,?_,?_,hE,by rw[We];exact SU,l1,l2⟩
     .rw[List.getElem?_set_ne (by decide),List.getElem?_set_ne (by decide)];exact s1
     .rw[List.getElem?_set_ne (by decide)];exact List.getElem?_set_self (by lia)
     .exact List.getElem?_set_self (by rw[List.length_set];lia)
     .rw[List.length_set,List.length_set];exact xg
     .rw[List.getElem?_set_ne (by decide),List.getElem?_set_ne (by decide)];exact s0
     .rw[List.getElem?_set_ne (by decide),List.getElem?_set_ne (by decide)];exact s1
    .have aas:i=fs.length:=by lia
     refine .inl ⟨⟨_,zt _ G.kp,by rw[a8];lia⟩,L.length+1,_,s1,?_⟩;rw[rV (by lia)]at G;refine GS.freeze L [] G.kp G.p0 G.hp G.hl (λt ht=>(nomatch ht)) G.na λH2 k2 ⟨ob,qq⟩ nS=>?_
     have Vd:Go ρ ρ H H2:=⟨λb u hb _=>k2 b u hb,List.prefix_rfl,λ_ z=>.inl z⟩
     have zy:J6 H H2:=λb ob u z=>k2 b _ z
     have hM:bp K ρ m H2:=M.keep zy λb hb=>by
      obtain⟨u,hu,_⟩:=M.there hb;rw[hu];exact k2 b u hu
     refine q H2 ρ Vd hM _ ⟨p,ob,fR L,rfl,qq,?_,?_⟩
     .unfold fR
      rw[bS];have:=WY G.gr;have e6:((ks.foldl GQ []).map λq=>(Sum.inr q.1:Key))=((ks.foldl GQ []).map (·.1)).map Sum.inr:=by rw[bS];rfl
      rw[e6,this,bS];rfl
     .have:=F5 zy G.gr nS
      unfold fR;rw[bS];exact this
   .cases e5
  | _=>cases e2
 .cases e3
theorem K2(h:eP X Kr (El X.K))(h4:X.N.length=4):eP X Kr (Y9 C W X.K (.cons (.ret (.b1 .group (.var 0))) .nil)):=λpi s σ H D I q=>h pi s σ H D I (yM (I.len.trans h4) q)
end WL
namespace PySem
namespace F
theorem X0:typeLookup (.type "list_reverseiterator") "__len__" = pure none:=by rw[ji,jj];kernel_rfl
theorem DU:typeLookup (.type "list_reverseiterator") "__length_hint__" = pure (some (.builtin "list_reverseiterator.__length_hint__")):=by rw[ji,jj];kernel_rfl
theorem X1:isSubtype (.type "list_reverseiterator") (.type "list_reverseiterator")=pure true:=by rw[isSubtype_type];kernel_rfl
end F
section
variable{l:Addr}
theorem DU(hT:s.TypeIs (.ref I) "list_reverseiterator"){Q:Bool->Shared->Prop}(h:Q false s):wpAny (model prog w) A (Builtin.List.listLengthHint (.ref I)) Q E s:=by
 unfold Builtin.List.listLengthHint;refine ae (wpAny_specialOf hT F.X0 ?_);refine ae (wpAny_specialOf hT F.DU ?_);generalize qm:("list_reverseiterator.__length_hint__" : String)=xB
 wp_delta
 rw[show splitId xB=some ("list_reverseiterator","__length_hint__") from by subst qm;decide +kernel];subst qm;refine ae (wpAny_isInstance (T:="list_reverseiterator") (b:=true) hT F.X1 ?_);refine wpAny_ite_split (λfg=>absurd fg (by decide)) (λ_=>?_);refine wpAny_ite_split (λ_=>?_) (λfg=>absurd (by decide +kernel) fg);exact wpAny_ite_split (λfg=>absurd fg (by decide +kernel)) (λ_=>ai h)
theorem rM(hh:A.handled=none)(hI:s.heap.IsRevIter I l ((items.size:Int)-1))(hl:s.heap.IsList l items)(hz:items.size<=sizeLine){R:List Value->Shared->Prop}(h:∀(h':Heap) (tk:Nat) (acc:Array Value),(∀b o,b≠I->s.heap.get? b=some o->h'.get? b=some o)->acc.toList=items.toList.reverse->R acc.toList { s with heap:=h',toks:=tk }) :
  wpAny (model prog w) A (collect (.ref I)) R E s:=by
 have HZ:I<s.heap.objs.size:=let ⟨_,e,_⟩:=hI;bh e
 have Vr:l<s.heap.objs.size:=let ⟨_,e,_⟩:=hl;bh e
 have Ab:l≠I:=λz=>by
  obtain⟨o,e,c,d⟩:=hI;obtain⟨b5,aE,df,_⟩:=hl;rw[z,e]at aE;cases aE;rw[c]at df;exact absurd df (by decide)
 unfold collect;refine ae (wpAny_runValue (jo PyProof.Rows.entry_proto_collect' ?_));rw[kj PySem.F.plain_proto_collect _];show wpAny _ A.in1 (newList [] >>= λl=>again (.builtin "list.__iadd__" ⟨[l,.ref I],[]⟩)) _ _ s;refine ae (jr ?_);refine ai ⟨plainId_quiet PySem.F.plain_list_iadd _,jo PyProof.Rows.entry_list_iadd' ?_⟩;rw[kj PySem.F.plain_list_iadd _];show wpAny _ A.in1 (Builtin.List.listExtendWith (.ref s.heap.objs.size) (.ref I) (.ref s.heap.objs.size)) _ _ _;generalize hH:s.heap.push { cls:=.type "list",data:=.seq ([]:List Value).toArray }=H1;have hL:H1.get? s.heap.objs.size=some { cls:=.type "list",data:=.seq #[] }:=by rw[<-hH];exact dj _ rfl
 have k1:∀b o,s.heap.get? b=some o->H1.get? b=some o:=λb o e=>by rw[<-hH];exact dg _ e
 have kl:H1.IsRevIter I l ((items.size:Int)-1):=hI.at λo e=>k1 _ _ e
 have qo:H1.IsList l items:=hl.at λo e=>k1 _ _ e
 have W:=Walks.listRev (prog:=prog) (w:=w) (A:=A.in1) (by simp[hh]) I l Ab items;have st:(0:Nat)<=items.size/\H1.IsRevIter I l ((items.size:Int)-1-((0:Nat):Int))/\H1.IsList l items:=⟨eS _,by simpa using kl,qo⟩
 unfold Builtin.List.listExtendWith;refine ae (wpAny_typeOf (T:="list_reverseiterator") kl.typeIs ?_);rw[ak (by simp[Builtin.List.listSameRef,iS HZ])];refine ae (W.self 0 { s with heap:=H1 } _ _ st ?_);refine ae (f6 (DU (s:={ s with heap:=H1 }) kl.typeIs ?_));refine wpAny_ite_split (λq=>absurd q (by decide)) (λ_=>ai ⟨plainId_quiet PySem.F.plain_extend_loop _,?_⟩);have uj:s.heap.objs.size∉[I,l]:=λz=>by
  rcases ck z with z | z
  .exact absurd HZ (by rw[<-z];exact hZ _)
  .exact absurd Vr (by rw[<-eR z];exact hZ _)
 refine codeAny_extend_loopS W.toS hz _ uj _ items.size 0 _ #[] 0 rfl (eS _) st hL (ItemsOf.nil _) λs' gT df hm lh gq=>?_
 rw[Moved.eq_with hm];show wpAny _ A (load s.heap.objs.size >>= _) _ _ _;refine ae (wpAny_load lh (ai (h s'.heap s'.toks gT (λb o hb e=>?_) ?_)))
 .have Cp:b<s.heap.objs.size:=bh e
  refine hm.heap b o (λz=>?_) (k1 b o e);rcases ck z with z | z
  .exact absurd z (cm Cp)
  .exact hb (eR z)
 .apply List.ext_getElem?
  intro i;have hn:=gq.1
  by_cases hi:i<gT.size
  .have e:gT[i]?=some gT[i]:=Array.getElem?_eq_getElem hi
   have e2:items[items.size-1-i]?=some gT[i]:=gq.2 i _ e;rw[Array.getElem?_toList,e,List.getElem?_reverse (by rw[eK];lia),eK,Array.getElem?_toList,e2]
  .rw[List.getElem?_eq_none (by rw[eK];lia),List.getElem?_eq_none (by rw[List.length_reverse,eK];lia)]
theorem MG(hh:A.handled=none)(hI:s.heap.IsRevIter I l ((items.size:Int)-1))(hl:s.heap.IsList l items)(hz:items.size<=sizeLine)(h:∀(h':Heap) (tk:Nat),(∀b o,b≠I->s.heap.get? b=some o->h'.get? b=some o)->Q (.ref h'.objs.size) { s with heap:=h'.push { cls:=.type "tuple",data:=.seq items.reverse },toks:=tk }) :
  wpAny (model prog w) A (call (.type "tuple") [.ref I]) Q E s:=by
 have cd:codeAny (model prog w) A.in1 (.call (.builtin "tuple.__new__") ⟨[.type "tuple",.ref I],[]⟩) (wants (λobj bc=>bc.TypeIs obj "tuple"/\Q obj bc) E) s:=by
  refine codeAny_of_tree ?_;show wpAny _ A.in1.in1 (do checkBuiltinCall "tuple.__new__" ⟨[.type "tuple",.ref I],[]⟩;again (.builtin "tuple.__new__" ⟨[.type "tuple",.ref I],[]⟩)) _ _ s;refine ae (wpAny_of_eq (F.newCall_tuple_1 _) (ai ⟨plainId_quiet F.plain_tuple_new _,jo F.entry_tuple_new ?_⟩));rw[kj F.plain_tuple_new _];have jl:=sub_tuple_self;have aat:=init_tuple_lookup;have aaz:=madeHere_tuple;have qi:=hI.typeIs;have Vf:A.in1.in1.handled=none:=by simp[hh]
  wp_walk using wpAny_typeOf qi,rM Vf hI hl hz
  intro h' tk acc hk gq;show wpAny _ _ (Builtin.Tuple.tupleExact acc.toList.toArray >>= λv=>ret v) _ _ _;unfold Builtin.Tuple.tupleExact;refine ae (jr ?_ (by show acc.toList.toArray.size<=sizeLine;rw[dv,gq,List.length_reverse,eK];exact hz));refine ai ?_;have e:acc.toList.toArray=items.reverse:=by rw[gq];exact Array.ext' (by simp)
  rw[e];exact⟨⟨_,dj _ rfl,rfl⟩,h h' tk hk⟩
 refine callType_codes (Q₁:=λobj bc=>bc.TypeIs obj "tuple"/\Q obj bc) F.called_tuple (F.typeCall_tuple_1 _) F.entry_object_init cd λobj bc h₁=>?_
 exact⟨h₁.1,F.args_object_init_2 obj _,object_init_meets F.called_tuple.init.lookup F.called_tuple.made (by decide) prog w A.in1 _ bc ⟨h₁.1,rfl,h₁.2⟩⟩
end
end PySem
namespace L2
open PySem PySem.Spec PyProof.Rows
theorem gO:∀{xs:List V} {us:List Value},Vals xs us->Vals xs.reverse us.reverse
 | _,_,.nil=>.nil
 | _,_,.cons r t=>by
  rw[List.reverse_cons,List.reverse_cons];exact(gO t).append (.cons r .nil)
def jY(K:p4)(vs:List V)(H1:Hp)(Q:VK):Prop:=∃a xs,vs=[V.ref a]/\b9 K H1 a xs/\∀l o,H1 l=none->o.cls=.type "tuple"->o.dict=none->Q (.ref l) (upd H1 l (.bq o (.tup xs.reverse)))
theorem xW(hc:X.calm=true)(iz:Gl X "tuple")(fh:X.mg "tuple" = none)(ju:Gl X "reversed")(jx:X.mg "reversed" = none)(he:PE X e te)(dh:starEach [Expr.Call (.Name "reversed" p2) [e] [] q2] X.env=[(false,eval (.Call (.Name "reversed" p2) [e] [] q2) X.env)]:=by rfl)(dC:starEach [e] X.env=[(false,eval e X.env)]:=by rfl) :
  PE X (.Call (.Name "tuple" p1) [.Call (.Name "reversed" p2) [e] [] q2] [] q1) (λ σ H Q=>te σ H λx H1=>jY X.K [x] H1 Q):=by
 intro pi s σ H Q I h;refine Call_ (LQ I iz fh boot_tuple (PyProof.Rows.callWith_type1 ?_ dh rfl));have inner:wpAny (model X.prog X.w) X.A (eval (.Call (.Name "reversed" p2) [e] [] q2) X.env)
   (λv s1=>∃a xs its r H1,v=.ref r/\Inv X pi σ H1 s1/\Vals xs its/\s1.heap.IsList a its.toArray/\xs.length<=sizeLine/\s1.heap.IsRevIter r a ((its.toArray.size:Int)-1)/\PL X pi H1 r/\∀l o,H1 l=none->o.cls=.type "tuple"->o.dict=none->Q (.ref l) (upd H1 l (.bq o (.tup xs.reverse)))) X.xe s:=by
  refine Call_ (LQ I ju jx boot_reversed (PyProof.Rows.callWith_type1 (a9 (J7 he JR dC q2 pi s σ H (λvs H1=>jY X.K vs H1 Q) I ?_) λus s1 ⟨vs,H1,I1,r1,q1⟩=>?_) dC rfl))
  .exact h
  .obtain⟨a,xs,rfl,hq,q⟩:=q1
   obtain⟨u,rfl,ru⟩:=r1.one;cases ru;obtain⟨its,rv,pl,hz⟩:=I1.list hq;refine call_reversed_list pl.isList ?_;exact⟨a,xs,its,_,H1,rfl,I1.kept (t':=s1.toks) λb o e=>dg _ e,rv,pl.isList.at λo e=>dg _ e,hz,⟨_,dj _ rfl,rfl,rfl⟩,I1.nK (a0 _) (I1.aS.fresh (a0 _)),q⟩
 rw[dh];refine oI (a9 inner λv s1 ah=>?_);obtain⟨a,xs,its,r,H1,ev,I1,rv,hl,hz,hr,hf,q⟩:=ah;refine qe ?_;subst ev;have CO:=rv.length;refine MG (I1.ok.hd hc) hr hl (by rw[dv];lia) λh' tk hk=>?_
 have VV:Vals xs.reverse its.reverse:=gO rv;obtain⟨f0,f1,f2,f3,f4,f5⟩:=hf;have I2:Inv X pi σ H1 { s1 with heap:=h',toks:=tk }:=I1.turned (t':=tk) (λb o hb e=>hk b o hb e) f0 f1 f3 f4 f5;have ea:its.toArray.reverse=its.reverse.toArray:=by simp
 rw[ea];have I3:Inv X pi σ (upd H1 h'.objs.size (.bq { cls:=.type "tuple",data:=.seq its.reverse.toArray } (.tup xs.reverse))) { s1 with heap:=h'.push { cls:=.type "tuple",data:=.seq its.reverse.toArray },toks:=tk }:=
  I2.laid (t':=tk) (λb o e=>dg _ e) (a0 _) ⟨dj _ rfl,show dw X.prog X.w _ _ _ (.tup xs.reverse) from ⟨by rw[List.length_reverse];exact hz,its.reverse,VV,IsTup.new _ _⟩⟩
 exact⟨.ref h'.objs.size,_,I3,rfl,q _ _ (I2.aS.fresh (a0 _)) rfl rfl⟩
end L2
namespace L2
open PySem PySem.Spec PyProof.Rows
theorem NF{vs:List (Key×Value)}(h:KV kvs vs):∀{i:Nat} {p:Key×V},kvs[i]?=some p->∃v,vs[i]?=some (p.1,v)/\RelV p.2 v:=by
 induction h with
 | nil=>intro i p e;simp at e
 | cons a b ih=>
  intro i p e;cases i with
  | zero=>
   simp only[List.getElem?_cons_zero,Option.some.injEq]at e;subst e
   rename_i x y _ _
   exact⟨y.2,congrArg some (Prod.ext a.1.symm rfl),a.2⟩
  | succ i=>exact ih (by simpa using e)
def ze(H:Hp)(fs:List ((Str×Int)×Addr)):Prop:=∀x∈fs,∃o,H x.2=some (.bq o (.tup [.str x.1.1,.int x.1.2]))/\o.cls=.type "tuple"/\o.dict=none
theorem gC{pi:List (Addr×Obj)}{σ:St}{s:Shared}:∀{fs:List ((Str×Int)×Addr)} {H:Hp},(∀x∈fs,∃t1 t2,s.heap.get? x.2=some { cls:=.type "tuple",data:=.seq #[.str x.1.1 t1,.int x.1.2 t2] })->Inv X pi σ H s->(fs.map (·.2)).Nodup->(∀x∈fs,PL X pi H x.2)->∃aa,Inv X pi σ aa s/\gS H aa/\ze aa fs
 | [],H,_,I,_,_=>⟨H,I,λ_ _ h=>h,λ_ h=>nomatch h⟩
 | x::r,H,hp,I,hn,hf=>by
  obtain⟨t1,t2,e⟩:=hp x b0;have lu:=k0 hn;have h0:H x.2=none:=(hf x b0).1;have I1:Inv X pi σ (upd H x.2 (.bq { cls:=.type "tuple",data:=.seq #[.str x.1.1 t1,.int x.1.2 t2] } (.tup [.str x.1.1,.int x.1.2]))) s:=Inv.tracked I (hf x b0) ⟨e,show dw X.prog X.w _ _ _ (.tup [.str x.1.1,.int x.1.2]) from ⟨by rw[fq];exact(show (2:Nat)<=16777216 by decide),[.str x.1.1 t1,.int x.1.2 t2],.cons ⟨t1,rfl⟩ (.cons ⟨t2,rfl⟩ .nil),_,e,rfl,0,rfl⟩⟩;obtain⟨aa,I2,s2,ti⟩:=gC (λy hy=>hp y (b7 _ hy)) I1 lu.2 (λb hb=>by
   obtain⟨g0,g1⟩:=hf b (b7 _ hb);have eL:b.2≠x.2:=λz=>lu.1 (List.mem_map.mpr ⟨b,hb,z⟩)
   exact⟨by rw[CK eL];exact g0,g1⟩)
  refine⟨aa,I2,λc u hc=>s2 c u (by rw[CK (G4 hc h0)];exact hc),λy hy=>?_⟩;rcases ck hy with rfl | hy
  .exact⟨_,s2 _ _ DP,rfl,rfl⟩
  .exact ti y hy
def L5(td:TE):TE:=λ σ H Q=>td σ H λx H1=>∃a kvs ps,x=.ref a/\Rd H1 a (.dK kvs)/\kvs=ps.map (λp:Str×Int=>((Sum.inr p.1:Key),V.int p.2))/\ps.length<=4/\(ps.map (·.1)).Nodup/\
 ∀(H2:Hp) (fs:List ((Str×Int)×Addr)),gS H1 H2->fs.map (·.1)=ps->ze H2 fs->mW cH fs H2 Q
theorem xX(hc:X.calm=true)(iz:Gl X "sorted")(fh:X.mg "sorted" = none)(he:PE X e td)(ia:attributeBase e "items" X.env (eval e X.env)=eval e X.env:=by rfl)(iA:(apos.endLine==b8.line)=true:=by rfl)(dh:starEach [Expr.Call (.Attribute e "items" apos) [] [] b8] X.env=[(false,eval (.Call (.Attribute e "items" apos) [] [] b8) X.env)]:=by rfl) :
  PE X (.Call (.Name "sorted" p1) [.Call (.Attribute e "items" apos) [] [] b8] [] q1) (L5 td):=by
 intro pi s σ H Q I h;refine Call_ (LQ I iz fh boot_sorted (PyProof.Rows.callWith_builtin1 ?_ dh rfl));rw[dh];have inner:wpAny (model X.prog X.w) X.A (eval (.Call (.Attribute e "items" apos) [] [] b8) X.env) (λv s1=>∃(r a:Addr) (kvs:List (Key×V)) (ps:List (Str×Int)) (H1:Hp),v=.ref r/\Inv X pi σ H1 s1/\s1.heap.IsItemsView r a/\Rd H1 a (.dK kvs)/\kvs=ps.map (λp:Str×Int=>((Sum.inr p.1:Key),V.int p.2))/\ps.length<=4/\(ps.map (·.1)).Nodup/\
   ∀(H2:Hp) (fs:List ((Str×Int)×Addr)),gS H1 H2->fs.map (·.1)=ps->ze H2 fs->mW cH fs H2 Q) X.xe s:=by
  refine wpAny_Call_method0_late ia iA (a9 (he pi s σ H _ I h) λu s1 ah=>?_);obtain⟨x,H1,I1,rx,a,kvs,ps,ex,ea,ek,h4,hn,q⟩:=ah;subst ex;obtain rfl:u=Value.ref a:=rx;obtain⟨t1,t2,lo⟩:=sE I1 (.inl ⟨kvs,ea⟩);obtain⟨_,_,vs,rel,dd⟩:=T7 I1.aS ea;refine⟨"dict","dict.items",PySem.F.plainAttrs_dict,PySem.F.slot_dict_items,PySem.F.type_dict_items,t1,t2,Calls.callWith_builtin rfl (PySem.evalArgs_none ?_)⟩;refine call_meetsIn PySem.F.slot_dict_items dd.typeIs PySem.F.entry_dict_items (PySem.F.args_dict_items_1 _) (meets_dict_items (CZ X.prog X.w) a lo) ⟨⟨vs,dd⟩,?_⟩;exact⟨_,a,kvs,ps,H1,rfl,I1.kept (t':=s1.toks) λb o e=>dg _ e,⟨_,dj _ rfl,rfl,rfl⟩,ea,ek,h4,hn,q⟩
 refine oI (a9 inner λv s1 ah=>?_);obtain⟨r,a,kvs,ps,H1,ev,I1,hv,ea,ek,h4,hn,q⟩:=ah;refine qe ?_;subst ev;obtain⟨z,_,ws,rel,dd⟩:=T7 I1.aS ea;obtain⟨ep,dat⟩:=dd.dictAt;have xw:ws.length=ps.length:=by rw[<-rel.length,ek,a8]
 refine wu kind_sorted plain_sorted entry_sorted (args_sorted1 _) ?_;unfold Builtin.«sorted»;refine ae (m:=checkCount "sorted" 1 1 _) (ai ?_);refine ae (PySem.W.kdx_collect (A:=X.A.in1) (I1.ok.hd hc) hv dat (by rw[<-rel.length];exact z) λh1 tk as ko Uz hG=>?_);have I2:Inv X pi σ H1 { s1 with heap:=h1,toks:=tk }:=I1.kept (t':=tk) ko;have cE:as.Nodup:=hG.rise.imp λq=>cm q
 have uw:∀x∈ps.zip as,∃t1 t2,h1.get? x.2=some { cls:=.type "tuple",data:=.seq #[.str x.1.1 t1,.int x.1.2 t2] }:=λw hw=>by
  obtain⟨j,hj⟩:=List.mem_iff_getElem?.mp hw;obtain⟨hp,ha⟩:=List.getElem?_zip_eq_some.mp hj;obtain⟨key,k,x,e1,e2,e3⟩:=hG.pairs j w.2 ha;obtain⟨y,hy⟩:=NF rel (i:=j) (p:=(Sum.inr w.1.1,V.int w.1.2)) (by rw[ek,gi,hp];rfl);obtain⟨Jh,xy⟩:=hy;rw[e1]at Jh;cases Jh;have hk:JV (Sum.inr w.1.1) key=true:=e2;obtain⟨t2,rfl⟩:=(show ∃t,x=Value.int w.1.2 t from xy)
  cases key<;>first | (cases hk;done) | skip
  simp[JV,Value.isStrOf]at hk;subst hk;exact⟨_,t2,e3⟩
 have z1:(ps.zip as).map (·.1)=ps:=List.map_fst_zip (by lia);have z2:(ps.zip as).map (·.2)=as:=List.map_snd_zip (by lia);have z3:as.map Value.ref=(ps.zip as).map λx=>Value.ref x.2:=(congrArg (List.map Value.ref) z2.symm).trans bS
 obtain⟨H2,I3,sub,ti⟩:=gC (s:={ s1 with heap:=h1,toks:=tk }) uw I2 (by rw[z2];exact cE) (λb hb=>by
  have hb:=hG.above b.2 (by rw[<-z2];exact gh hb);exact I1.nK (ml hb) (I1.aS.fresh (ml hb)))
 refine ae (ug ?_ (by rw[a8,Uz,xw,fq];lia));rw[z3];refine ae (f6 (ff (nJ (s:={ s1 with heap:=h1,toks:=tk }) (Q:=Q) I3 (by rw[List.length_zip];lia) ⟨by rw[z1];exact JI hn,λx hx=>?_⟩ (q H2 _ sub z1 ti)) (λ_ s' x=>?_) λ_ _ e=>e))
 .obtain⟨t1,t2,e⟩:=uw x hx
  exact⟨t1,t2,_,e,rfl,_,rfl⟩
 .exact ai ⟨_,rfl,x⟩
end L2
namespace WL
open PySem PySem.Spec PyProof.Rows L2
theorem u5{α β:Type}:∀(a:List α) (b:List β),((a.zip b).map (·.1)).Sublist a
 | [],_=>by simp
 | _::_,[]=>by simp
 | x::a,y::b=>(u5 a b).cons₂ x
theorem O0{fs:List ((Str×Int)×Addr)}(h:ze H fs){x:(Str×Int)×Addr}(hx:x∈fs):At K ρ H (K4 x.1) (.ref x.2):=
 let ⟨o,e,c,d⟩:=h x hx;⟨x.2,_,rfl,⟨o,c,d,.inl e⟩,_,_,rfl,rfl,_,_,rfl,rfl,rfl⟩
theorem zV:∀{ks:List Key} {ds:List D} {kvs:List (Key×V)} {ss:List Str} {ns:List Int},kvs.map (·.1)=ks->a7 K ρ H ds (kvs.map (·.2))->strsOf (ks.map de.kD)=some ss->intsOf ds=some ns->kvs=(ss.zip ns).map λp:Str×Int=>((Sum.inr p.1:Key),V.int p.2)
 | [],ds,[],ss,ns,_,a,e1,e2=>by
  cases e1;simp
 | k::ks,[],kv::kvs,ss,ns,_,a,e1,e2=>by cases (show _=[] from a)
 | k::ks,d::ds,kv::kvs,ss,ns,h,bf,e1,e2=>by
  obtain⟨v,r,e,av,ar⟩:=bf;cases e;rw[cn,List.cons.injEq]at h;obtain⟨h1,h2⟩:=h;cases k with
  | inl i=>cases e1
  | inr x=>
   obtain⟨gE,e3,rfl⟩:=cj (show (strsOf (ks.map de.kD)).map (x::·)=some ss from e1);cases d with
   | int n=>
    obtain⟨sQ,e4,rfl⟩:=cj (show (intsOf ds).map (n::·)=some ns from e2);rw[zV h2 ar e3 e4];obtain⟨a,b⟩:=kv;cases (show a=Sum.inr x from h1);cases (show b=V.int n from av);rfl
   | _=>cases e2
 | [],_,_::_,_,_,h,_,_,_=>by cases h
 | _::_,_,[],_,_,h,_,_,_=>by cases h
section
variable{a:Expr}{q2:Pos}
theorem xR(ha:PE X a (tD C X.K pa))(hc:X.calm=true:=by kernel_rfl)(iz:Gl X "tuple":=by kernel_rfl)(fh:X.mg "tuple" = none:=by assumption)(ju:Gl X "reversed":=by kernel_rfl)(jx:X.mg "reversed" = none:=by assumption)(dh:starEach [Expr.Call (.Name "reversed" p2) [a] [] q2] X.env=[(false,eval (.Call (.Name "reversed" p2) [a] [] q2) X.env)]:=by kernel_rfl)(dC:starEach [a] X.env=[(false,eval a X.env)]:=by kernel_rfl):
  PE X (.Call (.Name "tuple" p1) [.Call (.Name "reversed" p2) [a] [] q2] [] q1) (tD C X.K (.b1 .AM pa)):=
 bO (r:=λx H1 Q=>jY X.K [x] H1 Q) (f:=de .AM) (xW hc iz fh ju jx ha dh dC) (by
  intro ρ m af H dx d x Q M ax e q;obtain⟨xs,e1,e⟩:=aT (show ((G5 dx m).bind λxs=>if xs.length<=1000 then some (D.tup xs.reverse,m) else none)=some (d,af) from e);split at e
  .cases e
   obtain⟨p,vs,rfl,hq,as⟩:=J8 M ax e1;exact⟨p,vs,rfl,hq,λl o hl dA hd=>.of (q.tup M as.rev hl dA hd)⟩
  .cases e) λ_ _=>rfl
theorem nR(ha:PE X a (tD C X.K pa))(mu:Bool:=false)(hc:X.calm=true:=by kernel_rfl)(iz:Gl X "sorted":=by kernel_rfl)(fh:X.mg "sorted" = none:=by assumption)(ju:Gl X "set":=by kernel_rfl)(jx:X.mg "set" = none:=by assumption)(dh:starEach [Expr.Call (.Name "set" p2) [a] [] q2] X.env=[(false,eval (.Call (.Name "set" p2) [a] [] q2) X.env)]:=by kernel_rfl)(dC:starEach [a] X.env=[(false,eval a X.env)]:=by kernel_rfl):
  PE X (.Call (.Name "sorted" p1) [.Call (.Name "set" p2) [a] [] q2] [] q1) (tD C X.K (.b1 (.yi mu) pa)):=
 bO (r:=λx H1 Q=>bV false X.K [x] H1 Q) (f:=de (.yi mu)) (kY hc iz fh ju jx ha dh dC) (by
  intro ρ m af H dx d x Q M ax e q;obtain⟨xs,e1,e⟩:=aT (show ((G5 dx m).bind λxs=>(intsOf xs).bind λns=>if ns.length<=4000/\ns.all (λn=>decide (0<=n/\n<=2))=true then some (bw mu ((([0,1,2]:List Int).filter λv=>decide (v∈ns)).map .int) m) else none)=some (d,af) from e);obtain⟨ns,e2,e⟩:=aT e;split at e
  .rename_i h
   have aE:=cq e;obtain⟨p,vs,rfl,hq,as⟩:=J8 M ax e1;cases (eF e2 as).1;have inj:∀a b:Int,(Sum.inl a:Key)=.inl b->a=b:=λa b=>Sum.inl.inj
   have hr:∀n∈ns,n∈([0,1,2]:List Int):=λn hn=>by
    have:=f7 (k6 h.2 n hn);simp;lia
   have hk:∀x∈ns.map (Sum.inl:Int->Key),x∈ZV:=λx hx=>by obtain⟨y,hy,rfl⟩:=cw hx;exact gh (f:=(Sum.inl:Int->Key)) (hr y hy)
   refine⟨p,ns.map .inl,rfl,by rw[bS];exact hq,by rw[a8];exact h.1,λx hx=>⟨by obtain⟨y,_,rfl⟩:=cw hx;rfl,.inr (hk x hx)⟩,λys hn hm=>?_,λfA ks hp hn hm hs=>?_⟩
   .exact ri (hn.length_le_of_subset (l₂:=ZV) λy hy=>hk y ((hm y).mp hy)) (by decide)
   .obtain⟨sQ,rfl,hs⟩:=hs
    have ID:=Qd inj hm;have es:sQ=([0,1,2]:List Int).filter λv=>decide (v∈ns):=by
     refine List.Perm.eq_of_pairwise (le:=λa b:Int=>a<=b) (λa b _ _ h1 h2=>Int.le_antisymm h1 h2) hs (List.Pairwise.filter _ (by decide)) ((zq (RF hn) (List.Pairwise.filter _ (by decide))).mpr λy=>?_);rw[ID,List.mem_filter];exact⟨λq=>⟨hr y q,dm q⟩,λq=>f7 q.2⟩
    subst es;have cg:en X.K ρ H (bw mu ((([0,1,2]:List Int).filter λv=>decide (v∈ns)).map .int) m).1 (bw mu ((([0,1,2]:List Int).filter λv=>decide (v∈ns)).map .int) m).2 Q:=by rw[aE];exact q
    rw[bS];exact cg.lst M (.ints _) hp
  .cases e) λ_ _=>rfl
theorem rG(ha:PE X a (tD C X.K pa))(mu:Bool:=false)(hc:X.calm=true:=by kernel_rfl)(iz:Gl X "sorted":=by kernel_rfl)(fh:X.mg "sorted" = none:=by assumption)(ia:attributeBase a "items" X.env (eval a X.env)=eval a X.env:=by kernel_rfl)(iA:(apos.endLine==b8.line)=true:=by kernel_rfl)(dh:starEach [Expr.Call (.Attribute a "items" apos) [] [] b8] X.env=[(false,eval (.Call (.Attribute a "items" apos) [] [] b8) X.env)]:=by kernel_rfl):
  PE X (.Call (.Name "sorted" p1) [.Call (.Attribute a "items" apos) [] [] b8] [] q1) (tD C X.K (.b1 (.D3 mu) pa)):=
 (xX hc iz fh ha ia iA dh).qx λ σ H Q ah=>by
 obtain⟨aj,m,ρ,d,af,S,M,e,q⟩:=ah;obtain⟨⟨x,m1⟩,e1,e⟩:=aT e;refine⟨aj,m,ρ,x,m1,S,M,e1,λv H1 az g1 M1 A1=>?_⟩;obtain⟨⟨ks,ds⟩,e0,e⟩:=aT (show ((HN x m1).bind λz=>(strsOf (z.1.map de.kD)).bind λss=>(intsOf z.2).bind λns=>if ss.length<=4/\ss.Nodup then some (bw mu ((JH (ss.zip ns)).map K4) m1) else none)=some (d,af) from e);obtain⟨ss,e2,e⟩:=aT e;obtain⟨ns,e3,e⟩:=aT e;split at e
 case isFalse=>cases e
 rename_i UP
 have aE:=cq e;obtain⟨p,kvs,rfl,hr,hk,as⟩:=T8 M1 A1 e0;have ek:=zV hk as e2 e3;have hz:(ss.zip ns).length<=4:=by rw[List.length_zip];lia
 have cE:((ss.zip ns).map (·.1)).Nodup:=(u5 ss ns).nodup UP.2;refine⟨p,kvs,ss.zip ns,rfl,hr,ek,hz,cE,λH2 fs sub ef ti l ys hl hp hs=>?_⟩;rw[<-ef]at aE cE;have cg:en X.K ρ H (bw mu ((JH (fs.map (·.1))).map K4) m1).1 (bw mu ((JH (fs.map (·.1))).map K4) m1).2 Q:=by rw[aE];exact q
 refine(cg.go (g1.trans (gS.go sub az))).lst (gS.mem sub M1) ?_ hl;rw[<-gJ cE hp hs,bS];exact aW λz hz=>O0 ti (hp.mem_iff.mp hz)
end
end WL
namespace L2
open PySem PySem.Spec PyProof.Rows
theorem lX(hu:X.A.units+20<cLine):fI X (.builtin "sorted") (λxs H Q=>∃a fs,xs=[.ref a]/\b9 X.K H a (fs.map λx=>V.ref x.2)/\fs.length<64/\((fs.map (·.1)).Nodup/\(∀x∈fs,V9 X.K H x.1 x.2)/\∀x∈fs,∀y∈fs,YZ x.1.2.2 y.1.2.2=true\/x.1.2.1≠y.1.2.1)/\mW cW fs H Q):=
 dN (G:=λH fs=>(fs.map (·.1)).Nodup/\(∀x∈fs,V9 X.K H x.1 x.2)/\∀x∈fs,∀y∈fs,YZ x.1.2.2 y.1.2.2=true\/x.1.2.1≠y.1.2.1) λI dz hG q=>bG I hu (λx hx=>aM I (hG.2.1 x hx)) hG.1 dz hG.2.2 q
end L2
namespace WL
open PySem PySem.Spec PyProof.Rows L2
section
variable{a:Expr}
theorem rF(ha:PE X a (tD C X.K pa))(mu:Bool:=false)(hu:X.A.units+20<cLine:=by assumption)(hg:Gl X "sorted":=by kernel_rfl)(hm:X.mg "sorted" = none:=by assumption)(he:starEach [a] X.env=[(false,eval a X.env)]:=by kernel_rfl):PE X (.Call (.Name "sorted" p1) [a] [] q1) (tD C X.K (.b1 (.AD mu) pa)):=
 bT (lX hu) (by
  intro ρ m af H dx d x Q M ax e q;obtain⟨xs,e1,e⟩:=aT (show ((G5 dx m).bind λxs=>(T6 xs).bind λks=>if ks.length<64/\ks.Nodup/\ks.all PB=true then some (bw mu ((G8 ks).map fD) m) else none)=some (d,af) from e);obtain⟨ks,e2,e⟩:=aT e;split at e
  .rename_i h
   have aE:=cq e;obtain⟨p,vs,rfl,hq,as⟩:=J8 M ax e1;obtain⟨fs,rfl,rfl,g3,g4⟩:=cX e2 as;have ok:=k6 h.2.2;refine⟨p,fs,rfl,hq,by have:=h.1;rwa [a8]at this,⟨h.2.1,g3,λy hy z hz=>Nt (ok y.1 (gh hy)) (ok z.1 (gh hz))⟩,λfA ys hp xl xn=>?_⟩;have o6:ys.map (·.1)=G8 (fs.map (·.1)):=nO (xl.map _) (by rw[List.pairwise_map];exact xn);have cg:en X.K ρ H (bw mu ((G8 (fs.map (·.1))).map fD) m).1 (bw mu ((G8 (fs.map (·.1))).map fD) m).2 Q:=by rw[aE];exact q
   refine cg.lst M ?_ hp;rw[<-o6,bS];exact yN g4 λz hz=>xl.mem_iff.mp hz
  .cases e) boot_sorted hg hm ha (by decide) (by decide) he
end
end WL
namespace WL
open PySem PySem.Spec PyProof.Rows L2
section
variable{a:Expr}{ps:i5}{l:List String}
theorem kc(f:String)(ha:PA X (e::es) (tw C X.K ps))(D:∀f∈l,Def X.prog X.w X.K X.mg X.base n C f:=by assumption)(hr:gf n X.A:=by assumption)(hf:f∈l:=by decide)(hg:Gl X (Str.ofString f):=by kernel_rfl)(jc:(Str.ofString f==("__debug__" : Str))=false:=by decide)(he:starEach (e::es) X.env=(false,eval e X.env)::starEach es X.env:=by kernel_rfl)(jd:(backTo pos (starEach es X.env)).any (·.1)=false:=by kernel_rfl):
  PE X (.Call (.Name (Str.ofString f) p) (e::es) [] pos) (tD C X.K (.call f ps)):=MA (Def.To (D f hf) hr) ha hg jc he jd
end
section
variable{t:Te}{pe:Ex}
theorem kB(hX:X.N=N)(h1:scope.kind=.function)(h2:(scope.names.all λy=>y.2 != .free||X.env.kindOf y.1==some .cell)=true)(h3:(scope.names.all λy=>y.2 != .cell)=true)(h4:(scope.names.all λy=>y.2 != .local||scope.names.lookup y.1==some .local)=true)(h5:(M.all λx=>scope.names.lookup x != some .local)=true)(h6:X.env.scope.kind=.function)(hm:(M.length==N.length&&(M.zip N).all λp=>decide (p.1=p.2)||scope.names.all λy=>decide (y.1≠p.1))=true):il X scope M own:=by
 subst hX;obtain⟨a,b⟩:=Bool.and_eq_true_iff.mp hm;exact⟨h1,h2,h3,h4,h5,h6,.inr ⟨eq_of_beq a,b⟩⟩
theorem MN(k:Nat)(own M N:List Str)(hi:PI X tg iter (lT C X.K ip))(hg:∀fF bx cx ex,(eW X scope M own fF bx cx ex).N.Nodup->PG (eW X scope M own fF bx cx ex) tg (oe X.K g))(ht:∀fF bx cx ex,me (eW X scope M own fF bx cx ex) ifs (fi C X.K t))(he:∀fF bx cx ex,PE (eW X scope M own fF bx cx ex) elt (tD C X.K pe))(hn:(M++own).Nodup:=by decide +kernel)(hk:own.length=k:=by kernel_rfl)(hX:X.N=N:=by kernel_rfl)(h1:scope.kind=.function:=by kernel_rfl)(h2:(scope.names.all λy=>y.2 != .free||X.env.kindOf y.1==some .cell)=true:=by kernel_rfl)(h3:(scope.names.all λy=>y.2 != .cell)=true:=by kernel_rfl)(h4:(scope.names.all λy=>y.2 != .local||scope.names.lookup y.1==some .local)=true:=by kernel_rfl)(h5:(M.all λx=>scope.names.lookup x != some .local)=true:=by kernel_rfl)(h6:X.env.scope.kind=.function:=by kernel_rfl)(hm:(M.length==N.length&&(M.zip N).all λp=>decide (p.1=p.2)||scope.names.all λy=>decide (y.1≠p.1))=true:=by kernel_rfl)(hc:X.calm=true:=by kernel_rfl)(hs:∀x,foldedSetIterable iter X.env x=pure x:=by intro _;kernel_rfl):PE X (.ListComp elt [⟨tg,iter,ifs,0⟩] scope pos) (tD C X.K (.comp false k g ip t pe)):=by
 subst hk;exact Mz (kB hX h1 h2 h3 h4 h5 h6 hm) hc hi (λa b c d=>hg a b c d hn) ht he hs
theorem A9(i k:Nat)(own M N:List Str){y:Str}{py qB:Pos}(hi:PI X tg iter (lT C X.K ip))(hg:∀fF bx cx ex,(eW X scope M own fF bx cx ex).N.Nodup->PG (eW X scope M own fF bx cx ex) tg (oe X.K g))(ht:∀fF bx cx ex,me (eW X scope M own fF bx cx ex) ifs (fi C X.K t))(he:∀fF bx cx ex,PE (eW X scope M own fF bx cx ex) elt (tD C X.K pe))(mu:Bool:=false)(hN:X.N.Nodup:=by assumption)(xc:X.N[i]?=some y:=by kernel_rfl)(hy:X.env.scope.names.lookup y=some .local:=by kernel_rfl)(hn:(M++own).Nodup:=by decide +kernel)(hk:own.length=k:=by kernel_rfl)(hX:X.N=N:=by kernel_rfl)(h1:scope.kind=.function:=by kernel_rfl)(h2:(scope.names.all λy=>y.2 != .free||X.env.kindOf y.1==some .cell)=true:=by kernel_rfl)(h3:(scope.names.all λy=>y.2 != .cell)=true:=by kernel_rfl)(h4:(scope.names.all λy=>y.2 != .local||scope.names.lookup y.1==some .local)=true:=by kernel_rfl)(h5:(M.all λx=>scope.names.lookup x != some .local)=true:=by kernel_rfl)(h6:X.env.scope.kind=.function:=by kernel_rfl)(hm:(M.length==N.length&&(M.zip N).all λp=>decide (p.1=p.2)||scope.names.all λy=>decide (y.1≠p.1))=true:=by kernel_rfl)(hc:X.calm=true:=by kernel_rfl)(xq:swapsWith (.ListComp elt [⟨tg,iter,ifs,0⟩] scope pos) (some (.Name y py)) qB.line X.env=pure true:=by kernel_rfl)(hs:∀x,foldedSetIterable iter X.env x=pure x:=by intro _;kernel_rfl):PS X (.Assign [.Name y py] (.ListComp elt [⟨tg,iter,ifs,0⟩] scope pos) qB) (l3 C W X.K (.set i (.comp mu k g ip t pe))):=by
 subst hk;exact L9 i hN xc hy (kB hX h1 h2 h3 h4 h5 h6 hm) hc hi (λa b c d=>hg a b c d hn) ht he xq hs
end
structure En where
 f:String
 st:Stmt
 ps:List Str
 N:List Str
 F:Fn
def TX(p:En->Prop):List En->Prop
 | []=>True
 | e::r=>p e/\TX p r
abbrev FA (K:p4) (f:Str) (st:Stmt):Prop:=∃(x:Addr) (oc:Value) (od an:Option Addr) (sl:Array (Option Value)) (kV dc pm cd ct:Value),PySem.W.nsIn K mainGlobals f=some (some (.ref x))/\K.lookup x=some ⟨oc,od,.func (PySem.W.fnOf f f (O6 st) (JZ st) (HD st) .none kV dc pm an cd ct),sl⟩/\PySem.W.codeIn K cd f=true/\PySem.W.keepIn K (.ref x)=true
theorem T2{f:Str}{x:Addr}{oc:Value}{od an:Option Addr}{kV dc pm cd ct:Value}(a:PySem.W.nsIn K mainGlobals f=some (some (.ref x)))(l:K.lookup x=some ⟨oc,od,.func (PySem.W.fnOf f f (O6 st) (JZ st) (HD st) .none kV dc pm an cd ct),sl⟩)(c:PySem.W.codeIn K cd f=true)(k:PySem.W.keepIn K (.ref x)=true):FA K f st:=⟨x,oc,od,an,sl,kV,dc,pm,cd,ct,a,l,c,k⟩
def zd(ab:String->Option Fn)(e:En):Prop:=XS e.N e.ps (HD e.st)/\ab e.f=some e.F/\e.F.ps=e.ps.length/\e.F.ns=e.N.length/\∀(kV doc pm:Value) (an:Option Addr) (dr ct:Value) (us:List Value),us.length=e.ps.length->bindArgs (PySem.W.fnOf (Str.ofString e.f) (Str.ofString e.f) (O6 e.st) (JZ e.st) (HD e.st) .none kV doc pm an dr ct) ⟨us,[]⟩=pure (e.ps.zip us)
noncomputable abbrev XE (P:Program) (w:World) (K:p4) (mg:Str->Option Value) (base:Heap) (N:List Str) (f:String) (st:Stmt) (fa:Addr) (dr:Value) (A:Around) (outer:List Env) (s:Shared) (H:Hp) (E:XK):Cx:=(pG jS P w K mg base N (Str.ofString f) (HD st) fa dr A outer s H E).u4
abbrev Hj (P:Program) (w:World) (K:p4) (mg:Str->Option Value) (base:Heap) (W n:Nat) (C:String->List D->Mem->Option (D×Mem)) (f:String) (st:Stmt) (N:List Str) (b:bg):Prop:=∀{fa:Addr} {dr:Value} {A:Around} {outer:List Env} {s:Shared} {H:Hp} {E:XK},gf n (A.deeper (envOfC (Str.ofString f) (HD st) s.heap.objs.size fa dr))->eP (XE P w K mg base N f st fa dr A outer s H E) (JZ st) (Y9 C W K b)
abbrev vE (K:p4) (mg:Str->Option Value) (e:En):Prop:=∃fa fd,BF K mg e.f e.st e.ps fa fd
theorem Ku(X:K.In h)(G:h.Ns mainGlobals mg):∀{l:List En},TX (λe=>FA K (Str.ofString e.f) e.st) l->TX (zd ab) l->TX (vE K mg) l
 | [],_,_=>trivial
 | _::_,⟨⟨x,oc,od,an,sl,kV,dc,pm,cd,ct,a,l,c,k⟩,t⟩,⟨q,u⟩=>⟨⟨x,_,sO l c k,(sO l c k).binds q.2.2.2.2,PySem.W.mg_of X G a⟩,Ku X G t u⟩
theorem Gb:∀{l:List En},TX (vE K mg) l->∀f∈l.map (·.f),Def P w K mg base 0 (CG W ab 0) f
 | _::_,⟨⟨_,_,t⟩,_⟩,_,.head _=>t.zero
 | _::_,bf,f,.tail _ q=>by
  obtain⟨_,h⟩:=bf;exact Gb h f q
theorem Ga:∀{l:List En},TX (vE K mg) l->TX (zd ab) l->TX (λe=>Hj P w K mg base W n (CG W ab n) e.f e.st e.N e.F.body) l->∀f∈l.map (·.f),Def P w K mg base (n+1) (CG W ab (n+1)) f
 | e::_,⟨⟨fa,fd,t⟩,_⟩,⟨q,_⟩,⟨o,_⟩,_,.head _=>⟨fa,fd,_,p7 t.1 q.1 q.2.1 q.2.2.1 q.2.2.2.1 (λdr A outer s H E hr=>o hr),t.2.2,t.1.kp,t.2.1⟩
 | _::_,⟨_,h⟩,⟨_,q⟩,⟨_,o⟩,f,.tail _ z=>Ga h q o f z
theorem len0(h:l.length=0):l=[]:=List.length_eq_zero_iff.mp h
theorem yy(h:l.length=n+1):∃a r,l=a::r/\r.length=n:=by cases l with
 | nil=>cases h
 | cons a r=>exact⟨a,r,rfl,Nat.succ.inj h⟩
theorem Jo(h:l.length=1):∃a,l=[a]:=by obtain⟨a,r,rfl,k⟩:=yy h;exact⟨a,by rw[len0 k]⟩
theorem Jp(h:l.length=2):∃a b,l=[a,b]:=by obtain⟨a,r,rfl,k⟩:=yy h;obtain⟨b,rfl⟩:=Jo k;exact⟨a,b,rfl⟩
theorem GH(h:l.length=3):∃a b c,l=[a,b,c]:=by obtain⟨a,r,rfl,k⟩:=yy h;obtain⟨b,c,rfl⟩:=Jp k;exact⟨a,b,c,rfl⟩
theorem SG(h:l.length=4):∃a b c d,l=[a,b,c,d]:=by obtain⟨a,r,rfl,k⟩:=yy h;obtain⟨b,c,d,rfl⟩:=GH k;exact⟨a,b,c,d,rfl⟩
end WL
end
section
namespace T
open PySem L2 WL PySem.Spec PyProof.Rows
noncomputable def top(i:Nat):Stmt:=PySem.Challenge.pw_whisperwall_k13_whole_other_names.main.body.getD i (.Pass ⟨0,0,0,0⟩)
noncomputable def zp:D:=.int 997
noncomputable def wo:D:=.int 3
noncomputable def wt:D:=.tup [.str "sum",.str "times",.str "less"]
noncomputable def fns:List String:=["names_of","names_in_term","parts_of","flows","lets","gather_flows","add_flows","level_of","cut","cut_block","stays","cut_deed","run","number_of","do_deeds","page_of","store_of","settled","targets_by_name","names_reached","trail_down","is_below","way_to","_law_cell","_law_mix","_law_name","_law_names","_law_levels","_law_house","_law_term","_law_names_in","_law_deed","_law_block","_law_program","_law_store","_law_else","_law_term_else","_law_block_else","_law_pairs_else","_law_flow_else","law"]
structure Tp(K:p4)(mg:Str->Option Value):Prop where
 WG:mg "all" = none
 WH:mg "dict" = none
 WI:mg "enumerate" = none
 WJ:mg "int" = none
 WN:mg "len" = none
 WO:mg "list" = none
 WS:mg "max" = none
 WU:mg "range" = none
 WV:mg "reversed" = none
 WZ:mg "set" = none
 Xa:mg "sorted" = none
 Xb:mg "tuple" = none
 Xc:mg "zip" = none
 zp:kU K mg "NUMBERS" zp
 wo:kU K mg "LEVELS" wo
 wt:kU K mg "PAIRING" wt
def QX(X:Cx)(W n:Nat)(C:String->List D->Mem->Option (D×Mem))(st:Stmt)(b:bg):Prop:=X.mg "all" = none->X.mg "dict" = none->X.mg "enumerate" = none->X.mg "int" = none->X.mg "len" = none->X.mg "list" = none->X.mg "max" = none->X.mg "range" = none->X.mg "reversed" = none->X.mg "set" = none->X.mg "sorted" = none->X.mg "tuple" = none->X.mg "zip" = none->kU X.K X.mg "NUMBERS" zp->kU X.K X.mg "LEVELS" wo->kU X.K X.mg "PAIRING" wt->(∀g∈fns,Def X.prog X.w X.K X.mg X.base n C g)->gf n X.A->X.A.units+1<cLine->X.A.units+11<cLine->X.A.units+20<cLine->X.A.units+64<cLine->PassesOwn (model X.prog X.w) X.A X.env X.xe->X.N.Nodup->eP X (JZ st) (Y9 C W X.K b)
def QP(f:String)(st:Stmt)(N:List Str)(b:bg):Prop:=∀(P:Program) (w:World) (K:p4) (mg:Str->Option Value) (base:Heap) (W n:Nat) (C:String->List D->Mem->Option (D×Mem)) (fa:Addr) (dr:Value) (A:Around) (outer:List Env) (s:Shared) (H:Hp) (E:XK),QX (XE P w K mg base N f st fa dr A outer s H E) W n C st b
noncomputable def QE(f:String)(st:Stmt)(N:List Str):Type:={b:bg // QP f st N b}
abbrev eV:List Str:=["program","found","waiting","part"]
noncomputable def c7:QE "names_of" (top 4) eV:=⟨_,by unfold QP QX;intros;exact BL (by with_reducible exact(CQ 1 (My (mu:=true)))) (by with_reducible exact(BL (CQ 2 (jP (mu:=true) (BK 0))) (BL (W6 (R3 (BK 2)) (BL (CQ 3 (Ey (BK 2))) (BL (G3 (DN w6 (CW (BK 3) BP) (DX (BJ DG (BJ DG BW)))) (BL (jJ (BK 1) (CW (BK 3) BP) gM) BZ) BZ) (BL (IK (rK (BK 2) (kc "parts_of" (BJ (BK 3) BW)))) BZ)))) (BL (CT (J9 (bN (BK 1)))) BZ))))⟩
noncomputable def dZ:bg:=c7.1
noncomputable def RL:Fn:=⟨1,4,dZ⟩
abbrev RT:List Str:=["term"]
noncomputable def RN:QE "names_in_term" (top 5) RT:=⟨_,by unfold QP QX;intros;exact BL (by with_reducible exact(CT (kc "names_of" (BJ (DX (BJ (BK 0) BW)) BW)))) (by with_reducible exact BZ)⟩
noncomputable def NQ:Fn:=⟨1,1,RN.1⟩
abbrev eU:List Str:=["part","kind"]
noncomputable def bZ:QE "parts_of" (top 6) eU:=⟨_,by unfold QP QX;intros;exact BL (by with_reducible exact(CQ 1 (CW (BK 0) BP))) (by with_reducible exact(BL (G3 (DN w6 (BK 1) (DX (BJ DG (BJ DG BW)))) (BL (CT (DX BW)) BZ) BZ) (BL (G3 (DN w6 (BK 1) jR) (BL (CT (WD (BK 0) (V3 BP) YX)) BZ) BZ) (BL (G3 (DN w6 (BK 1) (DX (BJ DG (BJ DG BW)))) (BL (CT (WD (BK 0) (V3 BP) YX)) BZ) BZ) (BL (G3 (DN HS (BK 1) DG) (BL (CT (GZ (GZ (DX (BJ (CW (BK 0) BP) BW)) (CW (BK 0) BP)) (CW (BK 0) BP))) BZ) BZ) (BL (CT (GZ (DX (BJ (CW (BK 0) BP) BW)) (CW (BK 0) BP))) BZ))))))⟩
noncomputable def K5:Fn:=⟨1,2,bZ.1⟩
abbrev wU:List Str:=["program","found"]
noncomputable def uW:QE "flows" (top 8) wU:=⟨_,by unfold QP QX;intros;exact BL (by with_reducible exact(CQ 1 Mx)) (by with_reducible exact(BL (IK (kc "gather_flows" (BJ (BK 0) (BJ (DX BW) (BJ (BK 1) BW))))) (BL (CT (J9 (rH (BK 1)))) BZ)))⟩
noncomputable def wX:Fn:=⟨1,2,uW.1⟩
abbrev n8:List Str:=["program","house","levels"]
noncomputable def EJ:QE "lets" (top 9) n8:=⟨_,by unfold QP QX;intros;exact BL (by with_reducible exact(CQ 2 (aH (BK 1)))) (by with_reducible exact(BL (CT (EB (MN 2 ["name","target"] n8 n8 (JB (kc "flows" (BJ (BK 0) BW))) (λ_ _ _ _ _=>(W8 (GX (GK 3) (GX (GK 4) NZ)))) (λ_ _ _ _=>JN) (λ_ _ _ _=>(R5 vZ (S9 (BK 2) (BK 3) BP) (kc "level_of" (BJ (BK 4) (BJ (BK 2) BW)))))))) BZ))⟩
noncomputable def Fy:Fn:=⟨2,3,EJ.1⟩
abbrev TQ:List Str:=["block","choosing","found","deed","kind","within"]
noncomputable def SQ:QE "gather_flows" (top 10) TQ:=⟨_,by unfold QP QX;intros;exact BL (by with_reducible exact(R4 (JB (BK 0)) (GK 3) (BL (CQ 4 (CW (BK 3) BP)) (BL (G3 (DN HS (BK 4) DG) (BL (CQ 5 (GZ (BK 1) (kc "names_in_term" (BJ (CW (BK 3) BP) BW)))) (BL (IK (kc "gather_flows" (BJ (CW (BK 3) BP) (BJ (BK 5) (BJ (BK 2) BW))))) (BL (IK (kc "gather_flows" (BJ (CW (BK 3) BP) (BJ (BK 5) (BJ (BK 2) BW))))) BZ))) (BL (G3 (DN HS (BK 4) DG) (BL (IK (kc "add_flows" (BJ (GZ (BK 1) (kc "names_in_term" (BJ (CW (BK 3) BP) BW))) (BJ (DX (BJ DG (BJ BP BW))) (BJ (BK 2) BW))))) (BL (IK (kc "gather_flows" (BJ (CW (BK 3) BP) (BJ (BK 1) (BJ (BK 2) BW))))) BZ)) (BL (G3 (DN HS (BK 4) DG) (BL (IK (kc "add_flows" (BJ (GZ (BK 1) (kc "names_in_term" (BJ (CW (BK 3) BP) BW))) (BJ (DX (BJ DG (BJ (CW (BK 3) BP) BW))) (BJ (BK 2) BW))))) BZ) (BL (IK (kc "add_flows" (BJ (GZ (BK 1) (kc "names_in_term" (BJ (CW (BK 3) BP) BW))) (BJ (DX (BJ DG (BJ (CW (BK 3) BP) BW))) (BJ (BK 2) BW))))) BZ)) BZ)) BZ)) BZ)))) (by with_reducible exact BZ)⟩
noncomputable def TF:bg:=SQ.1
noncomputable def vv:Fn:=⟨3,6,TF⟩
abbrev ZM:List Str:=["names","target","found","name"]
noncomputable def Z6:QE "add_flows" (top 11) ZM:=⟨_,by unfold QP QX;intros;exact BL (by with_reducible exact(R4 (JB (BK 0)) (GK 3) (BL (Me (BK 2) (DX (BJ (BK 3) (BJ (BK 1) BW)))) BZ))) (by with_reducible exact BZ)⟩
noncomputable def Q6:bg:=Z6.1
noncomputable def vt:Fn:=⟨3,4,Q6⟩
abbrev eX:List Str:=["target","levels"]
noncomputable def cA:QE "level_of" (top 12) eX:=⟨_,by unfold QP QX;intros;exact BL (by with_reducible exact(G3 (DN HS (CW (BK 0) BP) DG) (BL (CT (CW (BK 0) BP)) BZ) BZ)) (by with_reducible exact(BL (CT (S9 (BK 1) (CW (BK 0) BP) BP)) BZ))⟩
noncomputable def fJ:Fn:=⟨2,2,cA.1⟩
abbrev Gm:List Str:=["program","house","level"]
noncomputable def FV:QE "cut" (top 14) Gm:=⟨_,by unfold QP QX;intros;exact BL (by with_reducible exact(CT (kc "cut_block" (BJ (BK 0) (BJ (aH (BK 1)) (BJ (BK 2) BW)))))) (by with_reducible exact BZ)⟩
noncomputable def Gp:Fn:=⟨3,3,FV.1⟩
abbrev Q9:List Str:=["block","levels","level"]
noncomputable def Z5:QE "cut_block" (top 15) Q9:=⟨_,by unfold QP QX;intros;exact BL (by with_reducible exact(CT (J9 (MN 1 ["deed"] Q9 Q9 (JB (BK 0)) (λ_ _ _ _ _=>(GK 3)) (λ_ _ _ _=>(U0 (R3 (kc "stays" (BJ (BK 3) (BJ (BK 1) (BJ (BK 2) BW))))))) (λ_ _ _ _=>(kc "cut_deed" (BJ (BK 3) (BJ (BK 1) (BJ (BK 2) BW))))))))) (by with_reducible exact BZ)⟩
noncomputable def ZP:Fn:=⟨3,3,Z5.1⟩
abbrev aX:List Str:=["deed","levels","level","kind"]
noncomputable def uP:QE "stays" (top 16) aX:=⟨_,by unfold QP QX;intros;exact BL (by with_reducible exact(CQ 3 (CW (BK 0) BP))) (by with_reducible exact(BL (G3 (DN HS (BK 3) DG) (BL (CT (R5 vZ (S9 (BK 1) (CW (BK 0) BP) BP) (BK 2))) BZ) BZ) (BL (G3 (DN HS (BK 3) DG) (BL (CT (R5 vZ (CW (BK 0) BP) (BK 2))) BZ) BZ) (BL (G3 (DN HS (BK 3) DG) (BL (CT (EB (MN 1 ["name"] aX aX (JB (kc "names_in_term" (BJ (CW (BK 0) BP) BW))) (λ_ _ _ _ _=>(GK 4)) (λ_ _ _ _=>JN) (λ_ _ _ _=>(R5 vZ (S9 (BK 1) (BK 4) BP) (BK 2)))))) BZ) BZ) (BL (CT gM) BZ)))))⟩
noncomputable def wV:Fn:=⟨3,4,uP.1⟩
abbrev f9:List Str:=["deed","levels","level","kind"]
noncomputable def cF:QE "cut_deed" (top 17) f9:=⟨_,by unfold QP QX;intros;exact BL (by with_reducible exact(CQ 3 (CW (BK 0) BP))) (by with_reducible exact(BL (G3 (DN HS (BK 3) DG) (BL (CT (DX (BJ DG (BJ (CW (BK 0) BP) (BJ (kc "cut_block" (BJ (CW (BK 0) BP) (BJ (BK 1) (BJ (BK 2) BW)))) (BJ (kc "cut_block" (BJ (CW (BK 0) BP) (BJ (BK 1) (BJ (BK 2) BW)))) BW)))))) BZ) BZ) (BL (G3 (DN HS (BK 3) DG) (BL (CT (DX (BJ DG (BJ (CW (BK 0) BP) (BJ (kc "cut_block" (BJ (CW (BK 0) BP) (BJ (BK 1) (BJ (BK 2) BW)))) BW))))) BZ) BZ) (BL (CT (BK 0)) BZ))))⟩
noncomputable def fL:Fn:=⟨3,4,cF.1⟩
abbrev wM:List Str:=["program","store","most","standing","shown","turns","pages"]
noncomputable def FR:QE "run" (top 19) wM:=⟨_,by unfold QP QX;intros;exact BL (by with_reducible exact(CQ 3 (aH (mu:=true) (BK 1)))) (by with_reducible exact(BL (CQ 4 (OD (mu:=true) BW)) (BL (CQ 5 (kc "do_deeds" (BJ (BK 0) (BJ (BK 3) (BJ (BK 4) (BJ (BK 2) BW)))))) (BL (CQ 6 (J9 (MN 1 ["level"] wM wM (bK jR) (λ_ _ _ _ _=>(GK 7)) (λ_ _ _ _=>JN) (λ_ _ _ _=>(kc "page_of" (BJ (BK 4) (BJ (BK 7) BW))))))) (BL (CT (DX (BJ (BK 5) (BJ (kc "store_of" (BJ (BK 3) BW)) (BJ (BK 6) BW))))) BZ)))))⟩
noncomputable def Gn:Fn:=⟨3,7,FR.1⟩
abbrev ZL:List Str:=["term","standing","kind","first","second"]
noncomputable def Z4:QE "number_of" (top 20) ZL:=⟨_,by unfold QP QX;intros;exact BL (by with_reducible exact(CQ 2 (CW (BK 0) BP))) (by with_reducible exact(BL (G3 (DN HS (BK 2) DG) (BL (CT (CW (BK 0) BP)) BZ) BZ) (BL (G3 (DN HS (BK 2) DG) (BL (CT (S9 (BK 1) (CW (BK 0) BP) BP)) BZ) BZ) (BL (CQ 3 (kc "number_of" (BJ (CW (BK 0) BP) (BJ (BK 1) BW)))) (BL (CQ 4 (kc "number_of" (BJ (CW (BK 0) BP) (BJ (BK 1) BW)))) (BL (G3 (DN HS (BK 2) DG) (BL (CT (KN (GZ (BK 3) (BK 4)) jR)) BZ) BZ) (BL (G3 (DN HS (BK 2) DG) (BL (CT (KN (KJ (BK 3) (BK 4)) jR)) BZ) BZ) (BL (CT (Ez (DN ZG (BK 3) (BK 4)) BP BP)) BZ))))))))⟩
noncomputable def KC:Fn:=⟨2,5,Z4.1⟩
abbrev eZ:List Str:=["program","standing","shown","most","turns","waiting","deed","kind","block"]
noncomputable def cC:QE "do_deeds" (top 21) eZ:=⟨_,by unfold QP QX;intros;exact BL (by with_reducible exact(CQ 4 BP)) (by with_reducible exact(BL (CQ 5 (jO (mu:=true) (BK 0))) (BL (W6 (R3 (BK 5)) (BL (CQ 6 (Ey (BK 5))) (BL (CQ 7 (CW (BK 6) BP)) (BL (G3 (DN HS (BK 7) DG) (BL (jJ (BK 1) (CW (BK 6) BP) (kc "number_of" (BJ (CW (BK 6) BP) (BJ (BK 1) BW)))) BZ) (BL (G3 (DN HS (BK 7) DG) (BL (IK (SJ (BK 2) (DX (BJ (CW (BK 6) BP) (BJ (kc "number_of" (BJ (CW (BK 6) BP) (BJ (BK 1) BW))) BW))))) BZ) (BL (G3 (DN HS (BK 7) DG) (BL (CQ 8 (Ez (DN dI (kc "number_of" (BJ (CW (BK 6) BP) (BJ (BK 1) BW))) BP) (CW (BK 6) BP) (CW (BK 6) BP))) (BL (IK (rK (BK 5) (jO (BK 8)))) BZ)) (BL (G3 (DN dI (kc "number_of" (BJ (CW (BK 6) BP) (BJ (BK 1) BW))) BP) (BL (G3 (DN Gf (BK 4) (BK 3)) (BL (CT bQ) BZ) BZ) (BL (CQ 4 (GZ (BK 4) BP)) (BL (IK (SJ (BK 5) (BK 6))) (BL (IK (rK (BK 5) (jO (CW (BK 6) BP)))) BZ)))) BZ) BZ)) BZ)) BZ)) BZ)))) (BL (CT (BK 4)) BZ))))⟩
noncomputable def eE:bg:=cC.1
noncomputable def oo:Fn:=⟨4,9,eE⟩
abbrev UW:List Str:=["shown","level"]
noncomputable def gU:QE "page_of" (top 22) UW:=⟨_,by unfold QP QX;intros;exact BL (by with_reducible exact(CT (J9 (MN 2 ["page","number"] UW UW (JB (BK 0)) (λ_ _ _ _ _=>(W8 (GX (GK 2) (GX (GK 3) NZ)))) (λ_ _ _ _=>(U0 (DN HS (BK 2) (BK 1)))) (λ_ _ _ _=>(BK 3)))))) (by with_reducible exact BZ)⟩
noncomputable def YQ:Fn:=⟨2,2,gU.1⟩
abbrev RJ:List Str:=["standing"]
noncomputable def bW:QE "store_of" (top 23) RJ:=⟨_,by unfold QP QX;intros;exact BL (by with_reducible exact(CT (J9 (MN 1 ["name"] RJ RJ (JB (bN (BK 0))) (λ_ _ _ _ _=>(GK 1)) (λ_ _ _ _=>(U0 (DN dI (jQ (BK 0) (BK 1)) BP))) (λ_ _ _ _=>(DX (BJ (BK 1) (BJ (jQ (BK 0) (BK 1)) BW)))))))) (by with_reducible exact BZ)⟩
noncomputable def VR:Fn:=⟨1,1,bW.1⟩
abbrev QW:List Str:=["program","house","told","onward","levels","level","starts","came_from","trail","name"]
noncomputable def gQ:QE "settled" (top 25) QW:=⟨_,by unfold QP QX;intros;exact BL (by with_reducible exact(CQ 2 (aH (BK 1)))) (by with_reducible exact(BL (CQ 3 (kc "targets_by_name" (BJ (kc "flows" (BJ (BK 0) BW)) BW))) (BL (CQ 4 (nW (mu:=true) (MN 1 ["name"] p5 QW (JB (kc "names_of" (BJ (BK 0) BW))) (λ_ _ _ _ _=>(GK 10)) (λ_ _ _ _=>JN) (λ_ _ _ _=>(DX (BJ (BK 10) (BJ BP BW))))))) (BL (IK (Pn (BK 4) (BK 2))) (BL (R4 (JB (nR (MN 2 ["name","own"] p5 QW (JB (BK 1)) (λ_ _ _ _ _=>(W8 (GX (GK 10) (GX (GK 11) NZ)))) (λ_ _ _ _=>JN) (λ_ _ _ _=>(BK 11))))) (GK 5) (BL (A9 6 2 ["name","own"] p5 QW (JB (BK 1)) (λ_ _ _ _ _=>(W8 (GX (GK 10) (GX (GK 11) NZ)))) (λ_ _ _ _=>(U0 (DN HS (BK 11) (BK 5)))) (λ_ _ _ _=>(BK 10))) (BL (CQ 7 (kc "names_reached" (BJ (BK 6) (BJ (BK 3) (BJ (BK 2) BW))))) (BL (CQ 8 (kc "trail_down" (BJ (BK 5) (BJ (BK 7) (BJ (BK 3) (BJ (BK 2) BW)))))) (BL (G3 (DN pN (BK 8) bQ) (BL (CT (BK 8)) BZ) BZ) (BL (R4 (uJ (BK 7)) (GK 9) (BL (jJ (BK 4) (BK 9) (uK (BK 5) (jQ (BK 4) (BK 9)))) BZ)) BZ)))))) (BL (CT (DX (BJ DG (BJ (J9 (rG (BK 4))) BW)))) BZ))))))⟩
noncomputable def QV:bg:=gQ.1
noncomputable def jA:Fn:=⟨2,10,QV⟩
abbrev Q8:List Str:=["pairs","onward","name","target"]
noncomputable def PN:QE "targets_by_name" (top 26) Q8:=⟨_,by unfold QP QX;intros;rename_i hu _ _ _ _ nd;exact(K2 (WX (EM nd rfl (Or.inl rfl) oJ) (WX (EO PassesOwn.never rfl (PV (P0 rfl (Or.inl rfl))) (ES rfl (cL (kW nd rfl (Or.inl rfl)) (cL (kW nd rfl (Or.inl rfl)) vA))) (WX (FY (EL (gY hu (P0 rfl (Or.inl rfl)) (P0 rfl (Or.inl rfl)))) (kO (v8 hu (P0 rfl (Or.inl rfl)) (P0 rfl (Or.inl rfl)) (ET JR) rfl)) uZ) (kO (v7 (gW PySem.F.plainAttrs_list PySem.F.slot_list_append PySem.F.type_list_append YG (vB hu (P0 rfl (Or.inl rfl)) (P0 rfl (Or.inl rfl)) (λ_ _=>rfl)) (J7 (P0 rfl (Or.inl rfl)) JR rfl)))))) (kO (EN (P2 (P0 rfl (Or.inl rfl))))))) rfl)⟩
noncomputable def QB:Fn:=⟨1,4,PN.1⟩
abbrev NP:List Str:=["starts","onward","told","came_from","waiting","name","kind","other"]
noncomputable def RM:QE "names_reached" (top 27) NP:=⟨_,by unfold QP QX;intros;exact BL (by with_reducible exact(CQ 3 (nW (mu:=true) (MN 1 ["name"] ["starts","onward","told","came_from","waiting","5","kind","other"] NP (JB (BK 0)) (λ_ _ _ _ _=>(GK 8)) (λ_ _ _ _=>JN) (λ_ _ _ _=>(DX (BJ (BK 8) (BJ bQ BW)))))))) (by with_reducible exact(BL (CQ 4 (jP (mu:=true) (BK 0))) (BL (W6 (R3 (BK 4)) (BL (CQ 5 (Mt (BK 4))) (BL (R4 (JB (S9 (BK 1) (BK 5) (OD BW))) (W8 (GX (GK 6) (GX (GK 7) NZ))) (BL (G3 (L2.PW.pt (YB (DN HS (BK 6) DG) (YB (uG (BK 7) (BK 2)) (aF (uG (BK 7) (BK 3)))))) (BL (jJ (BK 3) (BK 7) (BK 5)) (BL (IK (SJ (BK 4) (BK 7))) BZ)) BZ) BZ)) BZ))) (BL (CT (BK 3)) BZ))))⟩
noncomputable def RQ:bg:=RM.1
noncomputable def vw:Fn:=⟨3,8,RQ⟩
abbrev XF:List Str:=["level","came_from","onward","told","name","target"]
noncomputable def WQ:QE "trail_down" (top 28) XF:=⟨_,by unfold QP QX;intros;exact BL (by with_reducible exact(R4 (uJ (BK 1)) (GK 4) (BL (R4 (JB (S9 (BK 2) (BK 4) (OD BW))) (GK 5) (BL (G3 (R3 (kc "is_below" (BJ (BK 5) (BJ (BK 0) (BJ (BK 3) BW))))) (BL (CT (DX (BJ DG (BJ (kc "way_to" (BJ (BK 4) (BJ (BK 1) BW))) (BJ (BK 5) BW))))) BZ) BZ) BZ)) BZ))) (by with_reducible exact(BL (CT bQ) BZ))⟩
noncomputable def X7:bg:=WQ.1
noncomputable def Y0:Fn:=⟨4,6,X7⟩
abbrev eY:List Str:=["target","level","told"]
noncomputable def cB:QE "is_below" (top 29) eY:=⟨_,by unfold QP QX;intros;exact BL (by with_reducible exact(G3 (DN HS (CW (BK 0) BP) DG) (BL (CT (R5 ZG (CW (BK 0) BP) (BK 1))) BZ) BZ)) (by with_reducible exact(BL (CT (R5 ZG (S9 (BK 2) (CW (BK 0) BP) (BK 1)) (BK 1))) BZ))⟩
noncomputable def fK:Fn:=⟨3,3,cB.1⟩
abbrev qL:List Str:=["name","came_from","names","step"]
noncomputable def o9:QE "way_to" (top 30) qL:=⟨_,by unfold QP QX;intros;exact BL (by with_reducible exact(CQ 2 (OD (mu:=true) BW))) (by with_reducible exact(BL (CQ 3 (BK 0)) (BL (W6 (DN pN (BK 3) bQ) (BL (IK (SJ (BK 2) (BK 3))) (BL (CQ 3 (jQ (BK 1) (BK 3))) BZ))) (BL (CT (xR (BK 2))) BZ))))⟩
noncomputable def qD:bg:=o9.1
noncomputable def qO:Fn:=⟨2,4,qD⟩
abbrev wQ:List Str:=p6
noncomputable def uV:QE "_law_cell" (top 32) wQ:=⟨_,by unfold QP QX;intros;exact BL (by with_reducible exact(G3 (DN ZG (BK 1) (rJ (BK 0))) (BL (CT (CW (BK 0) (BK 1))) BZ) BZ)) (by with_reducible exact(BL (CT BP) BZ))⟩
noncomputable def V0:Fn:=⟨2,2,uV.1⟩
abbrev Fx:List Str:=["_law_cell_here","_law_prime","_law_many"]
noncomputable def EI:QE "_law_mix" (top 33) Fx:=⟨_,by unfold QP QX;intros;exact BL (by with_reducible exact(CT (KN (KN (KJ (BK 0) BP) (BK 1)) (BK 2)))) (by with_reducible exact BZ)⟩
noncomputable def QG:Fn:=⟨3,3,EI.1⟩
abbrev aY:List Str:=["_law_script","_law_k","_law_letters","_law_seed","_law_sign","_law_tail","_law_at"]
noncomputable def uR:QE "_law_name" (top 34) aY:=⟨_,by unfold QP QX;intros;exact BL (by with_reducible exact(CQ 2 DG)) (by with_reducible exact(BL (CQ 3 (kc "_law_cell" (BJ (BK 0) (BJ BP BW)))) (BL (CQ 4 (CW (BK 2) (KN (GZ (kc "_law_mix" (BJ (BK 3) (BJ BP (BJ BP BW)))) (KJ BP (BK 1))) BP))) (BL (CQ 5 (Mv DG (MN 1 ["_law_j"] aY aY (bK (kc "_law_mix" (BJ (BK 3) (BJ BP (BJ BP BW))))) (λ_ _ _ _ _=>(GK 7)) (λ_ _ _ _=>JN) (λ_ _ _ _=>(CW (BK 2) (kc "_law_mix" (BJ (GZ (BK 3) (KJ BP (BK 7))) (BJ BP (BJ BP BW))))))))) (BL (CQ 6 (kc "_law_mix" (BJ (BK 3) (BJ BP (BJ (GZ (rJ (BK 5)) BP) BW))))) (BL (CT (GZ (GZ (WD (BK 5) YX (V3 (BK 6))) (BK 4)) (WD (BK 5) (V3 (BK 6)) YX))) BZ))))))⟩
noncomputable def aZ:Fn:=⟨2,7,uR.1⟩
abbrev XJ:List Str:=["_law_script"]
noncomputable def oE:QE "_law_names" (top 35) XJ:=⟨_,by unfold QP QX;intros;exact BL (by with_reducible exact(CT (MN 1 ["_law_k"] XJ XJ (bK BP) (λ_ _ _ _ _=>(GK 1)) (λ_ _ _ _=>JN) (λ_ _ _ _=>(kc "_law_name" (BJ (BK 0) (BJ (BK 1) BW))))))) (by with_reducible exact BZ)⟩
noncomputable def fG:Fn:=⟨1,1,oE.1⟩
abbrev j9:List Str:=["_law_script"]
noncomputable def gR:QE "_law_levels" (top 36) j9:=⟨_,by unfold QP QX;intros;exact BL (by with_reducible exact(CT (OD (BJ BP (BJ BP (BJ (kc "_law_mix" (BJ (kc "_law_cell" (BJ (BK 0) (BJ BP BW))) (BJ BP (BJ BP BW)))) (BJ (kc "_law_mix" (BJ (kc "_law_cell" (BJ (BK 0) (BJ BP BW))) (BJ BP (BJ BP BW)))) BW))))))) (by with_reducible exact BZ)⟩
noncomputable def YM:Fn:=⟨1,1,gR.1⟩
abbrev XM:List Str:=["_law_script","_law_pairs"]
noncomputable def oF:QE "_law_house" (top 37) XM:=⟨_,by unfold QP QX;intros;exact BL (by with_reducible exact(CQ 1 (Mu (kc "_law_names" (BJ (BK 0) BW)) (kc "_law_levels" (BJ (BK 0) BW))))) (by with_reducible exact(BL (G3 (DN HS (KN (kc "_law_cell" (BJ (BK 0) (BJ BP BW))) BP) BP) (BL (A9 1 1 ["_law_pair"] XM XM (JB (BK 1)) (λ_ _ _ _ _=>(GK 2)) (λ_ _ _ _=>(U0 (DN wA (CW (BK 2) BP) BP))) (λ_ _ _ _=>(BK 2))) BZ) BZ) (BL (CT (J9 (YD (BK 1)))) BZ)))⟩
noncomputable def dY:bg:=oF.1
noncomputable def fH:Fn:=⟨1,2,dY⟩
abbrev wN:List Str:=["_law_names_here","_law_seed","_law_left","_law_turn","_law_one"]
noncomputable def uQ:QE "_law_term" (top 38) wN:=⟨_,by unfold QP QX;intros;exact BL (by with_reducible exact(CQ 3 (kc "_law_mix" (BJ (BK 1) (BJ BP (BJ BP BW)))))) (by with_reducible exact(BL (G3 (L2.PW.pt (AX (DN HS (BK 2) BP) (rA (DN ZG (BK 3) BP)))) (BL (G3 (DN HS (KN (BK 3) BP) BP) (BL (CT (DX (BJ DG (BJ (kc "_law_mix" (BJ (BK 1) (BJ BP (BJ BP BW)))) BW)))) BZ) BZ) (BL (CT (DX (BJ DG (BJ (CW (BK 0) (kc "_law_mix" (BJ (BK 1) (BJ BP (BJ BP BW))))) BW)))) BZ)) BZ) (BL (CQ 4 (kc "_law_term" (BJ (BK 0) (BJ (GZ (KJ (BK 1) BP) BP) (BJ (bM (BK 2) BP) BW))))) (BL (CT (DX (BJ (CW (OD (BJ DG (BJ DG (BJ DG BW)))) (KN (BK 3) BP)) (BJ (BK 4) (BJ (kc "_law_term" (BJ (BK 0) (BJ (GZ (KJ (BK 1) BP) BP) (BJ (bM (BK 2) BP) BW)))) BW))))) BZ))))⟩
noncomputable def Y5:Fn:=⟨3,5,uQ.1⟩
abbrev ZK:List Str:=["_law_term_here"]
noncomputable def Z1:QE "_law_names_in" (top 39) ZK:=⟨_,by unfold QP QX;intros;exact BL (by with_reducible exact(G3 (DN HS (CW (BK 0) BP) DG) (BL (CT (OD (BJ (CW (BK 0) BP) BW))) BZ) BZ)) (by with_reducible exact(BL (G3 (DN HS (CW (BK 0) BP) DG) (BL (CT (OD BW)) BZ) BZ) (BL (CT (EA (kc "_law_names_in" (BJ (CW (BK 0) BP) BW)) (kc "_law_names_in" (BJ (CW (BK 0) BP) BW)))) BZ)))⟩
noncomputable def N6:Fn:=⟨1,1,Z1.1⟩
abbrev UL:List Str:=["_law_plan","_law_cell_here","_law_deep","_law_need","_law_names_here","_law_levels_here","_law_honest","_law_term_here","_law_high","_law_turn","_law_one","_law_more","_law_block_here","_law_some"]
noncomputable def uU:QE "_law_deed" (top 40) UL:=⟨_,by unfold QP QX;intros;exact BL (by with_reducible exact(Er (BK 0) (W8 (GX (GK 4) (GX (GK 5) (GX (GK 6) NZ)))))) (by with_reducible exact(BL (CQ 7 (kc "_law_term" (BJ (BK 4) (BJ (BK 1) (BJ (GZ BP (KN (BK 1) BP)) BW))))) (BL (CQ 8 (Po (EA (MN 1 ["_law_name_here"] UL UL (JB (kc "_law_names_in" (BJ (BK 7) BW))) (λ_ _ _ _ _=>(GK 14)) (λ_ _ _ _=>JN) (λ_ _ _ _=>(CW (BK 5) (nU (BK 4) (BK 14))))) (OD (BJ (BK 3) BW))))) (BL (CQ 9 (kc "_law_mix" (BJ (BK 1) (BJ BP (BJ BP BW))))) (BL (G3 (L2.PW.pt (YB (DN wA (BK 2) BP) (aF (DN ZG (BK 9) BP)))) (BL (CQ 10 (kc "_law_block" (BJ (BK 0) (BJ (GZ (KJ (BK 1) BP) BP) (BJ (bM (BK 2) BP) (BJ (BK 8) BW)))))) (BL (CT (DX (BJ DG (BJ (BK 7) (BJ (BK 10) (BJ (kc "_law_block" (BJ (BK 0) (BJ (GZ (KJ (BK 1) BP) BP) (BJ (bM (BK 2) BP) (BJ (BK 8) BW))))) BW)))))) BZ)) BZ) (BL (G3 (L2.PW.pt (YB (DN wA (BK 2) BP) (YB (DN ZG (BK 9) BP) (aF (L2.PW.pt (AX (DN HS (BK 3) BP) (rA (Ep (R3 (BK 6)))))))))) (BL (CQ 11 (DX (BJ DG (BJ (CW (BK 4) BP) (BJ (DX (BJ DG (BJ (DX (BJ DG (BJ (CW (BK 4) BP) BW))) (BJ (DX (BJ DG (BJ BP BW))) BW)))) BW))))) (BL (CQ 12 (kc "_law_block" (BJ (BK 0) (BJ (GZ (KJ (BK 1) BP) BP) (BJ (bM (BK 2) BP) (BJ (BK 3) BW)))))) (BL (G3 (R3 (BK 6)) (BL (CQ 7 (DX (BJ DG (BJ (DX (BJ DG (BJ (CW (BK 4) BP) BW))) (BJ (DX (BJ DG (BJ (kc "_law_mix" (BJ (BK 1) (BJ BP (BJ BP BW)))) BW))) BW))))) BZ) BZ) (BL (CT (DX (BJ DG (BJ (BK 7) (BJ (GZ (BK 12) (DX (BJ (BK 11) BW))) BW))))) BZ)))) BZ) (BL (A9 13 1 ["_law_k"] UL UL (bK BP) (λ_ _ _ _ _=>(GK 14)) (λ_ _ _ _=>(U0 (L2.PW.pt (AX (DN Gf (CW (BK 5) (BK 14)) (BK 8)) (rA (Ep (R3 (BK 6)))))))) (λ_ _ _ _=>(BK 14))) (BL (G3 (L2.PW.pt (YB (DN ZG (BK 9) BP) (aF (R3 (BK 13))))) (BL (CT (DX (BJ DG (BJ (CW (BK 4) (CW (BK 13) (kc "_law_mix" (BJ (BK 1) (BJ BP (BJ (rJ (BK 13)) BW)))))) (BJ (BK 7) BW))))) BZ) BZ) (BL (CT (DX (BJ DG (BJ (uK (kc "_law_mix" (BJ (BK 1) (BJ BP (BJ BP BW)))) (KJ (BK 8) (Mw (BK 6)))) (BJ (BK 7) BW))))) BZ)))))))))⟩
noncomputable def UG:bg:=uU.1
noncomputable def bA:Fn:=⟨4,14,UG⟩
abbrev XR:List Str:=["_law_plan","_law_cell_here","_law_deep","_law_need","_law_many"]
noncomputable def oG:QE "_law_block" (top 41) XR:=⟨_,by unfold QP QX;intros;exact BL (by with_reducible exact(CQ 4 (GZ BP (kc "_law_mix" (BJ (BK 1) (BJ BP (BJ BP BW))))))) (by with_reducible exact(BL (CT (J9 (MN 1 ["_law_k"] XR XR (bK (BK 4)) (λ_ _ _ _ _=>(GK 5)) (λ_ _ _ _=>JN) (λ_ _ _ _=>(kc "_law_deed" (BJ (BK 0) (BJ (GZ (KJ (BK 1) BP) (KJ BP (BK 5))) (BJ (BK 2) (BJ (BK 3) BW))))))))) BZ))⟩
noncomputable def Y7:Fn:=⟨4,5,oG.1⟩
abbrev RK:List Str:=["_law_script","_law_k","_law_honest","_law_plan","_law_cells"]
noncomputable def bY:QE "_law_program" (top 42) RK:=⟨_,by unfold QP QX;intros;exact BL (by with_reducible exact(CQ 2 (R5 wA (kc "_law_mix" (BJ (kc "_law_cell" (BJ (BK 0) (BJ BP BW))) (BJ BP (BJ BP BW)))) BP))) (by with_reducible exact(BL (CQ 3 (DX (BJ (kc "_law_names" (BJ (BK 0) BW)) (BJ (kc "_law_levels" (BJ (BK 0) BW)) (BJ (BK 2) BW))))) (BL (CQ 4 (WD (BK 0) (V3 (BK 1)) (V3 (GZ (GZ (BK 1) BP) (KN (kc "_law_cell" (BJ (BK 0) (BJ BP BW))) BP))))) (BL (CT (J9 (MN 1 ["_law_cell_here"] RK RK (JB (BK 4)) (λ_ _ _ _ _=>(GK 5)) (λ_ _ _ _=>JN) (λ_ _ _ _=>(kc "_law_deed" (BJ (BK 3) (BJ (BK 5) (BJ BP (BJ BP BW))))))))) BZ))))⟩
noncomputable def fC:Fn:=⟨2,5,bY.1⟩
abbrev qM:List Str:=["_law_script","_law_k","_law_found","_law_n","_law_name_here","_law_number"]
noncomputable def oA:QE "_law_store" (top 43) qM:=⟨_,by unfold QP QX;intros;exact BL (by with_reducible exact(CQ 2 (OD (mu:=true) BW))) (by with_reducible exact(BL (R4 (Ms (kc "_law_names" (BJ (BK 0) BW))) (W8 (GX (GK 3) (GX (GK 4) NZ))) (BL (CQ 5 (kc "_law_mix" (BJ (GZ (kc "_law_cell" (BJ (BK 0) (BJ (BK 1) BW))) (KJ BP (BK 3))) (BJ BP (BJ BP BW))))) (BL (G3 (DN HS (KN (kc "_law_cell" (BJ (BK 0) (BJ (BK 1) BW))) BP) BP) (BL (CQ 5 (KN (BK 5) BP)) BZ) BZ) (BL (IK (SJ (BK 2) (DX (BJ (BK 4) (BJ (BK 5) BW))))) BZ)))) (BL (CT (J9 (YD (BK 2)))) BZ)))⟩
noncomputable def qF:bg:=oA.1
noncomputable def qP:Fn:=⟨2,6,qF⟩
abbrev wO:List Str:=["_law_names_here","_law_seed","_law_name_here","_law_letters"]
noncomputable def uT:QE "_law_else" (top 44) wO:=⟨_,by unfold QP QX;intros;exact BL (by with_reducible exact(CQ 3 DG)) (by with_reducible exact(BL (CT (GZ (CW (BK 3) (KN (GZ (KJ BP (nU (BK 0) (BK 2))) (BK 1)) BP)) (WD DG YX (V3 (KN (BK 1) BP))))) BZ))⟩
noncomputable def wW:Fn:=⟨3,4,uT.1⟩
abbrev XH:List Str:=["_law_names_here","_law_seed","_law_term_here"]
noncomputable def WR:QE "_law_term_else" (top 45) XH:=⟨_,by unfold QP QX;intros;exact BL (by with_reducible exact(G3 (DN HS (CW (BK 2) BP) DG) (BL (CT (BK 2)) BZ) BZ)) (by with_reducible exact(BL (G3 (DN HS (CW (BK 2) BP) DG) (BL (CT (DX (BJ DG (BJ (kc "_law_else" (BJ (BK 0) (BJ (BK 1) (BJ (CW (BK 2) BP) BW)))) BW)))) BZ) BZ) (BL (CT (DX (BJ (CW (BK 2) BP) (BJ (kc "_law_term_else" (BJ (BK 0) (BJ (BK 1) (BJ (CW (BK 2) BP) BW)))) (BJ (kc "_law_term_else" (BJ (BK 0) (BJ (BK 1) (BJ (CW (BK 2) BP) BW)))) BW))))) BZ)))⟩
noncomputable def Y4:Fn:=⟨3,3,WR.1⟩
abbrev M9:List Str:=["_law_names_here","_law_seed","_law_block_here","_law_found","_law_deed_here","_law_inner"]
noncomputable def V5:QE "_law_block_else" (top 46) M9:=⟨_,by unfold QP QX;intros;exact BL (by with_reducible exact(CQ 3 (OD (mu:=true) BW))) (by with_reducible exact(BL (R4 (JB (BK 2)) (GK 4) (BL (G3 (DN HS (CW (BK 4) BP) DG) (BL (IK (SJ (BK 3) (DX (BJ DG (BJ (kc "_law_else" (BJ (BK 0) (BJ (BK 1) (BJ (CW (BK 4) BP) BW)))) (BJ (kc "_law_term_else" (BJ (BK 0) (BJ (BK 1) (BJ (CW (BK 4) BP) BW)))) BW)))))) BZ) (BL (G3 (DN HS (CW (BK 4) BP) DG) (BL (IK (SJ (BK 3) (DX (BJ DG (BJ (CW (BK 4) BP) (BJ (kc "_law_term_else" (BJ (BK 0) (BJ (BK 1) (BJ (CW (BK 4) BP) BW)))) BW)))))) BZ) (BL (CQ 5 (J9 (MN 1 ["_law_one"] M9 M9 (JB (WD (BK 4) (V3 BP) YX)) (λ_ _ _ _ _=>(GK 6)) (λ_ _ _ _=>JN) (λ_ _ _ _=>(kc "_law_block_else" (BJ (BK 0) (BJ (BK 1) (BJ (BK 6) BW)))))))) (BL (IK (SJ (BK 3) (GZ (DX (BJ (CW (BK 4) BP) (BJ (kc "_law_term_else" (BJ (BK 0) (BJ (BK 1) (BJ (CW (BK 4) BP) BW)))) BW))) (BK 5)))) BZ))) BZ)) BZ)) (BL (CT (J9 (BK 3))) BZ)))⟩
noncomputable def V8:bg:=V5.1
noncomputable def VD:Fn:=⟨3,6,V8⟩
abbrev M8:List Str:=["_law_names_here","_law_seed","_law_pairs"]
noncomputable def V4:QE "_law_pairs_else" (top 47) M8:=⟨_,by unfold QP QX;intros;exact BL (by with_reducible exact(CT (J9 (YD (MN 2 ["_law_name_here","_law_number"] M8 M8 (JB (BK 2)) (λ_ _ _ _ _=>(W8 (GX (GK 3) (GX (GK 4) NZ)))) (λ_ _ _ _=>JN) (λ_ _ _ _=>(DX (BJ (kc "_law_else" (BJ (BK 0) (BJ (BK 1) (BJ (BK 3) BW)))) (BJ (BK 4) BW))))))))) (by with_reducible exact BZ)⟩
noncomputable def VB:Fn:=⟨3,3,V4.1⟩
abbrev XQ:List Str:=["_law_names_here","_law_seed","_law_flow","_law_name_here","_law_target"]
noncomputable def WT:QE "_law_flow_else" (top 48) XQ:=⟨_,by unfold QP QX;intros;exact BL (by with_reducible exact(Er (BK 2) (W8 (GX (GK 3) (GX (GK 4) NZ))))) (by with_reducible exact(BL (G3 (DN HS (CW (BK 4) BP) DG) (BL (CQ 4 (DX (BJ DG (BJ (kc "_law_else" (BJ (BK 0) (BJ (BK 1) (BJ (CW (BK 4) BP) BW)))) BW)))) BZ) BZ) (BL (CT (DX (BJ (kc "_law_else" (BJ (BK 0) (BJ (BK 1) (BJ (BK 3) BW)))) (BJ (BK 4) BW)))) BZ)))⟩
noncomputable def Y6:Fn:=⟨3,5,WT.1⟩
abbrev wR:List Str:=["_law_script","_law_program_here","_law_names_here","_law_house_here","_law_store_here","_law_seed","_law_other","_law_one","_law_two","_law_mine","_law_found","_law_told"]
noncomputable def FU:QE "law" (top 49) wR:=⟨_,by unfold QP QX;intros;exact BL (by with_reducible exact(CQ 1 (kc "_law_program" (BJ (BK 0) (BJ BP BW))))) (by with_reducible exact(BL (CQ 2 (kc "_law_names" (BJ (BK 0) BW))) (BL (CQ 3 (kc "_law_house" (BJ (BK 0) BW))) (BL (CQ 4 (kc "_law_store" (BJ (BK 0) (BJ BP BW)))) (BL (CQ 5 (kc "_law_mix" (BJ (kc "_law_cell" (BJ (BK 0) (BJ BP BW))) (BJ BP (BJ BP BW))))) (BL (CQ 6 (kc "_law_block_else" (BJ (BK 2) (BJ (BK 5) (BJ (BK 1) BW))))) (BL (G3 (DN dI (rF (MN 1 ["_law_flow"] wR wR (JB (kc "flows" (BJ (BK 1) BW))) (λ_ _ _ _ _=>(GK 12)) (λ_ _ _ _=>JN) (λ_ _ _ _=>(kc "_law_flow_else" (BJ (BK 2) (BJ (BK 5) (BJ (BK 12) BW))))))) (jP (kc "flows" (BJ (BK 6) BW)))) (BL (CT gM) BZ) BZ) (BL (CQ 7 (kc "run" (BJ (BK 1) (BJ (BK 4) (BJ BP BW))))) (BL (CQ 8 (kc "run" (BJ (BK 6) (BJ (kc "_law_pairs_else" (BJ (BK 2) (BJ (BK 5) (BJ (BK 4) BW)))) (BJ BP BW))))) (BL (G3 (DN dI (DX (BJ (CW (BK 7) BP) (BJ (kc "_law_pairs_else" (BJ (BK 2) (BJ (BK 5) (BJ (CW (BK 7) BP) BW)))) (BJ (CW (BK 7) BP) BW)))) (BK 8)) (BL (CT gM) BZ) BZ) (BL (CQ 9 (kc "_law_pairs_else" (BJ (BK 2) (BJ (BK 5) (BJ (BK 3) BW))))) (BL (G3 (DN dI (kc "lets" (BJ (BK 1) (BJ (BK 3) BW))) (kc "lets" (BJ (BK 6) (BJ (BK 9) BW)))) (BL (CT gM) BZ) BZ) (BL (G3 (DN dI (kc "_law_block_else" (BJ (BK 2) (BJ (BK 5) (BJ (kc "cut" (BJ (BK 1) (BJ (BK 3) (BJ BP BW)))) BW)))) (kc "cut" (BJ (BK 6) (BJ (BK 9) (BJ BP BW))))) (BL (CT gM) BZ) BZ) (BL (CQ 10 (kc "settled" (BJ (BK 1) (BJ (WD (BK 3) YX (V3 BP)) BW)))) (BL (CQ 11 (kc "settled" (BJ (BK 6) (BJ (kc "_law_pairs_else" (BJ (BK 2) (BJ (BK 5) (BJ (WD (BK 3) YX (V3 BP)) BW)))) BW)))) (BL (G3 (DN HS (CW (BK 10) BP) DG) (BL (CT (R5 HS (CW (BK 11) BP) DG)) BZ) BZ) (BL (CT (R5 HS (BK 11) (DX (BJ DG (BJ (kc "_law_pairs_else" (BJ (BK 2) (BJ (BK 5) (BJ (CW (BK 10) BP) BW)))) BW))))) BZ)))))))))))))))))⟩
noncomputable def Gj:bg:=FU.1
noncomputable def tT:Fn:=⟨1,12,Gj⟩
noncomputable def rm:List En:=[⟨"names_of",top 4,["program"],eV,RL⟩,⟨"names_in_term",top 5,["term"],RT,NQ⟩,⟨"parts_of",top 6,["part"],eU,K5⟩,⟨"flows",top 8,["program"],wU,wX⟩,⟨"lets",top 9,["program","house"],n8,Fy⟩,⟨"gather_flows",top 10,["block","choosing","found"],TQ,vv⟩,⟨"add_flows",top 11,["names","target","found"],ZM,vt⟩,⟨"level_of",top 12,["target","levels"],eX,fJ⟩,⟨"cut",top 14,["program","house","level"],Gm,Gp⟩,⟨"cut_block",top 15,["block","levels","level"],Q9,ZP⟩,⟨"stays",top 16,["deed","levels","level"],aX,wV⟩,⟨"cut_deed",top 17,["deed","levels","level"],f9,fL⟩,⟨"run",top 19,["program","store","most"],wM,Gn⟩,⟨"number_of",top 20,["term","standing"],ZL,KC⟩,⟨"do_deeds",top 21,["program","standing","shown","most"],eZ,oo⟩,⟨"page_of",top 22,["shown","level"],UW,YQ⟩,⟨"store_of",top 23,["standing"],RJ,VR⟩,⟨"settled",top 25,["program","house"],QW,jA⟩,⟨"targets_by_name",top 26,["pairs"],Q8,QB⟩,⟨"names_reached",top 27,["starts","onward","told"],NP,vw⟩,⟨"trail_down",top 28,["level","came_from","onward","told"],XF,Y0⟩,⟨"is_below",top 29,["target","level","told"],eY,fK⟩,⟨"way_to",top 30,["name","came_from"],qL,qO⟩,⟨"_law_cell",top 32,p6,wQ,V0⟩,⟨"_law_mix",top 33,["_law_cell_here","_law_prime","_law_many"],Fx,QG⟩,⟨"_law_name",top 34,p6,aY,aZ⟩,⟨"_law_names",top 35,["_law_script"],XJ,fG⟩,⟨"_law_levels",top 36,["_law_script"],j9,YM⟩,⟨"_law_house",top 37,["_law_script"],XM,fH⟩,⟨"_law_term",top 38,["_law_names_here","_law_seed","_law_left"],wN,Y5⟩,⟨"_law_names_in",top 39,["_law_term_here"],ZK,N6⟩,⟨"_law_deed",top 40,["_law_plan","_law_cell_here","_law_deep","_law_need"],UL,bA⟩,⟨"_law_block",top 41,["_law_plan","_law_cell_here","_law_deep","_law_need"],XR,Y7⟩,⟨"_law_program",top 42,p6,RK,fC⟩,⟨"_law_store",top 43,p6,qM,qP⟩,⟨"_law_else",top 44,["_law_names_here","_law_seed","_law_name_here"],wO,wW⟩,⟨"_law_term_else",top 45,["_law_names_here","_law_seed","_law_term_here"],XH,Y4⟩,⟨"_law_block_else",top 46,["_law_names_here","_law_seed","_law_block_here"],M9,VD⟩,⟨"_law_pairs_else",top 47,["_law_names_here","_law_seed","_law_pairs"],M8,VB⟩,⟨"_law_flow_else",top 48,["_law_names_here","_law_seed","_law_flow"],XQ,Y6⟩,⟨"law",top 49,["_law_script"],wR,tT⟩]
noncomputable def ab:String->Option Fn:=λf=>List.lookup f (rm.map λe=>(e.f,e.F))
def Ds(P:Program)(w:World)(K:p4)(mg:Str->Option Value)(base:Heap)(W n:Nat):Prop:=∀f∈fns,Def P w K mg base n (CG W ab n) f
theorem qs:TX (λe=>QP e.f e.st e.N e.F.body) rm:=⟨c7.2,RN.2,bZ.2,uW.2,EJ.2,SQ.2,Z6.2,cA.2,FV.2,Z5.2,uP.2,cF.2,FR.2,Z4.2,cC.2,gU.2,bW.2,gQ.2,PN.2,RM.2,WQ.2,cB.2,o9.2,uV.2,EI.2,uR.2,oE.2,gR.2,oF.2,uQ.2,Z1.2,uU.2,oG.2,bY.2,oA.2,uT.2,WR.2,V5.2,V4.2,WT.2,FU.2,trivial⟩
theorem DL{w:World}{K:p4}{mg:Str->Option Value}{base:Heap}{W n:Nat}(T:Tp K mg)(D:Ds P w K mg base W n):∀{l:List En},TX (zd ab) l->TX (λe=>QP e.f e.st e.N e.F.body) l->TX (λe=>Hj P w K mg base W n (CG W ab n) e.f e.st e.N e.F.body) l
 | [],_,_=>trivial
 | _::_,⟨q,u⟩,⟨o,v⟩=>⟨λhr=>o P w K mg base W n _ _ _ _ _ _ _ _ T.WG T.WH T.WI T.WJ T.WN T.WO T.WS T.WU T.WV T.WZ T.Xa T.Xb T.Xc T.zp T.wo T.wt D hr (RY hr) (NL hr) (NJ hr) hr.units PassesOwn.never q.1.nd,DL T D u v⟩
end T
end
section
variable{C:String->List WL.D->WL.Mem->Option (WL.D×WL.Mem)}{W:Nat}{X:Option (WL.Out×WL.Mem)}{c:Bool}{e2:WL.Ex}{g:WL.Tg}{xs:List WL.D}{ab:String->Option WL.Fn}
section
set_option genInjectivity false
namespace WW
inductive Op where
 | sum | times | less
 deriving DecidableEq
noncomputable def Op.ap:Op->Int->Int->Int
 | .sum,a,b=>(a+b) % 997
 | .times,a,b=>(a*b) % 997
 | .less,a,b=>if a<b then 1 else 0
section
variable{N:Type}
inductive Tm (N:Type) where
 | num (n:Int)
 | ee (x:N)
 | bin (o:Op) (a b:Tm N)
noncomputable def Tm.val(f:N->Int):Tm N->Int
 | .num n=>n
 | .ee x=>f x
 | .bin o a b=>o.ap (a.val f) (b.val f)
noncomputable def Tm.dep:Tm N->Nat
 | .num _=>0
 | .ee _=>0
 | .bin _ a b=>max a.dep b.dep+1
noncomputable def Tm.names:Tm N->List N
 | .num _=>[]
 | .ee x=>[x]
 | .bin _ a b=>a.names++b.names
def Tm.Ok(P:N->Prop):Tm N->Prop
 | .num n=>0<=n/\n<997
 | .ee x=>P x
 | .bin _ a b=>a.Ok P/\b.Ok P
theorem Op.Td(o:Op)(a b:Int):0<=o.ap a b/\o.ap a b<997:=by
 cases o with
 | sum=>simp only[Op.ap];lia
 | times=>
  simp only[Op.ap];exact⟨Int.emod_nonneg _ (by decide),Int.emod_lt_of_pos _ (by decide)⟩
 | less=>simp only[Op.ap];split<;>lia
theorem Tm.Ea(hf:∀x,0<=f x/\f x<997):∀{t:Tm N},t.Ok P->0<=t.val f/\t.val f<997
 | .num _,h=>h
 | .ee x,_=>hf x
 | .bin o _ _,_=>o.Td _ _
theorem Tm.Ok.names:∀{t:Tm N},t.Ok P->∀x∈t.names,P x
 | .num _,_,x,hx=>by simp[Tm.names]at hx
 | .ee y,h,x,hx=>by
  have:x=y:=by simpa[Tm.names] using hx
  rw[this];exact h
 | .bin _ a b,h,x,hx=>by
  rcases cz hx with hx | hx
  .exact h.1.names x hx
  .exact h.2.names x hx
mutual
inductive Dd (N:Type) where
 | put (x:N) (t:Tm N)
 | cv (l:Int) (t:Tm N)
 | ite (t:Tm N) (b c:Bl N)
 | bo (t:Tm N) (b:Bl N)
inductive Bl (N:Type) where
 | nil
 | cons (d:Dd N) (b:Bl N)
end
noncomputable def Bl.list:Bl N->List (Dd N)
 | .nil=>[]
 | .cons d b=>d::b.list
noncomputable def Bl.of:List (Dd N)->Bl N
 | []=>.nil
 | d::r=>.cons d (Bl.of r)
theorem Bl.DB:∀l:List (Dd N),(Bl.of l).list=l
 | []=>rfl
 | d::r=>by show d::(Bl.of r).list=_;rw[Bl.DB r]
noncomputable def Bl.app:Bl N->Bl N->Bl N
 | .nil,c=>c
 | .cons d b,c=>.cons d (b.app c)
theorem Bl.Jq:∀b c:Bl N,(b.app c).list=b.list++c.list
 | .nil,_=>rfl
 | .cons d b,c=>by show d::(b.app c).list=_;rw[Bl.Jq b c];rfl
mutual
noncomputable def Dd.size:Dd N->Nat
 | .put _ _=>1
 | .cv _ _=>1
 | .ite _ b c=>b.size+c.size+1
 | .bo _ b=>b.size+1
noncomputable def Bl.size:Bl N->Nat
 | .nil=>0
 | .cons d b=>d.size+b.size
end
mutual
noncomputable def Dd.dep:Dd N->Nat
 | .put _ t=>t.dep
 | .cv _ t=>t.dep
 | .ite t b c=>max t.dep (max b.dep c.dep)+1
 | .bo t b=>max t.dep b.dep+1
noncomputable def Bl.dep:Bl N->Nat
 | .nil=>0
 | .cons d b=>max d.dep b.dep
end
mutual
def Dd.Ok(P:N->Prop):Dd N->Prop
 | .put x t=>P x/\t.Ok P
 | .cv l t=>(0<=l/\l<3)/\t.Ok P
 | .ite t b c=>t.Ok P/\b.Ok P/\c.Ok P
 | .bo t b=>t.Ok P/\b.Ok P
def Bl.Ok(P:N->Prop):Bl N->Prop
 | .nil=>True
 | .cons d b=>d.Ok P/\b.Ok P
end
theorem Dd.size_pos:∀d:Dd N,0<d.size
 | .put _ _=>Nat.one_pos
 | .cv _ _=>Nat.one_pos
 | .ite _ _ _=>Nat.succ_pos _
 | .bo _ _=>Nat.succ_pos _
noncomputable def gz:List (Dd N)->Nat
 | []=>0
 | d::r=>d.size+gz r
theorem J1:∀b:Bl N,gz b.list=b.size
 | .nil=>rfl
 | .cons d b=>by show d.size+gz b.list=d.size+b.size;rw[J1 b]
theorem YC:∀a b:List (Dd N),gz (a++b)=gz a+gz b
 | [],b=>by simp[gz]
 | d::a,b=>by show d.size+gz (a++b)=d.size+gz a+gz b;rw[YC a b];lia
theorem bJ:∀{l:List (Dd N)} {d:Dd N},d∈l->d.size<=gz l
 | [],_,h=>nomatch h
 | e::r,d,h=>by
  rcases ck h with h | h
  .subst h;exact wg _ _
  .exact eJ (bJ h) (Nat.le_add_left _ _)
theorem Bl.Ok.mem:∀{b:Bl N},b.Ok P->∀d∈b.list,d.Ok P
 | .nil,_,d,h=>nomatch h
 | .cons e b,h,d,hd=>by
  rcases ck hd with hd | hd
  .subst hd;exact h.1
  .exact Bl.Ok.mem h.2 d hd
theorem Bl.wa:∀{b:Bl N} {d:Dd N},d∈b.list->d.dep<=b.dep
 | .nil,_,h=>nomatch h
 | .cons e b,d,h=>by
  rcases ck h with h | h
  .subst h;exact Nat.le_max_left _ _
  .exact eJ (Bl.wa h) (Nat.le_max_right _ _)
variable[DecidableEq N]
noncomputable def MF(f:N->Int)(x:N)(v:Int):N->Int:=λy=>if y=x then v else f y
structure S(N:Type) where
 st:List (Dd N)
 f:N->Int
 sh:List (Int×Int)
 t:Int
structure R(N:Type) where
 t:Option Int
 f:N->Int
 sh:List (Int×Int)
noncomputable def step(most:Int)(s:S N):S N ⊕ R N:=match s.st with
 | []=>.inr ⟨some s.t,s.f,s.sh⟩
 | .put x e::r=>.inl ⟨r,MF s.f x (e.val s.f),s.sh,s.t⟩
 | .cv l e::r=>.inl ⟨r,s.f,s.sh++[(l,e.val s.f)],s.t⟩
 | .ite e b c::r=>.inl ⟨(if e.val s.f≠0 then b.list else c.list)++r,s.f,s.sh,s.t⟩
 | .bo e b::r=>if e.val s.f≠0 then (if s.t≥most then .inr ⟨none,s.f,s.sh⟩ else .inl ⟨b.list++.bo e b::r,s.f,s.sh,s.t+1⟩) else .inl ⟨r,s.f,s.sh,s.t⟩
inductive Runs (most:Int):S N->R N->Prop where
 | done {s:S N} {r:R N}:step most s=.inr r->Runs most s r
 | next {s s':S N} {r:R N}:step most s=.inl s'->Runs most s' r->Runs most s r
theorem Runs.det{most:Int}{s:S N}{r:R N}(h:Runs most s r):∀{bE:R N},Runs most s bE->r=bE:=by
 induction h with
 | done e=>
  intro bE h';cases h' with
  | done aE=>rw[e]at aE;exact iw aE
  | next aE _=>rw[e]at aE;cases aE
 | next e _ ih=>
  intro bE h';cases h' with
  | done aE=>rw[e]at aE;cases aE
  | next aE q=>rw[e]at aE;cases aE;exact ih q
noncomputable def je(sh:List (Int×Int))(l:Int):List Int:=(sh.filter λp=>p.1=l).map (·.2)
end
end WW
end
namespace WL
open PySem L2
@[simp] theorem ofString_eq:(Str.ofString a=Str.ofString b)=(a=b):=by
 apply propext;refine⟨λh=>?_,λh=>by rw[h]⟩;rw[Str.ofString_eq_toList,Str.ofString_eq_toList]at h;have h1:a.toList.map Char.toNat=b.toList.map Char.toNat:=by simpa using congrArg (λs:Str=>s.cps.toList) h
 have h2:a.toList=b.toList:=List.map_inj_right (λx y h=>Char.toNat_inj.mp h) |>.mp h1;exact String.toList_inj.mp h2
section
variable{m:Mem}
@[simp] theorem Oa(a b:Str):kH (.str a) (.str b)=some (decide (a=b)):=rfl
@[simp] theorem Ob(a b:Int):kH (.int a) (.int b)=some (decide (a=b)):=rfl
@[simp] theorem QA(a b:D):N5 .eq a b=kH a b:=rfl
@[simp] theorem Fp(a b:D):N5 .ne a b=(kH a b).map (!·):=rfl
@[simp] theorem ZA(a b:Int):N5 .lt (.int a) (.int b)=some (decide (a<b)):=rfl
@[simp] theorem ZE(a b:Int):N5 .le (.int a) (.int b)=some (decide (a<=b)):=rfl
@[simp] theorem cmp_gt(a b:Int):N5 .gt (.int a) (.int b)=some (decide (b<a)):=rfl
@[simp] theorem ZN(a b:Int):N5 .ge (.int a) (.int b)=some (decide (b<=a)):=rfl
@[simp] theorem ZH(a:D):N5 .is a .au=some a.qy:=rfl
@[simp] theorem Zv(a:D)(b:Bool):N5 .is a (.bl b)=some (a.sD b):=rfl
@[simp] theorem Zh(a:D)(b:Bool):N5 .qz a (.bl b)=some (!a.sD b):=rfl
@[simp] theorem Zu(b c:Bool):D.sD b (.bl c)=(c==b):=rfl
@[simp] theorem Zl(a:D):N5 .qz a .au=some (!a.qy):=rfl
@[simp] theorem Zj:D.qy .au=true:=rfl
@[simp] theorem Zk(i:Int):D.qy (.int i)=false:=rfl
@[simp] theorem Ei(b:Bool):jF (.bl b) m=some b:=rfl
@[simp] theorem Zs(xs:List D):jF (.lst xs) m=some (!xs.isEmpty):=rfl
@[simp] theorem Zx(a b:Int):YK .add (.int a) (.int b) m=some (.int (a+b),m):=rfl
@[simp] theorem Zw(a b:Int):YK .sub (.int a) (.int b) m=some (.int (a-b),m):=rfl
theorem X6(h:-(2 ^ 64)<b/\b<2 ^ 64):YK .mul (.int a) (.int b) m=some (.int (a*b),m):=ag (.inr h)
theorem QT(h:-(2 ^ 64)<a/\a<2 ^ 64):YK .mul (.int a) (.int b) m=some (.int (a*b),m):=ag (.inl h)
theorem K3{a b:Int}(h:0<b):YK .mod (.int a) (.int b) m=some (.int (a % b),m):=ag h
theorem mG(h:a.length+b.length<=1000):YK .add (.str a) (.str b) m=some (.str (a++b),m):=ag h
theorem KR(h:a.length+b.length<=10000):YK .add (.tup a) (.tup b) m=some (.tup (a++b),m):=ag h
@[simp] theorem Jl(xs:List D)(i:Int):jz (.tup xs) (.int i) m=c9 xs i:=rfl
@[simp] theorem Zz(xs:List D)(i:Int):jz (.lst xs) (.int i) m=c9 xs i:=rfl
@[simp] theorem Zy(xs:List Int)(i:Int):jz (.bP xs) (.int i) m=(c9 xs i).map .int:=rfl
theorem RD{xs:List α}{i:Nat}:c9 xs (i:Int)=xs[i]?:=by
 unfold c9 uA
 by_cases h:i<xs.length
 .rw[ag (Int.natCast_nonneg i),ag (by lia)]
  simp
 .rw[ag (Int.natCast_nonneg i),ak (by lia)]
  simp[List.getElem?_eq_none (by lia:xs.length<=i)]
@[simp] theorem ZY{α:Type}{a:α}{r:List α}:c9 (a::r) 0=some a:=RD (i:=0)
@[simp] theorem ZU{a b:α}:c9 (a::b::r) 1=some b:=RD (i:=1)
@[simp] theorem ZT{a b c:α}:c9 (a::b::c::r) 2=some c:=RD (i:=2)
@[simp] theorem ZO{a b c d:α}:c9 (a::b::c::d::r) 3=some d:=RD (i:=3)
@[simp] theorem Zq(i:Int):D.clean (.int i)=true:=rfl
@[simp] theorem Zn(i:Str):D.clean (.str i)=true:=rfl
@[simp] theorem Zr(i:Bool):D.clean (.bl i)=true:=rfl
@[simp] theorem Zo:D.clean .au=true:=rfl
@[simp] theorem Zm(xs:List D):D.clean (.tup xs)=D.clean.cy xs:=rfl
@[simp] theorem Zp(xs:List D):D.clean (.lst xs)=D.clean.cy xs:=rfl
@[simp] theorem Zi:D.clean.cy []=true:=rfl
@[simp] theorem Zg(a:D)(r:List D):D.clean.cy (a::r)=(a.clean&&D.clean.cy r):=rfl
theorem iB(h:d.clean=true):outD n m d=some d:=by
 cases d with
 | ao i=>cases h
 | _=>simp only[outD,h,if_true]
theorem O8(h:ab f=some F)(hl:xs.length=F.ps):CG W ab (n+1) f xs m=(aI (CG W ab n) W F.body (xs.map some++List.replicate (F.ns-F.ps) none) m).bind λz=>match z.1 with
    | .rt d=>(outD m.length z.2 d).map λd=>(d,z.2.take m.length)
    | .nx _=>some (.au,z.2.take m.length):=by
 show (ab f).bind _=_;rw[h,bu,ag hl]<;>
 rfl
theorem CV{f:String}{F:Fn}{n:Nat}{d:D}(h:ab f=some F)(hl:xs.length=F.ps)(hc:d.clean=true)(e:aI (CG W ab n) W F.body (xs.map some++List.replicate (F.ns-F.ps) none) m=some (.rt d,m)):CG W ab (n+1) f xs m=some (d,m):=by
 rw[O8 h hl,e];simp only[bu,iB hc,jh,List.take_length]
@[simp] theorem Zt:Walk.ok ⟨xs,none⟩ m=true:=rfl
end
end WL
namespace WL
open PySem L2
section
variable{m:Mem}
theorem pJ{w:Walk}{f:D->Mem->Option (Option D×Mem)}{g:D->Option D}(e:w.ok m=true):∀{xs:List D},(∀d∈xs,f d m=some (g d,m))->T9 w f xs m=some (xs.filterMap g,m)
 | [],_=>by simp[T9,e]
 | d::r,h=>by
  simp only[T9,e,if_true,h d b0,bu];rw[pJ e λx hx=>h x (b7 _ hx)];cases hp:g d<;>simp[List.filterMap_cons,hp]
theorem pB{k:Nat}{i:Ie}{t:Te}{e:Ex}{σ:DS}{q:Option Nat}{h:D->Option D}(hw:Walk.ok ⟨xs,q⟩ m=true)(ho:lL σ.length g=true)(hi:ei C i σ m=some (⟨xs,q⟩,m))(hl:xs.length<=1000)(hf:∀d∈xs,∃σ1 c,JQ g d (σ++List.replicate k none)=some σ1/\et C t σ1 m=some (c,m)/\(if c=true then (h d).isSome=true/\ev C e σ1 m=some ((h d).getD .au,m) else h d=none)):ev C (.comp false k g i t e) σ m=some (.lst (xs.filterMap h),m):=by
 have key:=pJ (w:=⟨xs,q⟩) (m:=m) (g:=h) hw (xs:=xs) (f:=λd m=>(JQ g d (σ++List.replicate k none)).bind λ σ1=>(et C t σ1 m).bind λ(c,m2)=>if c then (ev C e σ1 m2).map λ(y,m3)=>(some y,m3) else some (none,m2)) (λd hd=>by
  obtain⟨σ1,c,e1,e2,e3⟩:=hf d hd;cases c with
  | true=>
   rw[ag rfl]at e3;obtain⟨e3,e4⟩:=e3;simp only[e1,e2,bu,if_true,e4,jh];cases hh:h d with
   | none=>rw[hh]at e3;cases e3
   | some y=>rfl
  | false=>
   rw[ak (by decide)]at e3;simp only[e1,e2,bu,e3];rfl)
 show (if lL σ.length g=true then (ei C i σ m).bind _ else none)=_;rw[ag ho,hi];simp only[bu];rw[key];simp only[bu,bw];have:=List.length_filterMap_le h xs;rw[ag (by lia)];rfl
theorem lM{k:Nat}{i:Ie}{t:Te}{e:Ex}{σ:DS}{h:D->Option D}(ho:lL σ.length g=true)(hi:ei C i σ m=some (⟨xs,none⟩,m))(hl:xs.length<=1000)(hf:∀d∈xs,∃σ1 c,JQ g d (σ++List.replicate k none)=some σ1/\et C t σ1 m=some (c,m)/\(if c=true then (h d).isSome=true/\ev C e σ1 m=some ((h d).getD .au,m) else h d=none)):ev C (.comp false k g i t e) σ m=some (.lst (xs.filterMap h),m):=pB rfl ho hi hl hf
theorem K7{k:Nat}(h:D->D)(ho:lL σ.length g=true)(hi:ei C i σ m=some (⟨xs,none⟩,m))(hl:xs.length<=1000)(hf:∀d∈xs,∃σ1,JQ g d (σ++List.replicate k none)=some σ1/\et C t σ1 m=some (true,m)/\ev C e σ1 m=some (h d,m)):ev C (.comp false k g i t e) σ m=some (.lst (xs.map h),m):=by
 have:=lM (C:=C) (k:=k) (g:=g) (i:=i) (t:=t) (e:=e) (h:=λd=>some (h d)) ho hi hl (λd hd=>by
  obtain⟨σ1,e1,e2,e3⟩:=hf d hd;exact⟨σ1,true,e1,e2,by rw[ag rfl];exact⟨rfl,e3⟩⟩)
 rw[this,ki]
end
theorem bL:ev C (.var i) σ m=match σ[i]? with | some (some d)=>some (d,m) | _=>none:=rfl
theorem FI:ev C (.con d) q0 m=some (d,m):=rfl
theorem Rn:ev C (.cmp o a b) σ m=(ev C a σ m).bind λ(x,m1)=>(ev C b σ m1).bind λ(y,m2)=>(N5 o x y).map λc=>(.bl c,m2):=rfl
theorem Pl:ev C (.tup as) σ m=(gn C as σ m).bind λ(xs,m1)=>if xs.length<=1000 then some (.tup xs,m1) else none:=rfl
theorem Pk:ev C (.ix a b) σ m=(ev C a σ m).bind λ(x,m1)=>(ev C b σ m1).bind λ(y,m2)=>(jz x y m2).map λd=>(d,m2):=rfl
theorem Et:ev C (.sF a b) σ m=(ev C a σ m).bind λ(x,m1)=>(ev C b σ m1).bind λ(y,m2)=>(HN x m2).bind λ(ks,vs)=>(O5 y).bind λk=>(HB ks vs k).map λd=>(d,m2):=rfl
theorem Pj:ev C (.get d k z) σ m=(ev C d σ m).bind λ(x,m1)=>(HN x m1).bind λ_=>(ev C k σ m1).bind λ(y,m2)=>(ev C z σ m2).bind λ(u,m3)=>(HN x m3).bind λ(ks,vs)=>(O5 y).map λk=>((HB ks vs k).getD u,m3):=rfl
theorem Ph:ev C (.pop a) σ m=(ev C a σ m).bind λ(x,m1)=>match x with
  | .ao i=>match m1[i]? with
   | some (.lst xs)=>(xs[xs.length-1]?).map λd=>(d,m1.set i (.lst xs.dropLast))
   | _=>none
  | _=>none:=rfl
theorem Pg:gn C .nil q0 m=some ([],m):=rfl
theorem Pf:gn C (.cons a r) σ m=(ev C a σ m).bind λ(x,m1)=>(gn C r σ m1).map λ(xs,m2)=>(x::xs,m2):=rfl
theorem Ym:et C (.val a) σ m=(ev C a σ m).bind λ(x,m1)=>(jF x m1).map λc=>(c,m1):=rfl
theorem FH:ex C W (.set i a) σ m=(ev C a σ m).map λ(x,m1)=>(.nx (σ.set i (some x)),m1):=rfl
theorem Es:aI C W (.cons s r) σ m=(ex C W s σ m).bind λ(o,m1)=>match o with
  | .nx σ'=>aI C W r σ' m1
  | .rt d=>some (.rt d,m1):=rfl
end WL
namespace WL
open PySem L2
section
variable{m m1 m2:Mem}{σ σ':DS}{r a b:bg}{e:Ex}{t:Te}{d:D}{i:Nat}
theorem CJ(h:ev C e σ m=some (d,m1))(k:aI C W r (σ.set i (some d)) m1=X):aI C W (.cons (.set i e) r) σ m=X:=by
 show ((ev C e σ m).map _).bind _=_;rw[h];exact k
theorem qU(h:ev C e σ m=some (d,m1))(hb:JQ g d σ=some σ')(k:aI C W r σ' m1=X):aI C W (.cons (.asg g e) r) σ m=X:=by
 show ((ev C e σ m).bind _).bind _=_;rw[h];show ((JQ g d σ).map _).bind _=X;rw[hb];exact k
theorem HX(h:ev C e σ m=some (d,m1))(k:aI C W r σ m1=X):aI C W (.cons (.drop e) r) σ m=X:=by
 show ((ev C e σ m).map _).bind _=_;rw[h];exact k
theorem CP(h:ev C e σ m=some (d,m1)):aI C W (.cons (.ret e) r) σ m=some (.rt d,m1):=by
 show ((ev C e σ m).map _).bind _=_;rw[h];rfl
theorem EY(h:et C t σ m=some (false,m1))(k:aI C W r σ m1=X):aI C W (.cons (.ite t a .nil) r) σ m=X:=by
 show ((et C t σ m).bind _).bind _=_;rw[h];show (aI C W .nil σ m1).bind _=X;exact k
theorem FZ(h:et C t σ m=some (true,m1))(k:aI C W a σ m1=some (.rt d,m2)):aI C W (.cons (.ite t a b) r) σ m=some (.rt d,m2):=by
 show ((et C t σ m).bind _).bind _=_;rw[h];show (aI C W a σ m1).bind _=_;rw[k];rfl
theorem qT(h:et C t σ m=some (false,m1))(k:aI C W b σ m1=some (.rt d,m2)):aI C W (.cons (.ite t a b) r) σ m=some (.rt d,m2):=by
 show ((et C t σ m).bind _).bind _=_;rw[h];show (aI C W b σ m1).bind _=_;rw[k];rfl
theorem JG(h:et C t σ m=some (true,m1))(k:aI C W a σ m1=some (.nx σ',m2))(q:aI C W r σ' m2=X):aI C W (.cons (.ite t a b) r) σ m=X:=by
 show ((et C t σ m).bind _).bind _=_;rw[h];show (aI C W a σ m1).bind _=_;rw[k];exact q
theorem QZ{i:Ie}{w:Walk}(h:ei C i σ m=some (w,m1))(k:forL w g (λ σ m=>aI C W b σ m) w.xs σ m1=some (.nx σ',m2))(q:aI C W r σ' m2=X):aI C W (.cons (.fr g i b) r) σ m=X:=by
 show ((ei C i σ m).bind _).bind _=_;rw[h];show (forL w g (λ σ m=>aI C W b σ m) w.xs σ m1).bind _=_;rw[k];exact q
theorem AY{i:Ie}:ex C W (.fr g i b) σ m=(ei C i σ m).bind λ(w,m1)=>forL w g (λ σ m=>aI C W b σ m) w.xs σ m1:=rfl
theorem J5{p:Prop}[Decidable p](h:et C t σ m=some (decide p,m1))(hp:p):et C t σ m=some (true,m1):=by
 rw[h,dm hp]
theorem G7{p:Prop}[Decidable p](h:et C t σ m=some (decide p,m1))(hp:¬p):et C t σ m=some (false,m1):=by
 rw[h,dn hp]
theorem Se{p:Prop}[Decidable p](h:et C t σ m=some (!decide p,m1))(hp:p):et C t σ m=some (false,m1):=by
 rw[h,dm hp];rfl
theorem F8{p:Prop}[Decidable p](h:et C t σ m=some (!decide p,m1))(hp:¬p):et C t σ m=some (true,m1):=by
 rw[h,dn hp];rfl
theorem GU(h:et C t σ m=some (c,m1))(hc:c=df):et C t σ m=some (df,m1):=hc▸h
theorem PJ(h:et C t σ m=some (true,m1))(k:et C s σ m1=some (c,m2)):et C (.and t s) σ m=some (c,m2):=by
 show (et C t σ m).bind _=_;rw[h];exact k
theorem U9(h:et C t σ m=some (false,m1)):et C (.and t s) σ m=some (false,m1):=by
 show (et C t σ m).bind _=_;rw[h];rfl
theorem Be(h:et C t σ m=some (false,m1))(k:et C s σ m1=some (c,m2)):et C (.or t s) σ m=some (c,m2):=by
 show (et C t σ m).bind _=_;rw[h];exact k
theorem Fg(h:et C t σ m=some (true,m1)):et C (.or t s) σ m=some (true,m1):=by
 show (et C t σ m).bind _=_;rw[h];rfl
theorem GD(h:ev C e σ m=some (d,m1))(k:jF d m1=some c):et C (.val e) σ m=some (c,m1):=by
 show (ev C e σ m).bind _=_;rw[h];show (jF d m1).map _=_;rw[k];rfl
theorem BX{f:String}{as:i5}{z:D×Mem}(k:C f xs m1=some z)(h:gn C as σ m=some (xs,m1)):ev C (.call f as) σ m=some z:=by
 show (gn C as σ m).bind _=_;rw[h];exact k
theorem BR(h:ev C e σ m=some (d,m1))(k:gn C as σ m1=some (xs,m2)):gn C (.cons e as) σ m=some (d::xs,m2):=by
 show (ev C e σ m).bind _=_;rw[h];show (gn C as σ m1).map _=_;rw[k];rfl
theorem FJ{o:By}{d2:D}{z:D×Mem}(h:ev C e σ m=some (d,m1))(k:ev C e2 σ m1=some (d2,m2))(q:YK o d d2 m2=some z):ev C (.bin o e e2) σ m=some z:=by
 show (ev C e σ m).bind _=_;rw[h];show (ev C e2 σ m1).bind _=_;rw[k];exact q
theorem HJ{o:rg}{d2:D}(h:ev C e σ m=some (d,m1))(k:ev C e2 σ m1=some (d2,m2))(q:N5 o d d2=some c):ev C (.cmp o e e2) σ m=some (.bl c,m2):=by
 show (ev C e σ m).bind _=_;rw[h];show (ev C e2 σ m1).bind _=_;rw[k];show (N5 o d d2).map _=_;rw[q];rfl
theorem Ff(h:ev C e σ m=some (.lst xs,m1))(k:ev C e2 σ m1=some (.lst ys,m2))(hl:xs.length+ys.length<=10000):ev C (.cat false e e2) σ m=some (.lst (xs++ys),m2):=by
 show (ev C e σ m).bind _=_;rw[h];show (ev C e2 σ m1).bind _=_;rw[k];show (if xs.length+ys.length<=10000 then some (bw false (xs++ys) m2) else none)=_;rw[ag hl];rfl
theorem MP(h:ev C e σ m=some (d,m1))(k:ev C e2 σ m1=some (d2,m2))(q:jz d d2 m2=some d3):ev C (.ix e e2) σ m=some (d3,m2):=by
 show (ev C e σ m).bind _=_;rw[h];show (ev C e2 σ m1).bind _=_;rw[k];show (jz d d2 m2).map _=_;rw[q];rfl
theorem G6(h:gn C as σ m=some (xs,m1))(hl:xs.length<=1000):ev C (.tup as) σ m=some (.tup xs,m1):=by
 show (gn C as σ m).bind _=_;rw[h];show (if xs.length<=1000 then some (D.tup xs,m1) else none)=_;rw[ag hl]
theorem vN{i j:Int}(h:ev C e σ m=some (.int i,m1))(k:ev C e2 σ m1=some (.int j,m2)):ev C (.max2 e e2) σ m=some (.int (if j > i then j else i),m2):=by
 show (ev C e σ m).bind _=_;rw[h];show (ev C e2 σ m1).bind _=_;rw[k];rfl
theorem sW(h:et C t σ m=some (c,m1))(k:et C s σ m1=some (c2,m1)):et C (.or t s) σ m=some (c||c2,m1):=by
 show (et C t σ m).bind _=_;rw[h];cases c
 .exact k
 .rfl
theorem OY(h:xs≠[]):jF (.lst xs) m=some true:=by
 cases xs with
 | nil=>exact absurd rfl h
 | cons a r=>rfl
theorem GC(h:ev C e σ m=some (d,m1))(q:de o d m1=some z):ev C (.b1 o e) σ m=some z:=by
 show (ev C e σ m).bind _=_;rw[h];exact q
theorem Fd(h:et C t σ m=some (c,m1))(q:(if c then ev C e σ m1 else ev C e2 σ m1)=some z):ev C (.uz t e e2) σ m=some z:=by
 show (et C t σ m).bind _=_;rw[h];exact q
theorem HY(h:et C t σ m=some (false,m1))(k:aI C W b σ m1=some (.nx σ',m2))(q:aI C W r σ' m2=X):aI C W (.cons (.ite t a b) r) σ m=X:=by
 show ((et C t σ m).bind _).bind _=_;rw[h];show (aI C W b σ m1).bind _=_;rw[k];exact q
theorem jE{dd k v:Ex}{z y:D}{m3:Mem}{i:Nat}{kk:Key}{ks:List Key}{vs:List D}(hv:ev C v σ m=some (z,m1))(hd:ev C dd σ m1=some (.ao i,m2))(hk:ev C k σ m2=some (y,m3))(hm:m3[i]?=some (.aq ks vs))(hy:O5 y=some kk)(hc:z.clean=true)(hl:ks.length<10000)(q:aI C W r σ (m3.set i (.aq (putD ks vs kk z).1 (putD ks vs kk z).2))=X):aI C W (.cons (.put dd k v) r) σ m=X:=by
 show ((ev C v σ m).bind _).bind _=_;rw[hv];show ((ev C dd σ m1).bind _).bind _=_;rw[hd];show ((ev C k σ m2).bind _).bind _=_;rw[hk];simp only[bu,hm,hy,hc,hl,decide_true,Bool.and_self,if_true];exact q
theorem QF(h:ev C e σ m=some (.ao i,m))(k:ev C e2 σ m=some (d,m))(hm:m[i]?=some (.lst xs))(hc:d.clean=true)(hl:xs.length<100000):ev C (.app e e2) σ m=some (.au,m.set i (.lst (xs++[d]))):=by
 show (ev C e σ m).bind _=_;rw[h];show (G5 (.ao i) m).bind _=_;rw[show G5 (.ao i) m=some xs by simp only[G5,hm]];show (ev C e2 σ m).bind _=_;rw[k];simp only[bu,hm,hc,hl,decide_true,Bool.and_self,if_true]
theorem Fe(h:ev C e σ m=some (.ao i,m))(k:ev C e2 σ m=some (.lst ys,m))(hm:m[i]?=some (.lst xs))(hc:D.clean.cy ys=true)(hl:xs.length+ys.length<=100000):ev C (.ext e e2) σ m=some (.au,m.set i (.lst (xs++ys))):=by
 show (ev C e σ m).bind _=_;rw[h];show (G5 (.ao i) m).bind _=_;rw[show G5 (.ao i) m=some xs by simp only[G5,hm]];show (ev C e2 σ m).bind _=_;rw[k];simp only[bu,hm,hc,hl,decide_true,Bool.and_self,if_true]
theorem Qt(h:ev C e σ m=some (.ao i,m))(hm:m[i]?=some (.lst xs))(hx:xs[xs.length-1]?=some d):ev C (.pop e) σ m=some (d,m.set i (.lst xs.dropLast)):=by
 show (ev C e σ m).bind _=_;rw[h];simp only[bu,hm,hx,jh]
theorem N9(h:ev C e σ m=some (.ao i,m))(k:ev C e2 σ m=some (.tup ys,m))(hm:m[i]?=some (.lst xs))(hc:D.clean.cy ys=true)(hl:xs.length+ys.length<=100000):ev C (.ext e e2) σ m=some (.au,m.set i (.lst (xs++ys))):=by
 show (ev C e σ m).bind _=_;rw[h];show (G5 (.ao i) m).bind _=_;rw[show G5 (.ao i) m=some xs by simp only[G5,hm]];show (ev C e2 σ m).bind _=_;rw[k];simp only[bu,hm,hc,hl,decide_true,Bool.and_self,if_true]
theorem bC(h:m[i]?=some (.lst xs)):jF (.ao i) m=some (!xs.isEmpty):=by
 show (match m[i]? with | some (.lst xs)=>some (!xs.isEmpty) | some (.aq ks _)=>some (!ks.isEmpty) | _=>none)=_;rw[h]
theorem N4(h:ev C e σ m=some (.str sep,m1))(k:ev C e2 σ m1=some (.lst xs,m2))(hs:strsOf xs=some ys)(hl:(ys.map (·.length)).sum+ys.length*sep.length<=100000):ev C (.join e e2) σ m=some (.str (Txt.join sep ys),m2):=by
 show (ev C e σ m).bind _=_;rw[h];show (ev C e2 σ m1).bind _=_;rw[k];show (strsOf xs).bind _=_;rw[hs];exact ag hl
theorem pA{k:Nat}(h:ev C e σ m=some (x,m))(hx:G5 x m=some xs)(h2:ev C e2 σ m=some (y,m))(hf:(y.flat&&xs.all D.flat&&decide (xs.length<1000))=true)(hd:findD y xs 0=some k):ev C (.index e e2) σ m=some (.int k,m):=by
 show (ev C e σ m).bind _=_;rw[h];show (G5 x m).bind _=_;rw[hx];show (ev C e2 σ m).bind _=_;rw[h2];show (G5 x m).bind _=_;rw[hx];show (if _=true then (findD y xs 0).map _ else none)=_;rw[ag hf,hd];rfl
theorem L1{dd k:Ex}(hd:ev C dd σ m=some (.ao i,m))(hk:ev C k σ m=some (y,m))(hm:m[i]?=some (.fd ks))(hy:nI y=some kk)(hl:ks.length<10000)(q:aI C W r σ (m.set i (.fd (XD ks kk)))=X):aI C W (.cons (.B4 dd k) r) σ m=X:=by
 show ((ev C dd σ m).bind _).bind _=_;rw[hd];show ((ev C k σ m).bind _).bind _=_;rw[hk];simp only[bu,hm,hy,hl,if_true];exact q
theorem Fi(h:ev C e σ m=some (.int j,m1))(hj:-(2 ^ 62)<=j/\j<2 ^ 62):ei C (.kQ e) σ m=some (⟨(List.range j.toNat).map λ(i:Nat)=>.int i,none⟩,m1):=by
 show (ev C e σ m).bind _=_;rw[h];exact ag hj
theorem Od(h:ev C e σ m=some (.ao i,m1))(hs:m1[i]?=some (.lst xs)):ei C (.seq e) σ m=some (⟨xs,some i⟩,m1):=by
 show (ev C e σ m).bind _=_;rw[h];show (W9 (.ao i) m1).map _=_;rw[show W9 (.ao i) m1=some xs by simp only[W9,hs]];rfl
theorem cK{a b:String}(h:a≠b):¬Str.ofString a=Str.ofString b:=λq=>h (ofString_eq.mp q)
theorem N7(h:m=af):aI C W .nil σ m=some (.nx σ,af):=by rw[h];rfl
theorem aO{dd k z:Ex}{x y u:D}{kk:Key}{ks:List Key}{vs:List D}(h1:ev C dd σ m=some (x,m))(h2:ev C k σ m=some (y,m))(h3:ev C z σ m=some (u,m))(hd:HN x m=some (ks,vs))(hk:O5 y=some kk):ev C (.get dd k z) σ m=some ((HB ks vs kk).getD u,m):=by
 show (ev C dd σ m).bind _=_;rw[h1];show (HN x m).bind _=_;rw[hd];show (ev C k σ m).bind _=_;rw[h2];show (ev C z σ m).bind _=_;rw[h3];show (HN x m).bind _=_;rw[hd];show (O5 y).map _=_;rw[hk];rfl
theorem vn{e1:Ex}{r:i5}{a k j:Int}{ds:List D}(hk:-(2 ^ 64)<k/\k<2 ^ 64)(h1:ev C e1 σ m=some (d,m))(h2:ev C e2 σ m=some (.int a,m))(h3:gn C r σ m=some (ds,m)):gn C (.cons e1 (.cons (.bin .add (.bin .mul e2 (.con (.int k))) (.con (.int j))) r)) σ m=some (d::.int (a*k+j)::ds,m):=
 BR h1 (BR (FJ (FJ h2 rfl (X6 hk)) rfl rfl) h3)
theorem Qu(h:gn C as σ m=some (xs,m1))(hl:xs.length<=1000):ev C (.lst false as) σ m=some (.lst xs,m1):=by
 show (gn C as σ m).bind _=_;rw[h];show (if xs.length<=1000 then some (bw false xs m1) else none)=_;rw[ag hl];rfl
theorem IW{σ1:DS}{w:Walk}{b:DS->Mem->Option (Out×Mem)}{r:List D}(hw:w.ok m=true)(hb:JQ g d σ=some σ1)(h:b σ1 m=some (.nx σ',m1))(k:forL w g b r σ' m1=X):forL w g b (d::r) σ m=X:=by
 rw[forL,ag hw,hb];show (b σ1 m).bind _=_;rw[h];exact k
theorem QS{w:Walk}{b:DS->Mem->Option (Out×Mem)}(hw:w.ok m=true):forL w g b [] σ m=some (.nx σ,m):=by
 rw[forL,ag hw]
theorem K8{f:String}{F:Fn}{n:Nat}{q:Mem}(h:ab f=some F)(hl:xs.length=F.ps)(hc:d.clean=true)(e:aI (CG W ab n) W F.body (xs.map some++List.replicate (F.ns-F.ps) none) m=some (.rt d,m++q)):CG W ab (n+1) f xs m=some (d,m):=by
 rw[O8 h hl,e];show (outD m.length (m++q) d).map _=_;rw[iB hc];show some (d,(m++q).take m.length)=_;rw[List.take_left]
theorem Of(h:ev C e σ m=some (.lst xs,m1)):ei C (.enum e) σ m=some (⟨V6 xs 0,none⟩,m1):=by
 show (ev C e σ m).bind _=_;rw[h];rfl
theorem aP(h:ev C e σ m=some (.tup xs,m1)):ei C (.seq e) σ m=some (⟨xs,none⟩,m1):=by
 show (ev C e σ m).bind _=_;rw[h];rfl
theorem R8(h:ev C e σ m=some (.lst xs,m1)):ei C (.seq e) σ m=some (⟨xs,none⟩,m1):=by
 show (ev C e σ m).bind _=_;rw[h];rfl
theorem jD(h:N8 (et C t) (λ σ m=>aI C W b σ m) W σ m=some (.nx σ',m1))(q:aI C W r σ' m1=X):aI C W (.cons (.bo t b) r) σ m=X:=by
 show (N8 (et C t) (λ σ m=>aI C W b σ m) W σ m).bind _=_;rw[h];exact q
theorem L0(h:N8 (et C t) (λ σ m=>aI C W b σ m) W σ m=some (.rt d,m1)):aI C W (.cons (.bo t b) r) σ m=some (.rt d,m1):=by
 show (N8 (et C t) (λ σ m=>aI C W b σ m) W σ m).bind _=_;rw[h];rfl
theorem vO{i:Int}(h:ev C e σ m=some (.int i,m1)):eo C (.pt e) σ m=some (some i,m1):=by
 show (ev C e σ m).bind _=_;rw[h];rfl
theorem iJ{lo hi:Oe}{l h:Option Int}{x:D}(ha:ev C e σ m=some (x,m))(hl:eo C lo σ m=some (l,m))(hh:eo C hi σ m=some (h,m))(q:ng x l h=some d):ev C (.sl e lo hi) σ m=some (d,m):=by
 show (ev C e σ m).bind _=_;rw[ha];show (eo C lo σ m).bind _=_;rw[hl];show (eo C hi σ m).bind _=_;rw[hh];show (ng x l h).map _=_;rw[q];rfl
end
noncomputable def Ub:bg->bg
 | .cons (.fr _ _ b) _=>b
 | _=>.nil
end WL
end
section
variable{C:String->List WL.D->WL.Mem->Option (WL.D×WL.Mem)}{P:PySem.Str->Prop}{W n:Nat}{a x:PySem.Str}{f g:PySem.Str->Int}{hk ks bj l nm s0 sn wq:List PySem.Str}{k:PySem.FK}{lv ns:List Int}{m m0:WL.Mem}{most sd v:Int}{sh:List (Int×Int)}{vs:List WL.D}{ab:String->Option WL.Fn}{σ:WL.DS}
namespace T
open PySem L2 WL WW
noncomputable def GJ(c p k:Int):Int:=c*48271 % p % k
theorem JL(c p:Int){k:Int}(h:0<k):0<=GJ c p k/\GJ c p k<k:=⟨Int.emod_nonneg _ (by lia),Int.emod_lt_of_pos _ h⟩
noncomputable def DY(ns:List Int)(k:Nat):Int:=ns.getD k 0
theorem NT(H:ab "_law_mix" = some QG){c p k:Int}(hp:0<p)(hk:0<k):CG W ab (n+1) "_law_mix" [.int c,.int p,.int k] m=some (.int (GJ c p k),m):=by
 refine CV H rfl rfl ?_;exact CP (FJ (FJ (FJ rfl rfl (X6 (by decide))) rfl (K3 hp)) rfl (K3 hk))
theorem YJ(H:ab "_law_cell" = some V0){k:Nat}:CG W ab (n+1) "_law_cell" [.bP ns,.int k] m=some (.int (DY ns k),m):=by
 refine CV H rfl rfl ?_;have e:de .len (.bP ns) m=some (.int ns.length,m):=by
  show some (D.int ((ns.map D.int).length:Nat),m)=_;rw[a8]
 by_cases h:k<ns.length
 .have h1:jz (.bP ns) (.int k) m=some (.int (DY ns k)):=by
   show (c9 ns (k:Int)).map D.int=_;rw[RD,DY,List.getD_eq_getElem?_getD,fo h];rfl
  exact FZ (J5 (p:=(k:Int)<(ns.length:Int)) (GD (HJ rfl (GC rfl e) rfl) rfl) (by lia)) (CP (MP rfl rfl h1))
 .rw[show DY ns k=0 by rw[DY,List.getD_eq_getElem?_getD,List.getElem?_eq_none (by lia)];rfl]
  exact EY (G7 (p:=(k:Int)<(ns.length:Int)) (GD (HJ rfl (GC rfl e) rfl) rfl) (by lia)) (CP rfl)
theorem WA:(Str.ofString "abcdefghijklmnopqrstuvwxyz").cps.toList=(List.range 26).map (97+·):=by decide +kernel
theorem oY:(Str.ofString "abcdefghijklmnopqrstuvwxyz").length=26:=by decide +kernel
theorem iD(h0:0<=i)(h1:i<26):jz (.str "abcdefghijklmnopqrstuvwxyz") (.int i) m=some (.str ⟨#[97+i.toNat]⟩):=by
 show (if (Str.ofString "abcdefghijklmnopqrstuvwxyz").length<=1000 then (c9 (Str.ofString "abcdefghijklmnopqrstuvwxyz").cps.toList i).map (λc=>D.str ⟨#[c]⟩) else none)=_;rw[ag (by rw[oY];lia),WA];obtain⟨k,rfl⟩:=we h0;rw[RD];have:k<26:=by lia
 simp[this]
theorem Sd{l:List Nat}(h:l.length<=2):Txt.join (Str.ofString "") (l.map λc=>⟨#[c]⟩)=⟨l.toArray⟩:=by
 match l,h with
 | [],_=>decide
 | [a],_=>rfl
 | [a,b],_=>rfl
theorem aG(l:List Str):strsOf (l.map .str)=some l:=by
 induction l with
 | nil=>rfl
 | cons a r ih=>simp[strsOf,ih]
theorem KS(l:List Nat):strsOf (l.map λq=>.str ⟨#[q]⟩)=some (l.map λq=>⟨#[q]⟩):=by
 have:=aG (l.map λq=>⟨#[q]⟩);rw[bS]at this;exact this
theorem len_str(h:z.length<=1000):de .len (.str z) m=some (.int z.length,m):=ag h
theorem FG(h:z.length<=1000)(h0:0<=j)(h1:j<=z.cps.toList.length):ng (.str z) none (some j)=some (.str ⟨(z.cps.toList.take j.toNat).toArray⟩):=by
 show (if z.length<=1000 then some (D.str (StrLaws.sliceText z none (some j))) else none)=_;rw[ag h,StrLaws.sliceText_to ⟨h0,h1⟩,List.drop_zero,Int.sub_zero]
theorem Mq(h:z.length<=1000)(h0:0<=j)(h1:j<=z.cps.toList.length):ng (.str z) (some j) none=some (.str ⟨(z.cps.toList.drop j.toNat).toArray⟩):=by
 show (if z.length<=1000 then some (D.str (StrLaws.sliceText z (some j) none)) else none)=_;rw[ag h,StrLaws.sliceText_from ⟨h0,h1⟩,rV (by simp only[List.length_drop];omega)]
noncomputable def IV(c:Int):List Nat:=(List.range (GJ c 9931 3).toNat).map λ(j:Nat)=>97+(GJ (c+3*j) 9941 26).toNat
noncomputable def gm(c:Int):Int:=GJ c 9929 ((IV c).length+1)
noncomputable def gK(c:Int)(k:Nat):Nat:=97+((GJ c 9949 26+5*k) % 26).toNat
noncomputable def FP(c:Int)(k:Nat):Str:=⟨((IV c).take (gm c).toNat++[gK c k]++(IV c).drop (gm c).toNat).toArray⟩
theorem KO(c:Int):(IV c).length<=2:=by
 have:=JL c 9931 (k:=3) (by lia);simp only[IV,a8,List.length_range];lia
theorem Gk(c:Int):0<=gm c/\gm c<=(IV c).length:=by
 have:=JL c 9929 (k:=(IV c).length+1) (by lia);unfold gm;lia
theorem QO(Hm:ab "_law_mix" = some QG)(Hc:ab "_law_cell" = some V0)(H:ab "_law_name" = some aZ){k:Nat}:CG W ab (n+2) "_law_name" [.bP ns,.int k] m=some (.str (FP (DY ns 0) k),m):=by
 refine CV H rfl rfl ?_;have hc:=YJ (W:=W) (n:=n) (m:=m) Hc (ns:=ns) (k:=0);rw[Int.natCast_zero]at hc;generalize DY ns 0=c at hc ⊢;have r1:=JL c 9931 (k:=3) (by lia);have r2:=KO c;have r3:=Gk c;have comp:∀x y z,ev (CG W ab (n+1)) (.comp false 1 (.nm 7) (.kQ (.call "_law_mix" (.cons (.var 3) (.cons (.con (.int 9931)) (.cons (.con (.int 3)) .nil))))) .tt (.ix (.var 2) (.call "_law_mix" (.cons (.bin .add (.var 3) (.bin .mul (.con (.int 3)) (.var 7))) (.cons (.con (.int 9941)) (.cons (.con (.int 26)) .nil)))))) [some (.bP ns),some (.int k),some (.str "abcdefghijklmnopqrstuvwxyz"),some (.int c),x,y,z] m=some (.lst ((IV c).map λq=>.str ⟨#[q]⟩),m):=by
  intro x y z;rw[K7 (xs:=(List.range (GJ c 9931 3).toNat).map λ(i:Nat)=>.int i) (λd=>match d with | .int j=>.str ⟨#[97+(GJ (c+3*j) 9941 26).toNat]⟩ | _=>.au) rfl (Fi (BX (NT Hm (by decide) (by decide)) rfl) (by lia)) (by rw[a8,List.length_range];lia)]
  .simp[IV,Function.comp_def]
  .intro d hd
   obtain⟨j,hj,rfl⟩:=cw hd;have r4:=JL (c+3*j) 9941 (k:=26) (by lia);refine⟨[some (.bP ns),some (.int k),some (.str "abcdefghijklmnopqrstuvwxyz"),some (.int c),x,y,z,some (.int j)],rfl,rfl,MP rfl (BX (NT Hm (by decide) (by decide)) (BR (FJ rfl (FJ rfl rfl (QT (by decide))) rfl) rfl)) (iD r4.1 r4.2)⟩
 have r5:0<=(GJ c 9949 26+5*k) % 26/\(GJ c 9949 26+5*k) % 26<26:=by lia
 have join:=Sd r2;have hs:(((IV c).map λq=>(⟨#[q]⟩:Str)).map (·.length)).sum+((IV c).map λq=>(⟨#[q]⟩:Str)).length*(Str.ofString "").length<=100000:=by
  have:(Str.ofString "").length=0:=by decide
  rw[this]
  match IV c,r2 with
  | [],_=>simp
  | [a],_=>simp[Str.length]
  | [a,b],_=>simp[Str.length]
 have l0:(⟨(IV c).toArray⟩:Str).length<=1000:=by
  show (IV c).toArray.size<=1000;simp;lia
 have l1:(⟨(IV c).toArray⟩:Str).length=(IV c).length:=by show (IV c).toArray.size=_;simp
 have e1:GJ c 9929 ((IV c).length+1)=gm c:=rfl;have s1:=FG l0 r3.1 (by simpa using r3.2);have s2:=Mq l0 r3.1 (by simpa using r3.2);simp only[]at s1 s2;have a1:(⟨((IV c).take (gm c).toNat).toArray⟩:Str).length<=2:=by show ((IV c).take (gm c).toNat).toArray.size<=2;simp;lia
 have a2:(⟨((IV c).drop (gm c).toNat).toArray⟩:Str).length<=2:=by show ((IV c).drop (gm c).toNat).toArray.size<=2;simp;lia
 have mx:CG W ab (n+1) "_law_mix" [.int c,.int 9929,.int ((⟨(IV c).toArray⟩:Str).length+1)] m=some (.int (gm c),m):=by
  rw[NT Hm (by lia) (by lia),l1];rfl
 have p1:∀(a b:List Nat),(⟨a.toArray⟩:Str)++(⟨b.toArray⟩:Str)=⟨(a++b).toArray⟩:=λa b=>by
  show (⟨a.toArray++b.toArray⟩:Str)=_;simp
 have b1:(⟨#[97+((GJ c 9949 26+5*k) % 26).toNat]⟩:Str).length=1:=rfl;have p2:=p1 ((IV c).take (gm c).toNat) [97+((GJ c 9949 26+5*k) % 26).toNat];have b2:((⟨((IV c).take (gm c).toNat).toArray⟩:Str)++(⟨#[97+((GJ c 9949 26+5*k) % 26).toNat]⟩:Str)).length<=3:=by
  rw[show (#[97+((GJ c 9949 26+5*k) % 26).toNat]:Array Nat)=[97+((GJ c 9949 26+5*k) % 26).toNat].toArray from rfl,p2];show ((IV c).take (gm c).toNat++[97+((GJ c 9949 26+5*k) % 26).toNat]).toArray.size<=3;simp;lia
 have fin:(⟨((IV c).take (gm c).toNat).toArray⟩:Str)++(⟨#[97+((GJ c 9949 26+5*k) % 26).toNat]⟩:Str)++(⟨((IV c).drop (gm c).toNat).toArray⟩:Str)=FP c k:=by
  rw[show (#[97+((GJ c 9949 26+5*k) % 26).toNat]:Array Nat)=[97+((GJ c 9949 26+5*k) % 26).toNat].toArray from rfl,p2,p1];rfl
 rw[<-fin];exact CJ rfl (CJ (d:=.int c) (BX hc rfl) (CJ (MP rfl (FJ (FJ (BX (NT Hm (by decide) (by decide)) rfl) (FJ rfl rfl (QT (by decide))) rfl) rfl (K3 (by decide))) (iD r5.1 r5.2)) (CJ (d:=.str ⟨(IV c).toArray⟩) (by rw[<-join];exact N4 rfl (comp _ _ _) (KS _) hs) (CJ (BX mx (BR rfl (BR rfl (BR (FJ (GC rfl (len_str l0)) rfl rfl) rfl)))) (CP (FJ (FJ (iJ rfl rfl (vO rfl) s1) rfl (mG (by rw[b1];lia))) (iJ rfl (vO rfl) rfl s2) (mG (by lia))))))))
theorem vC(c:Int)(k:Nat):(FP c k).cps.toList[(gm c).toNat]?=some (gK c k):=by
 have r:=Gk c;have:((IV c).take (gm c).toNat).length=(gm c).toNat:=by simp;lia
 show ((IV c).take (gm c).toNat++[gK c k]++(IV c).drop (gm c).toNat)[(gm c).toNat]?=_;rw[wm,rS (by lia),this,Nat.sub_self];rfl
theorem oR(hi:i<4)(hj:j<4)(h:FP c i=FP c j):i=j:=by
 have h1:=vC c i;rw[h,vC c j]at h1;have h2:gK c j=gK c i:=cq h1;unfold gK at h2;have:=JL c 9949 (k:=26) (by lia);lia
noncomputable def JK(c:Int):List Str:=[FP c 0,FP c 1,FP c 2,FP c 3]
theorem names_nodup(c:Int):(JK c).Nodup:=by
 have h:∀{i j:Nat},i<4->j<4->i≠j->FP c i≠FP c j:=λhi hj hn e=>hn (oR hi hj e)
 simp only[JK,List.nodup_cons,List.mem_cons,List.not_mem_nil,or_false,not_or,not_false_eq_true,mq,and_true];exact⟨⟨h (by decide) (by decide) (by decide),h (by decide) (by decide) (by decide),h (by decide) (by decide) (by decide)⟩,⟨h (by decide) (by decide) (by decide),h (by decide) (by decide) (by decide)⟩,h (by decide) (by decide) (by decide)⟩
theorem aU(Hm:ab "_law_mix" = some QG)(Hc:ab "_law_cell" = some V0)(Hn:ab "_law_name" = some aZ)(H:ab "_law_names" = some fG):CG W ab (n+3) "_law_names" [.bP ns] m=some (.lst ((JK (DY ns 0)).map .str),m):=by
 refine CV H rfl rfl ?_;have comp:ev (CG W ab (n+2)) (.comp false 1 (.nm 1) (.kQ (.con (.int 4))) .tt (.call "_law_name" (.cons (.var 0) (.cons (.var 1) .nil)))) [some (.bP ns)] m=some (.lst ((JK (DY ns 0)).map .str),m):=by
  rw[K7 (xs:=(List.range 4).map λ(i:Nat)=>.int i) (λd=>match d with | .int j=>.str (FP (DY ns 0) j.toNat) | _=>.au) rfl rfl (di rfl)]
  .simp[JK,List.range,List.range.loop]
  .intro d hd
   obtain⟨j,hj,rfl⟩:=cw hd;exact⟨[some (.bP ns),some (.int j)],rfl,rfl,BX (QO Hm Hc Hn) rfl⟩
 exact CP comp
noncomputable def O4(c:Int):List Int:=[0,2,GJ c 9923 3,GJ c 9907 3]
theorem oX(c:Int):∀x∈O4 c,0<=x/\x<3:=by
 have:=JL c 9923 (k:=3) (by omega);have:=JL c 9907 (k:=3) (by omega);intro x hx;simp only[O4,List.mem_cons,List.not_mem_nil,or_false]at hx;rcases hx with rfl | rfl | rfl | rfl<;>omega
theorem pR(Hm:ab "_law_mix" = some QG)(Hc:ab "_law_cell" = some V0)(H:ab "_law_levels" = some YM):CG W ab (n+2) "_law_levels" [.bP ns] m=some (.lst ((O4 (DY ns 1)).map .int),m):=by
 refine CV H rfl rfl ?_;have hc:=YJ (W:=W) (n:=n) (m:=m) Hc (ns:=ns) (k:=1);rw[Int.natCast_one]at hc;exact CP (Qu (BR rfl (BR rfl (BR (BX (NT Hm (by decide) (by decide)) (BR (BX hc rfl) rfl)) (BR (BX (NT Hm (by decide) (by decide)) (BR (BX hc rfl) rfl)) rfl)))) (di rfl))
noncomputable def m5:Op->String
 | .sum=>"sum"
 | .times=>"times"
 | .less=>"less"
noncomputable def dT:Tm Str->D
 | .num n=>.tup [.str "number",.int n]
 | .ee x=>.tup [.str "name",.str x]
 | .bin o a b=>.tup [.str (Str.ofString (m5 o)),dT a,dT b]
theorem M7:∀t:Tm Str,(dT t).clean=true
 | .num n=>rfl
 | .ee x=>rfl
 | .bin o a b=>by simp[dT,M7 a,M7 b]
theorem Q1(f:α->β)(l:List α)(i:Int):c9 (l.map f) i=(c9 l i).map f:=by
 unfold c9;rw[a8];cases uA l.length i with
 | none=>rfl
 | some j=>simp
theorem RG{f:α->β}{l:List α}{i:Int}{x:α}(h:c9 l i=some x):c9 (l.map f) i=some (f x):=by rw[Q1,h];rfl
theorem YL{α:Type}{l:List α}{i:Int}(h0:0<=i)(h1:i<l.length):∃x∈l,c9 l i=some x:=by
 obtain⟨k,rfl⟩:=we h0;have hk:k<l.length:=by lia
 exact⟨l[k],List.getElem_mem hk,by rw[RD];exact fo hk⟩
theorem QN(Hm:ab "_law_mix" = some QG)(H:ab "_law_term" = some Y5)(hl:nm.length=4):∀(left:Nat) (iF:Int),∃t:Tm Str,t.Ok (·∈nm)/\t.dep<=left/\∀n m,CG W ab (n+(left+2)) "_law_term" [.lst (nm.map .str),.int iF,.int left] m=some (dT t,m):=by
 intro left
 induction left with
 | zero=>
  intro iF;have r1:=JL iF 9887 (k:=997) (by lia);have r2:=JL iF 9883 (k:=4) (by lia);obtain⟨x,hx,ex⟩:=YL (l:=nm) r2.1 (by lia)
  by_cases h:GJ iF 9901 9 % 3=0
  .exact⟨.num (GJ iF 9887 997),r1,a0 _,λn m=>CV H rfl rfl (CJ (BX (NT Hm (by decide) (by decide)) rfl) (FZ (Fg (J5 (p:=((0:Nat):Int)=0) rfl rfl)) (FZ (J5 rfl h) (CP (G6 (BR rfl (BR (BX (NT Hm (by decide) (by decide)) rfl) rfl)) (di rfl))))))⟩
  .exact⟨.ee x,hx,a0 _,λn m=>CV H rfl rfl (CJ (BX (NT Hm (by decide) (by decide)) rfl) (FZ (Fg (J5 (p:=((0:Nat):Int)=0) rfl rfl)) (EY (G7 rfl h) (CP (G6 (BR rfl (BR (MP rfl (BX (NT Hm (by decide) (by decide)) rfl) (RG ex)) rfl)) (di rfl))))))⟩
 | succ left ih=>
  intro iF;have r1:=JL iF 9887 (k:=997) (by lia);have r2:=JL iF 9883 (k:=4) (by lia);have r3:=JL iF 9901 (k:=9) (by lia);obtain⟨x,hx,ex⟩:=YL (l:=nm) r2.1 (by lia);obtain⟨a,ha,aab,ea⟩:=ih (iF*3+1);obtain⟨b,hb,db,eb⟩:=ih (iF*5+2);have hz:¬(((left+1:Nat):Int)=0):=by lia
  have e0:∀(n:Nat) (m:Mem) {c p k:Int},0<p->0<k->CG W ab (n+(left+2)) "_law_mix" [.int c,.int p,.int k] m=some (.int (GJ c p k),m):=λn m _ _ _ hp hk=>NT (n:=n+(left+1)) Hm hp hk
  have hs:((left+1:Nat):Int)-1=left:=by lia
  rw[<-hs]at ea eb
  by_cases h3:GJ iF 9901 9<3
  .by_cases h:GJ iF 9901 9 % 3=0
   .exact⟨.num (GJ iF 9887 997),r1,eS _,λn m=>CV (n:=n+(left+2)) H rfl rfl (CJ (BX (e0 n m (by decide) (by decide)) rfl) (FZ (Be (G7 rfl hz) (J5 rfl h3)) (FZ (J5 rfl h) (CP (G6 (BR rfl (BR (BX (e0 n m (by decide) (by decide)) rfl) rfl)) (di rfl))))))⟩
   .exact⟨.ee x,hx,eS _,λn m=>CV (n:=n+(left+2)) H rfl rfl (CJ (BX (e0 n m (by decide) (by decide)) rfl) (FZ (Be (G7 rfl hz) (J5 rfl h3)) (EY (G7 rfl h) (CP (G6 (BR rfl (BR (MP rfl (BX (e0 n m (by decide) (by decide)) rfl) (RG ex)) rfl)) (di rfl))))))⟩
  .have hq:∃o:Op,c9 [D.str "sum",.str "times",.str "less"] (GJ iF 9901 9 % 3)=some (.str (Str.ofString (m5 o))):=by
    have:GJ iF 9901 9 % 3=0\/GJ iF 9901 9 % 3=1\/GJ iF 9901 9 % 3=2:=by lia
    rcases this with e | e | e
    .exact⟨.sum,by rw[e];rfl⟩
    .exact⟨.times,by rw[e];rfl⟩
    .exact⟨.less,by rw[e];rfl⟩
   obtain⟨o,eo⟩:=hq;refine⟨.bin o a b,⟨ha,hb⟩,?_,λn m=>CV (n:=n+(left+2)) H rfl (M7 (.bin o a b)) (CJ (BX (e0 n m (by decide) (by decide)) rfl) (EY (Be (G7 rfl hz) (G7 rfl h3)) (CJ (BX (ea n m) (vn (by decide) rfl rfl rfl)) (CP (G6 (BR (MP rfl rfl eo) (BR rfl (BR (BX (eb n m) (vn (by decide) rfl rfl rfl)) rfl))) (di rfl))))))⟩;simp only[Tm.dep];omega
theorem RB(H:ab "_law_names_in" = some N6):∀{t:Tm Str} {n:Nat} {m:Mem},t.dep<n->t.dep<=8->t.names.length<=2 ^ t.dep/\CG W ab n "_law_names_in" [dT t] m=some (.lst (t.names.map .str),m)
 | .num k,n+1,m,h,_=>⟨eS _,CV H rfl rfl (EY (G7 (p:=("number":Str)="name") rfl (cK (by decide))) (FZ (J5 (p:=("number":Str)="number") rfl rfl) (CP rfl)))⟩
 | .ee x,n+1,m,h,_=>⟨a0 _,CV H rfl rfl (FZ (J5 (p:=("name":Str)="name") rfl rfl) (CP rfl))⟩
 | .bin o a b,n+1,m,h,h8=>by
  simp only[Tm.dep]at h h8;obtain⟨la,ea⟩:=RB H (t:=a) (n:=n) (m:=m) (by lia) (by lia);obtain⟨lb,eb⟩:=RB H (t:=b) (n:=n) (m:=m) (by lia) (by lia);have p1:2 ^ a.dep<=2 ^ (max a.dep b.dep):=Nat.pow_le_pow_right (by lia) (by lia);have p2:2 ^ b.dep<=2 ^ (max a.dep b.dep):=Nat.pow_le_pow_right (by lia) (by lia);have aa8:2 ^ (max a.dep b.dep)<=2 ^ 7:=Nat.pow_le_pow_right (by lia) (by lia);have hl:(Tm.bin o a b).names.length<=2 ^ (max a.dep b.dep+1):=by
   simp only[Tm.names,gc,Nat.pow_succ];lia
  have cl:∀l:List Str,D.clean.cy (l.map .str)=true:=λl=>by
   induction l with
   | nil=>rfl
   | cons a r ih=>exact ih
  have o1:m5 o≠"name":=by cases o<;>decide
  have o2:m5 o≠"number":=by cases o<;>decide
  refine⟨hl,CV H rfl (cl _) (EY (G7 rfl (cK o1)) (EY (G7 rfl (cK o2)) (CP ?_)))⟩;rw[show (Tm.bin o a b).names=a.names++b.names from rfl,dt];exact Ff (BX ea rfl) (BX eb rfl) (by rw[a8,a8];lia)
noncomputable def DW(sn:List Str):List Key:=sn.map .inr
noncomputable def GF(sn:List Str)(f:Str->Int):List D:=sn.map λx=>.int (f x)
theorem U5{f:Str->Int}{x:Str}:∀{sn:List Str},x∈sn->HB (DW sn) (GF sn f) (.inr x)=some (.int (f x))
 | y::r,h=>by
  show (if (Sum.inr y:Key)=.inr x then some (D.int (f y)) else HB (DW r) (GF r f) (.inr x))=_
  by_cases e:y=x
  .subst e;rw[ag rfl]
  .rw[ak (λq=>e (iw q))]
   exact U5 ((ck h).resolve_left (λq=>e q.symm))
mutual
noncomputable def dD:Dd Str->D
 | .put x t=>.tup [.str "put",.str x,dT t]
 | .cv l t=>.tup [.str "show",.int l,dT t]
 | .ite t b c=>.tup [.str "if",dT t,.tup (dB b),.tup (dB c)]
 | .bo t b=>.tup [.str "while",dT t,.tup (dB b)]
noncomputable def dB:Bl Str->List D
 | .nil=>[]
 | .cons d b=>dD d::dB b
end
theorem JC:∀b:Bl Str,dB b=b.list.map dD
 | .nil=>rfl
 | .cons d b=>by simp[dB,Bl.list,JC b]
theorem Ge(l:List (Dd Str)):dB (Bl.of l)=l.map dD:=by rw[JC,Bl.DB]
theorem Qz(a b:Bl Str):dB (a.app b)=dB a++dB b:=by rw[JC,JC,JC,Bl.Jq,dt]
mutual
theorem Q5:∀d:Dd Str,(dD d).clean=true
 | .put x t=>by simp[dD,M7]
 | .cv l t=>by simp[dD,M7]
 | .ite t b c=>by simp[dD,M7,O7 b,O7 c]
 | .bo t b=>by simp[dD,M7,O7 b]
theorem O7:∀b:Bl Str,D.clean.cy (dB b)=true
 | .nil=>rfl
 | .cons d b=>by simp[dB,Q5 d,O7 b]
end
theorem fM:∀{l:List (Dd Str)},(∀d∈l,d.Ok P)->(Bl.of l).Ok P
 | [],_=>trivial
 | d::r,h=>⟨h d b0,fM λx hx=>h x (b7 _ hx)⟩
theorem YS{k:Nat}:∀{l:List (Dd Str)},(∀d∈l,d.dep<=k)->(Bl.of l).dep<=k
 | [],_=>eS _
 | d::r,h=>by
  have h1:=h d b0;have h2:=YS (k:=k) (l:=r) λx hx=>h x (b7 _ hx)
  simp only[Bl.of,Bl.dep];omega
theorem W0{k:Nat}:∀{l:List (Dd Str)},(∀d∈l,d.size<=k)->(Bl.of l).size<=l.length*k
 | [],_=>eS _
 | d::r,h=>by
  have h1:=h d b0;have h2:=W0 (k:=k) (l:=r) λx hx=>h x (b7 _ hx)
  simp only[Bl.of,Bl.size,kg,Nat.add_mul];lia
theorem jB:∀{a b:Bl Str},a.Ok P->b.Ok P->(a.app b).Ok P
 | .nil,_,_,h=>h
 | .cons d a,b,h,g=>⟨h.1,jB h.2 g⟩
theorem fO:∀{a b:Bl Str},(a.app b).dep=max a.dep b.dep
 | .nil,b=>by simp[Bl.app,Bl.dep]
 | .cons d a,b=>by simp only[Bl.app,Bl.dep,fO (a:=a)];exact(Nat.max_assoc _ _ _).symm
theorem ZQ:∀{a b:Bl Str},(a.app b).size=a.size+b.size
 | .nil,b=>by simp[Bl.app,Bl.size]
 | .cons d a,b=>by simp only[Bl.app,Bl.size,ZQ (a:=a)];lia
noncomputable def sz:Nat->Nat
 | 0=>1
 | d+1=>4*sz d+1
theorem Eo(d:Nat):1<=sz d:=by cases d<;>simp[sz]
theorem X4{x:Str}:∀{nm:List Str} {j:Nat},x∈nm->∃k,j<=k/\k<j+nm.length/\findD (.str x) (nm.map .str) j=some k
 | y::r,j,h=>by
  by_cases e:x=y
  .exact⟨j,a0 _,by simp,by simp[findD,inD,e]⟩
  .obtain⟨k,h1,h2,h3⟩:=X4 (nm:=r) (j:=j+1) ((ck h).resolve_left e)
   exact⟨k,by lia,by simp only[kg];lia,by simp[findD,inD,e,h3]⟩
theorem EX:∀{l:List Int} {a:Int},∃h,rT (a::l)=some h/\h∈a::l
 | [],a=>⟨a,rfl,b0⟩
 | b::r,a=>by
  obtain⟨h,e,hm⟩:=EX (l:=r) (a:=if b > a then b else a);refine⟨h,e,?_⟩;rcases ck hm with q | q
  .rw[q]
   split<;>simp
  .simp[q]
theorem RH{l:List Int}(hl:l≠[])(h:∀x∈l,0<=x/\x<3):∃q,rT l=some q/\0<=q/\q<3:=by
 cases l with
 | nil=>exact absurd rfl hl
 | cons a r=>
  obtain⟨q,e,hm⟩:=EX (l:=r) (a:=a);exact⟨q,e,h q hm⟩
theorem ints_of(l:List Int):intsOf (l.map .int)=some l:=by
 induction l with
 | nil=>rfl
 | cons a r ih=>simp[intsOf,ih]
noncomputable def T4(nm:List Str)(lv:List Int)(x:Str):Int:=(c9 lv ((findD (.str x) (nm.map .str) 0).getD 0:Nat)).getD 0
noncomputable def PX(nm:List Str)(lv:List Int)(bX:Bool):D:=.tup [.lst (nm.map .str),.lst (lv.map .int),.bl bX]
theorem iH(nm:List Str):(nm.map D.str).all D.flat=true:=by
 induction nm with
 | nil=>rfl
 | cons a r ih=>simp[D.flat]
noncomputable def KY:Nat->bg->bg
 | 0,s=>s
 | _+1,.nil=>.nil
 | n+1,.cons _ r=>KY n r
structure Plan(nm:List Str)(lv:List Int):Prop where
 n4:nm.length=4
 l4:lv.length=4
 lr:∀x∈lv,0<=x/\x<3
theorem E1(hp:Plan nm lv)(hx:x∈nm):∃k:Nat,findD (.str x) (nm.map .str) 0=some k/\c9 lv k=some (T4 nm lv x)/\0<=T4 nm lv x/\T4 nm lv x<3:=by
 obtain⟨k,_,h2,h3⟩:=X4 (x:=x) (j:=0) hx;have h4:=hp.n4;have h5:=hp.l4;obtain⟨l,hl,el⟩:=YL (l:=lv) (i:=k) (by lia) (by lia);have:T4 nm lv x=l:=by simp only[T4,h3,Option.getD_some,el]
 exact⟨k,h3,by rw[el,this],by rw[this];exact hp.lr l hl⟩
theorem yQ{C:String->List D->Mem->Option (D×Mem)}{m:Mem}{nm:List Str}{lv:List Int}(hp:Plan nm lv){t:Tm Str}(ht:t.Ok (·∈nm))(hl:t.names.length<=1000)(hn:C "_law_names_in" [dT t] m=some (.lst (t.names.map .str),m)){x0 x1 x2 x3 x6 x8 x9 p3 p9 ym yn:Option D}:
  ev C (.comp false 1 (.nm 14) (.seq (.call "_law_names_in" (.cons (.var 7) .nil))) .tt (.ix (.var 5) (.index (.var 4) (.var 14)))) [x0,x1,x2,x3,some (.lst (nm.map .str)),some (.lst (lv.map .int)),x6,some (dT t),x8,x9,p3,p9,ym,yn] m=some (.lst ((t.names.map (T4 nm lv)).map .int),m):=by
 rw[K7 (xs:=t.names.map .str) (λd=>match d with | .str x=>.int (T4 nm lv x) | _=>.au) rfl (R8 (BX hn rfl)) (by rw[a8];exact hl)]
 .rw[bS,bS];rfl
 .intro d hd
  obtain⟨x,hx,rfl⟩:=cw hd;obtain⟨k,e1,e2,_⟩:=E1 hp (ht.names x hx);refine⟨[x0,x1,x2,x3,some (.lst (nm.map .str)),some (.lst (lv.map .int)),x6,some (dT t),x8,x9,p3,p9,ym,yn,some (.str x)],rfl,rfl,MP rfl (pA rfl rfl rfl ?_ e1) (RG e2)⟩;rw[iH,a8,hp.n4];rfl
noncomputable def YW(lv:List Int)(high:Int)(bX:Bool):List Nat:=(List.range 4).filter λj=>decide (high<=lv.getD j 0)||!bX
theorem NX{C:String->List D->Mem->Option (D×Mem)}{m:Mem}{lv:List Int}(hl:lv.length=4){high:Int}{bX:Bool}{x0 x1 x2 x3 x4 x7 x9 p3 p9 ym yn:Option D}:
  ev C (.comp false 1 (.nm 14) (.kQ (.con (.int 4))) (.or (.val (.cmp .ge (.ix (.var 5) (.var 14)) (.var 8))) (.not (.val (.var 6)))) (.var 14)) [x0,x1,x2,x3,x4,some (.lst (lv.map .int)),some (.bl bX),x7,some (.int high),x9,p3,p9,ym,yn] m=some (.lst ((YW lv high bX).map λ(j:Nat)=>.int j),m):=by
 rw[lM (xs:=(List.range 4).map λ(i:Nat)=>.int i) (h:=λd=>match d with | .int j=>if decide (high<=lv.getD j.toNat 0)||!bX then some (.int j) else none | _=>none) rfl rfl (di rfl)]
 .simp only[YW,List.filterMap_map,Function.comp_def,Int.toNat_natCast]
  rw[<-ki,List.filterMap_filter]
 .intro d hd
  obtain⟨j,hj,rfl⟩:=cw hd;have hj:j<lv.length:=by have:=List.mem_range.mp hj;lia
  have ha:c9 lv (j:Int)=some (lv.getD j 0):=by rw[RD,List.getD_eq_getElem?_getD,fo hj];rfl
  refine⟨[x0,x1,x2,x3,x4,some (.lst (lv.map .int)),some (.bl bX),x7,some (.int high),x9,p3,p9,ym,yn,some (.int j)],decide (high<=lv.getD j 0)||!bX,rfl,sW (GD (HJ (MP rfl rfl (RG ha)) rfl rfl) rfl) rfl,?_⟩;show if (decide (high<=lv.getD j 0)||!bX)=true then ((if (decide (high<=lv.getD j 0)||!bX)=true then some (D.int j) else none).isSome=true/\_=some ((if (decide (high<=lv.getD j 0)||!bX)=true then some (D.int j) else none).getD .au,m)) else (if (decide (high<=lv.getD j 0)||!bX)=true then some (D.int j) else none)=none
  cases (decide (high<=lv.getD j 0)||!bX)
  .exact rfl
  .exact⟨rfl,rfl⟩
def tY(ab:String->Option Fn)(W:Nat)(nm:List Str)(lv:List Int)(bX:Bool)(deep:Nat):Prop:=∀(cell need:Int),0<=need->need<3->∃d:Dd Str,d.Ok (·∈nm)/\d.dep<=deep+2/\d.size<=sz deep/\∀n m,CG W ab (n+(2*deep+5)) "_law_deed" [PX nm lv bX,.int cell,.int deep,.int need] m=some (dD d,m)
def wY(ab:String->Option Fn)(W:Nat)(nm:List Str)(lv:List Int)(bX:Bool)(deep:Nat):Prop:=∀(cell need:Int),0<=need->need<3->∃b:Bl Str,b.Ok (·∈nm)/\b.dep<=deep+2/\b.size<=2*sz deep/\b.list.length<=2/\∀n m,CG W ab (n+(2*deep+6)) "_law_block" [PX nm lv bX,.int cell,.int deep,.int need] m=some (.tup (dB b),m)
theorem OA(Hm:ab "_law_mix" = some QG)(H:ab "_law_block" = some Y7)(hd:tY ab W nm lv bX deep):wY ab W nm lv bX deep:=by
 intro cell need n0 n3;have d6:=λc=>hd c need n0 n3
 let g:Int->Dd Str:=λc=>Classical.choose (d6 c)
 have hg:∀c,(g c).Ok (·∈nm)/\(g c).dep<=deep+2/\(g c).size<=sz deep/\∀n m,CG W ab (n+(2*deep+5)) "_law_deed" [PX nm lv bX,.int c,.int deep,.int need] m=some (dD (g c),m):=λc=>Classical.choose_spec (d6 c)
 have r1:=JL cell 9839 (k:=2) (by omega);have r2:0<1+GJ cell 9839 2/\1+GJ cell 9839 2<3:=by omega
 refine⟨Bl.of ((List.range (1+GJ cell 9839 2).toNat).map λ(j:Nat)=>g (cell*7+11*j)),?_,?_,?_,by rw[Bl.DB];simp;omega,λn m=>?_⟩
 .refine fM λd h=>?_
  obtain⟨j,_,rfl⟩:=cw h;exact(hg _).1
 .refine YS λd h=>?_
  obtain⟨j,_,rfl⟩:=cw h;exact(hg _).2.1
 .refine eJ (W0 (k:=sz deep) λd h=>?_) (Nat.mul_le_mul_right _ (by simp;omega))
  obtain⟨j,_,rfl⟩:=cw h;exact(hg _).2.2.1
 .refine CV (n:=n+(2*deep+5)) H rfl (O7 _) ?_
  have e0:∀{c p k:Int},0<p->0<k->CG W ab (n+(2*deep+5)) "_law_mix" [.int c,.int p,.int k] m=some (.int (GJ c p k),m):=λhp hk=>NT (n:=n+(2*deep+4)) Hm hp hk
  have comp:ev (CG W ab (n+(2*deep+5))) (.comp false 1 (.nm 5) (.kQ (.var 4)) .tt (.call "_law_deed" (.cons (.var 0) (.cons (.bin .add (.bin .mul (.var 1) (.con (.int 7))) (.bin .mul (.con (.int 11)) (.var 5))) (.cons (.var 2) (.cons (.var 3) .nil)))))) [some (PX nm lv bX),some (.int cell),some (.int deep),some (.int need),some (.int (1+GJ cell 9839 2))] m=some (.lst (dB (Bl.of ((List.range (1+GJ cell 9839 2).toNat).map λ(j:Nat)=>g (cell*7+11*j)))),m):=by
   rw[K7 (xs:=(List.range (1+GJ cell 9839 2).toNat).map λ(i:Nat)=>.int i) (λd=>match d with | .int j=>dD (g (cell*7+11*j)) | _=>.au) rfl (Fi rfl (by omega)) (by rw[a8,List.length_range];omega)]
   .simp[Ge,Function.comp_def]
   .intro d hd
    obtain⟨j,hj,rfl⟩:=cw hd;exact⟨[some (PX nm lv bX),some (.int cell),some (.int deep),some (.int need),some (.int (1+GJ cell 9839 2)),some (.int j)],rfl,rfl,BX ((hg _).2.2.2 n m) (BR rfl (BR (FJ (FJ rfl rfl (X6 (by decide))) (FJ rfl rfl (QT (by decide))) rfl) rfl))⟩
  exact CJ (FJ rfl (BX (e0 (by decide) (by decide)) rfl) rfl) (CP (GC comp rfl))
theorem Nx{l:List Int}(h:rT l=some q):de .max (.lst (l.map .int)) m=some (.int q,m):=by
 show ((intsOf (l.map D.int)).bind λns=>(rT ns).map λx=>(D.int x,m))=_;rw[ints_of,bu,h];rfl
noncomputable def D5(nm:List Str)(lv:List Int)(bX:Bool)(cell:Int)(deep:Nat)(need:Int)(t:Tm Str)(high:Int):DS:=[some (PX nm lv bX),some (.int cell),some (.int deep),some (.int need),some (.lst (nm.map .str)),some (.lst (lv.map .int)),some (.bl bX),some (dT t),some (.int high),some (.int (GJ cell 9871 9)),none,none,none,none]
theorem wB(Hm:ab "_law_mix" = some QG)(Ht:ab "_law_term" = some Y5)(Hi:ab "_law_names_in" = some N6)(H:ab "_law_deed" = some bA)(hp:Plan nm lv)(UH:∀d,deep=d+1->wY ab W nm lv bX d):tY ab W nm lv bX deep:=by
 intro cell need n0 n3;have Vo:1+cell % 2=((1+(cell % 2).toNat:Nat):Int):=by lia
 obtain⟨t,ht,aac,et⟩:=QN (W:=W) Hm Ht (nm:=nm) hp.n4 (1+(cell % 2).toNat) cell;rw[<-Vo]at et;have BM:t.dep<=2:=by lia
 obtain⟨high,eh,h0,h3⟩:=RH (l:=t.names.map (T4 nm lv)++[need]) (by simp) (λx hx=>by
  rcases cz hx with hx | hx
  .obtain⟨y,hy,rfl⟩:=cw hx
   obtain⟨_,_,_,q⟩:=E1 hp (ht.names y hy);exact q
  .rw[eR hx];exact⟨n0,n3⟩)
 have e0:∀(n:Nat) (m:Mem) {c p k:Int},0<p->0<k->CG W ab (n+(2*deep+4)) "_law_mix" [.int c,.int p,.int k] m=some (.int (GJ c p k),m):=λn m _ _ _ hp hk=>NT (n:=n+(2*deep+3)) Hm hp hk
 have e1:∀(n:Nat) (m:Mem),CG W ab (n+(2*deep+4)) "_law_term" [.lst (nm.map .str),.int cell,.int (1+cell % 2)] m=some (dT t,m):=λn m=>by
  have:=et (n+(2*deep+4)-(1+(cell % 2).toNat+2)) m;rw[show n+(2*deep+4)-(1+(cell % 2).toNat+2)+(1+(cell % 2).toNat+2)=n+(2*deep+4) from by lia]at this;exact this
 have e2:∀(n:Nat) (m:Mem),CG W ab (n+(2*deep+4)) "_law_names_in" [dT t] m=some (.lst (t.names.map .str),m):=λn m=>(RB Hi (by lia) (by lia)).2
 have l0:t.names.length<=9:=by
  have:=(RB (W:=W) (n:=20) (m:=[]) Hi (t:=t) (by lia) (by lia)).1;have:2 ^ t.dep<=2 ^ 2:=Nat.pow_le_pow_right (by lia) BM;lia
 have e3:=λn m=>@yQ (CG W ab (n+(2*deep+4))) m nm lv hp t ht (by lia) (e2 n m)
 have e4:∀m,de .max (.lst ((t.names.map (T4 nm lv)).map .int++[.int need])) m=some (.int high,m):=λm=>by
  have:=Nx (m:=m) eh;rw[dt]at this;exact this
 have l1:((t.names.map (T4 nm lv)).map D.int).length<=9:=by simpa using l0
 generalize (t.names.map (T4 nm lv)).map D.int=L at e3 e4 l1;have l2:L.length<=9999:=by lia
 have e5:=λn m=>@NX (CG W ab (n+(2*deep+4))) m lv hp.l4 high bX
 have r0:=JL cell 9871 (k:=9) (by lia);have r1:=JL cell 9851 (k:=3) (by lia);have cD:∀(n:Nat) (m:Mem) (d:Dd Str),aI (CG W ab (n+(2*deep+4))) W UG [some (PX nm lv bX),some (.int cell),some (.int deep),some (.int need),none,none,none,none,none,none,none,none,none,none] m=some (.rt (dD d),m)->CG W ab (n+(2*deep+5)) "_law_deed" [PX nm lv bX,.int cell,.int deep,.int need] m=some (dD d,m):=λn m d h=>CV (n:=n+(2*deep+4)) H rfl (Q5 d) h
 have pre:∀(n:Nat) (m:Mem) {X},aI (CG W ab (n+(2*deep+4))) W (KY 4 UG) (D5 nm lv bX cell deep need t high) m=X->aI (CG W ab (n+(2*deep+4))) W UG [some (PX nm lv bX),some (.int cell),some (.int deep),some (.int need),none,none,none,none,none,none,none,none,none,none] m=X:=λn m _ k=>
  qU (d:=PX nm lv bX) (σ':=[some (PX nm lv bX),some (.int cell),some (.int deep),some (.int need),some (.lst (nm.map .str)),some (.lst (lv.map .int)),some (.bl bX),none,none,none,none,none,none,none]) rfl rfl (CJ (BX (e1 n m) rfl) (CJ (GC (Ff (e3 n m) rfl (Nat.succ_le_succ l2)) (e4 m)) (CJ (BX (e0 n m (by decide) (by decide)) rfl) k)))
 have cd:(∀(n:Nat) (m:Mem) {X},aI (CG W ab (n+(2*deep+4))) W (KY 6 UG) (D5 nm lv bX cell deep need t high) m=X->aI (CG W ab (n+(2*deep+4))) W (KY 4 UG) (D5 nm lv bX cell deep need t high) m=X)->∃d:Dd Str,d.Ok (·∈nm)/\d.dep<=deep+2/\d.size<=sz deep/\∀n m,CG W ab (n+(2*deep+5)) "_law_deed" [PX nm lv bX,.int cell,.int deep,.int need] m=some (dD d,m):=by
  intro Jb;have IX:=Eo deep
  by_cases hc:GJ cell 9871 9<7/\YW lv high bX≠[]
  .obtain⟨h7,eL⟩:=hc
   have Vm:=List.length_pos_iff.mpr eL;have hlen:0<((YW lv high bX).length:Int):=by lia
   have r2:=JL cell 9857 hlen;obtain⟨j,hj,ej⟩:=YL (l:=YW lv high bX) r2.1 r2.2;have aau:j<4:=List.mem_range.mp (j3 hj).1;have C0:=hp.n4;obtain⟨x,hx,ex⟩:=YL (l:=nm) (i:=j) (by lia) (by lia);refine⟨.put x t,⟨hx,ht⟩,Nat.le_add_left_of_le BM,IX,λn m=>cD n m _ (pre n m (Jb n m (CJ (e5 n m) (FZ (PJ (J5 (p:=GJ cell 9871 9<7) rfl h7) (GD (d:=.lst ((YW lv high bX).map λ(j:Nat)=>.int j)) rfl (OY λh=>eL (List.map_eq_nil_iff.mp h)))) (CP (G6 (xs:=[.str "put",.str x,dT t]) (BR rfl (BR (MP rfl (MP rfl (BX (e0 n m (c:=cell) (p:=9857) (by decide) hlen) (by rw[<-a8 (f:=λ(j:Nat)=>D.int j)];rfl)) (RG ej)) (RG ex)) rfl)) (di rfl)))))))⟩
  .refine⟨.cv (if high*(if bX then 1 else 0) > GJ cell 9851 3 then high*(if bX then 1 else 0) else GJ cell 9851 3) t,⟨?_,ht⟩,Nat.le_add_left_of_le BM,IX,λn m=>cD n m _ (pre n m (Jb n m (CJ (e5 n m) (EY ?_ (CP (G6 (BR rfl (BR (vN (BX (e0 n m (by decide) (by decide)) rfl) (FJ rfl rfl (QT (by lia)))) rfl)) (di rfl)))))))⟩
   .cases bX<;>simp<;>split<;>lia
   .by_cases h7:GJ cell 9871 9<7
    .have he:YW lv high bX=[]:=Classical.byContradiction λq=>hc ⟨h7,q⟩
     exact PJ (J5 (p:=GJ cell 9871 9<7) rfl h7) (GD (d:=.lst ((YW lv high bX).map λ(j:Nat)=>.int j)) rfl (by rw[he];rfl))
    .exact U9 (G7 (p:=GJ cell 9871 9<7) rfl h7)
 cases deep with
 | zero=>exact cd λn m _ k=>EY (U9 (G7 (p:=(0:Int)<0) rfl (by decide))) (EY (U9 (G7 (p:=(0:Int)<0) rfl (by decide))) k)
 | succ d=>
  have hb:=UH d rfl;have hs:((d+1:Nat):Int)-1=d:=by lia
  have hz:(0:Int)<((d+1:Nat):Int):=by lia
  have aaJ:=Eo d
  by_cases h2:GJ cell 9871 9<2
  .obtain⟨b,ob,db,sb,lb,eb⟩:=hb (cell*3+1) high h0 h3
   obtain⟨c,oc,dc,sc,lc,ec⟩:=hb (cell*5+2) high h0 h3;rw[<-hs]at eb ec;refine⟨.ite t b c,⟨ht,ob,oc⟩,by simp only[Dd.dep];omega,by simp only[Dd.size,sz];omega,λn m=>cD n m _ (pre n m (FZ (PJ (J5 rfl hz) (J5 rfl h2)) (CJ (BX (eb n m) (vn (by decide) rfl rfl rfl)) (CP (G6 (BR rfl (BR rfl (BR rfl (BR (BX (ec n m) (vn (by decide) rfl rfl rfl)) rfl)))) (di rfl))))))⟩
  .by_cases h4:GJ cell 9871 9<4/\(need=0\/bX=false)
   .obtain⟨h4,xk⟩:=h4
    obtain⟨b,ob,db,sb,lb,eb⟩:=hb (cell*3+1) need n0 n3;rw[<-hs]at eb;have C0:=hp.n4;obtain⟨x,hx,ex⟩:=YL (l:=nm) (i:=0) (by lia) (by lia);have r2:=JL cell 9859 (k:=6) (by lia);have BV:c9 (nm.map D.str) 0=some (.str x):=RG ex;have hD:∀u:Tm Str,dD (.bo u (b.app (.cons (.put x (.bin .sum (.ee x) (.num 1))) .nil)))=.tup [.str "while",dT u,.tup (dB b++[dD (.put x (.bin .sum (.ee x) (.num 1)))])]:=λu=>by
     show D.tup [_,_,.tup (dB _)]=_;rw[Qz];rfl
    have hl:(dB b).length+1<=10000:=by rw[JC,a8];lia
    have VA:(decide (need=0)||!bX)=true:=by rcases xk with h | h<;>simp[h]
    refine⟨.bo (if bX then .bin .less (.ee x) (.num (GJ cell 9859 6)) else t) (b.app (.cons (.put x (.bin .sum (.ee x) (.num 1))) .nil)),⟨?_,?_⟩,?_,?_,λn m=>cD n m _ (pre n m (EY (PJ (J5 rfl hz) (G7 rfl h2)) (FZ (PJ (J5 rfl hz) (PJ (J5 rfl h4) (GU (sW rfl rfl) VA))) (CJ (d:=dD (.put x (.bin .sum (.ee x) (.num 1)))) (G6 (BR rfl (BR (MP rfl rfl BV) (BR (G6 (BR rfl (BR (G6 (BR rfl (BR (MP rfl rfl BV) rfl)) (di rfl)) rfl)) (di rfl)) rfl))) (di rfl)) (CJ (BX (eb n m) (vn (by decide) rfl rfl rfl)) ?_)))))⟩
    .cases bX
     .exact ht
     .exact⟨hx,by constructor<;>lia⟩
    .exact jB ob ⟨⟨hx,hx,by constructor<;>lia⟩,trivial⟩
    .simp only[Dd.dep,fO,Bl.dep,Tm.dep]
     cases bX<;>simp[Tm.dep]<;>omega
    .simp only[Dd.size,ZQ,Bl.size,sz]
     lia
    .rw[hD]
     cases bX
     .exact EY rfl (CP (G6 (BR rfl (BR rfl (BR (FJ (d2:=.tup [dD (.put x (.bin .sum (.ee x) (.num 1)))]) rfl rfl (KR hl)) rfl))) (di rfl)))
     .exact JG rfl (CJ (G6 (BR rfl (BR (G6 (BR rfl (BR (MP rfl rfl BV) rfl)) (di rfl)) (BR (G6 (BR rfl (BR (BX (e0 n m (by decide) (by decide)) rfl) rfl)) (di rfl)) rfl))) (di rfl)) rfl) (CP (G6 (BR rfl (BR rfl (BR (FJ (d2:=.tup [dD (.put x (.bin .sum (.ee x) (.num 1)))]) rfl rfl (KR hl)) rfl))) (di rfl)))
   .refine cd λn m _ k=>EY (PJ (J5 rfl hz) (G7 rfl h2)) (EY (PJ (J5 rfl hz) ?_) k)
    by_cases qg:GJ cell 9871 9<4
    .have hn:¬need=0:=λq=>h4 ⟨qg,Or.inl q⟩
     have hh:bX=true:=by
      cases bX with
      | true=>rfl
      | false=>exact absurd ⟨qg,Or.inr rfl⟩ h4
     exact PJ (J5 rfl qg) (GU (sW rfl rfl) (by rw[hh,dn hn];rfl))
    .exact U9 (G7 rfl qg)
theorem QQ(Hm:ab "_law_mix" = some QG)(Ht:ab "_law_term" = some Y5)(Hi:ab "_law_names_in" = some N6)(Hb:ab "_law_block" = some Y7)(H:ab "_law_deed" = some bA)(hp:Plan nm lv){bX:Bool}:∀deep:Nat,tY ab W nm lv bX deep:=by
 intro deep
 induction deep with
 | zero=>exact wB Hm Ht Hi H hp λd h=>by cases h
 | succ d ih=>exact wB Hm Ht Hi H hp λe h=>by cases h;exact OA Hm Hb ih
noncomputable def n5(p:Int×Int):D:=.tup [.int p.1,.int p.2]
noncomputable def Gq:bg->bg
 | .cons (.bo _ b) _=>b
 | s=>s
noncomputable def dR:bg:=Gq (KY 2 eE)
noncomputable def mm(sn:List Str)(s:S Str):Mem:=[.aq (DW sn) (GF sn s.f),.lst (s.sh.map n5),.lst ((s.st.map dD).reverse)]
theorem mL:∀{sn:List Str},x∈sn->((DW sn).any λk=>decide (k=.inr x))=true
 | y::r,h=>by
  show (decide ((Sum.inr y:Key)=.inr x)||(DW r).any λk=>decide (k=.inr x))=true;rcases ck h with e | e
  .subst e;simp
  .rw[mL e];simp
theorem ED:∀{sn:List Str},jW (DW sn) (GF sn f) (.inr x) (.int v)=GF sn (MF f x v)
 | []=>rfl
 | y::r=>by
  show (if (Sum.inr y:Key)=.inr x then D.int v else .int (f y))::jW (DW r) (GF r f) (.inr x) (.int v)=.int (if y=x then v else f y)::GF r (MF f x v);rw[ED]
  by_cases e:y=x
  .subst e;simp
  .rw[ak (λq=>e (iw q)),ak e]
theorem EK(h:x∈sn):putD (DW sn) (GF sn f) (.inr x) (.int v)=(DW sn,GF sn (MF f x v)):=by
 rw[putD,ag (mL h),ED]
theorem Pm(hf:∀x,0<=f x/\f x<997)(hv:0<=v/\v<997):∀y,0<=MF f x v y/\MF f x v y<997:=λy=>by
 unfold MF;split
 .exact hv
 .exact hf y
noncomputable def gx(M:Nat)(most:Int)(s:S Str):Nat:=gz s.st+(most-s.t).toNat*M
theorem U6:∀l:List (Dd Str),l.length<=gz l
 | []=>a0 _
 | d::r=>by
  have:=U6 r;have:=d.size_pos;simp only[kg,gz];lia
structure y1(sn:List Str)(K M:Nat)(s:S Str):Prop where
 ok:∀d∈s.st,d.Ok (·∈sn)/\d.dep<=K/\d.size<=M
 fr:∀x,0<=s.f x/\s.f x<997
theorem mC{K M:Nat}{b:Bl Str}(ho:b.Ok (·∈sn))(hd:b.dep<=K)(hs:b.size<=M):∀d∈b.list,d.Ok (·∈sn)/\d.dep<=K/\d.size<=M:=λd h=>
 ⟨ho.mem d h,eJ (Bl.wa h) hd,eJ (bJ h) (by rw[J1];exact hs)⟩
theorem iT(l:List (Dd Str)):D.clean.cy ((l.map dD).reverse)=true:=by
 have:∀l:List D,(∀d∈l,d.clean=true)->D.clean.cy l=true:=λl=>by
  induction l with
  | nil=>exact λ_=>rfl
  | cons a r ih=>exact λh=>by simp[h a b0,ih λd hd=>h d (b7 _ hd)]
 refine this _ λd hd=>?_
 obtain⟨e,_,rfl⟩:=cw (List.mem_reverse.mp hd);exact Q5 e
noncomputable def gB:Option Int->D
 | some T=>.int T
 | none=>.au
noncomputable def LC(sn:List Str)(f:Str->Int):List D:=((CN sn).filter λx=>f x≠0).map λx=>.tup [.str x,.int (f x)]
theorem kE:∀{r:List Key} {q:List D} {ks:List Key} {vs:List D},r.length=q.length->r.Nodup->(∀k∈r,k∉ks)->FT ks vs r q=(ks++r,vs++q)
 | [],[],ks,vs,_,_,_=>by simp[FT]
 | k::r,v::q,ks,vs,hl,hn,hd=>by
  have hk:(ks.any λx=>decide (x=k))=false:=by
   rw[List.any_eq_false];intro x hx e;exact hd k b0 (by simpa using (f7 e)▸hx)
  have e:putD ks vs k v=(ks++[k],vs++[v]):=by rw[putD,hk];rfl
  rw[FT,e];rw[kE (by simpa using hl) (k0 hn).2 (λx hx q=>by
   rcases cz q with q | q
   .exact hd x (b7 _ hx) q
   .rw[eR q]at hx
    exact(k0 hn).1 hx)]
  simp
noncomputable def DK(sn:List Str)(f:Str->Int):List D:=sn.map λx=>.tup [.str x,.int (f x)]
theorem QM{f:Str->Int}:∀sn:List Str,pairsOf (DK sn f)=some (DW sn,GF sn f)
 | []=>rfl
 | x::r=>by
  have ih:=QM (f:=f) r;simp only[DK,cn]at ih ⊢;simp only[pairsOf,O5,ih];rfl
noncomputable def rN(sn:List Str)(r:R Str):D:=.tup [gB r.t,.tup (LC sn r.f),.tup [.tup ((je r.sh 0).map .int),.tup ((je r.sh 1).map .int),.tup ((je r.sh 2).map .int)]]
theorem ZF(l:List Int):D.clean.cy (l.map .int)=true:=by
 induction l with
 | nil=>rfl
 | cons a r ih=>simp[ih]
theorem K1(l:List Str)(f:Str->Int):D.clean.cy (l.map λx=>.tup [.str x,.int (f x)])=true:=by
 induction l with
 | nil=>rfl
 | cons a r ih=>simp[ih]
theorem zA(sn:List Str)(r:R Str):(rN sn r).clean=true:=by
 have:=K1 ((CN sn).filter λx=>r.f x≠0) r.f;cases h:r.t<;>simp[rN,gB,h,ZF,LC,this]<;>exact(by simpa using this)
structure G0(ab:String->Option Fn):Prop where
 Xu:ab "number_of" = some KC
 Tw:ab "do_deeds" = some oo
 XI:ab "page_of" = some YQ
 Yy:ab "store_of" = some VR
 run:ab "run" = some Gn
structure HasP(ab:String->Option Fn):Prop where
 cell:ab "_law_cell" = some V0
 mix:ab "_law_mix" = some QG
 name:ab "_law_name" = some aZ
 names:ab "_law_names" = some fG
 levels:ab "_law_levels" = some YM
 term:ab "_law_term" = some Y5
 Xl:ab "_law_names_in" = some N6
 BH:ab "_law_deed" = some bA
 block:ab "_law_block" = some Y7
 program:ab "_law_program" = some fC
structure G1(ab:String->Option Fn):Prop extends HasP ab where
 store:ab "_law_store" = some qP
noncomputable def dG(ns:List Int)(lo hi:Option Int):List Int:=(ns.drop (HT.bt ns.length 0 lo)).take (HT.bt ns.length ns.length hi-HT.bt ns.length 0 lo)
theorem Oo(ns:List Int)(lo hi:Option Int):cutD (ns.map .int) lo hi=(dG ns lo hi).map .int:=by
 simp only[WL.cutD,dG,a8,List.map_take,List.map_drop]
theorem Oq(ns:List Int){a b:Int}(ha:0<=a)(hb:a<=b):(dG ns (some a) (some b)).length<=(b-a).toNat:=by
 obtain⟨i,rfl⟩:=we ha;obtain⟨j,rfl⟩:=we (show 0<=b by omega);simp only[dG,HT.Kl,List.length_take,List.length_drop];omega
theorem PU(c d:Int):Plan (JK c) (O4 d):=⟨rfl,rfl,oX d⟩
theorem zL(H:HasP ab){k:Nat}:∃pg:Bl Str,pg.Ok (·∈JK (DY ns 0))/\pg.dep<=4/\pg.size<=63/\∀n m,CG W ab (n+10) "_law_program" [.bP ns,.int k] m=some (.tup (dB pg),m):=by
 have w9:=QQ (W:=W) H.mix H.term H.Xl H.block H.BH (PU (DY ns 0) (DY ns 1)) (bX:=decide (0<GJ (DY ns 0) 9833 4)) 2;have d6:=λc=>w9 c 0 (by lia) (by lia)
 let g:Int->Dd Str:=λc=>Classical.choose (d6 c)
 have hg:=λc=>Classical.choose_spec (d6 c)
 have dA:=Oq ns (a:=k) (b:=k+1+DY ns 0 % 3) (by lia) (by lia);have aap:(dG ns (some k) (some (k+1+DY ns 0 % 3))).length<=3:=by lia
 refine⟨Bl.of ((dG ns (some k) (some (k+1+DY ns 0 % 3))).map g),?_,?_,?_,λn m=>?_⟩
 .refine fM λd h=>?_
  obtain⟨j,_,rfl⟩:=cw h;exact(hg j).1
 .refine YS λd h=>?_
  obtain⟨j,_,rfl⟩:=cw h;exact(hg j).2.1
 .refine eJ (W0 (k:=21) λd h=>?_) ?_
  .obtain⟨j,_,rfl⟩:=cw h
   exact(hg j).2.2.1
  .rw[a8];lia
 .refine CV (n:=n+9) H.program rfl (O7 _) ?_
  have hc:=YJ (W:=W) (n:=n+8) (m:=m) H.cell (ns:=ns) (k:=0);rw[Int.natCast_zero]at hc;have hm:∀{c p k:Int},0<p->0<k->CG W ab (n+9) "_law_mix" [.int c,.int p,.int k] m=some (.int (GJ c p k),m):=λhp hk=>NT (n:=n+8) H.mix hp hk
  have hn:=aU (W:=W) (n:=n+6) (m:=m) H.mix H.cell H.name H.names (ns:=ns);have hl:=pR (W:=W) (n:=n+7) (m:=m) H.mix H.cell H.levels (ns:=ns);have o5:ng (.bP ns) (some k) (some (k+1+DY ns 0 % 3))=some (.lst ((dG ns (some k) (some (k+1+DY ns 0 % 3))).map .int)):=by
   show some (D.lst (cutD (ns.map .int) _ _))=_;rw[Oo]
  have comp:∀x,ev (CG W ab (n+9)) (.comp false 1 (.nm 5) (.seq (.var 4)) .tt (.call "_law_deed" (.cons (.var 3) (.cons (.var 5) (.cons (.con (.int 2)) (.cons (.con (.int 0)) .nil)))))) [some (.bP ns),some (.int k),x,some (PX (JK (DY ns 0)) (O4 (DY ns 1)) (decide (0<GJ (DY ns 0) 9833 4))),some (.lst ((dG ns (some k) (some (k+1+DY ns 0 % 3))).map .int))] m=some (.lst (dB (Bl.of ((dG ns (some k) (some (k+1+DY ns 0 % 3))).map g))),m):=by
   intro x;rw[K7 (xs:=(dG ns (some k) (some (k+1+DY ns 0 % 3))).map .int) (λd=>match d with | .int j=>dD (g j) | _=>.au) rfl rfl (by rw[a8];lia)]
   .rw[Ge,bS,bS];rfl
   .intro d hd
    obtain⟨j,hj,rfl⟩:=cw hd;refine⟨[some (.bP ns),some (.int k),x,some (PX (JK (DY ns 0)) (O4 (DY ns 1)) (decide (0<GJ (DY ns 0) 9833 4))),some (.lst ((dG ns (some k) (some (k+1+DY ns 0 % 3))).map .int)),some (.int j)],rfl,rfl,BX ((hg j).2.2.2 n m) rfl⟩
  exact CJ (HJ (BX (hm (by decide) (by decide)) (BR (BX hc rfl) rfl)) rfl rfl) (CJ (G6 (BR (BX hn rfl) (BR (BX hl rfl) rfl)) (di rfl)) (CJ (iJ rfl rfl (vO (FJ rfl (FJ (BX hc rfl) rfl (K3 (by decide))) rfl)) o5) (CP (GC (comp _) rfl))))
noncomputable def J3(c:Int)(j:Nat):Int:=if c % 4=0 then GJ (c+13*j) 9829 997 % 3 else GJ (c+13*j) 9829 997
theorem RC(c:Int)(j:Nat):0<=J3 c j/\J3 c j<997:=by
 have:=JL (c+13*j) 9829 (k:=997) (by lia);unfold J3;split<;>lia
noncomputable def gL(q c:Int)(x:Str):Int:=if x=FP q 0 then J3 c 0 else if x=FP q 1 then J3 c 1 else if x=FP q 2 then J3 c 2 else J3 c 3
theorem SI(q c:Int)(x:Str):0<=gL q c x/\gL q c x<997:=by
 unfold gL
 repeat' split
 all_goals exact RC _ _
noncomputable def lS(q c:Int):List Str:=(JH [(FP q 0,J3 c 0),(FP q 1,J3 c 1),(FP q 2,J3 c 2),(FP q 3,J3 c 3)]).map (·.1)
theorem Mp(q c:Int):(lS q c).Perm (JK q):=List.Perm.map (λp:Str×Int=>p.1) (fb [(FP q 0,J3 c 0),(FP q 1,J3 c 1),(FP q 2,J3 c 2),(FP q 3,J3 c 3)] λp q=>FQ p.1 q.1)
theorem Ld(q c:Int):(JH [(FP q 0,J3 c 0),(FP q 1,J3 c 1),(FP q 2,J3 c 2),(FP q 3,J3 c 3)]).map K4=DK (lS q c) (gL q c):=by
 unfold DK lS;rw[bS];refine ke λp hp=>?_
 have hp:p∈[(FP q 0,J3 c 0),(FP q 1,J3 c 1),(FP q 2,J3 c 2),(FP q 3,J3 c 3)]:=(fb _ _).mem_iff.mp hp;have ne:∀{i j:Nat},i<4->j<4->i≠j->¬FP q i=FP q j:=λhi hj hn e=>hn (oR hi hj e)
 have Xf:=ne (i:=1) (j:=0) (by decide) (by decide) (by decide);have Xg:=ne (i:=2) (j:=0) (by decide) (by decide) (by decide);have Xh:=ne (i:=2) (j:=1) (by decide) (by decide) (by decide);have Xi:=ne (i:=3) (j:=0) (by decide) (by decide) (by decide);have Xj:=ne (i:=3) (j:=1) (by decide) (by decide) (by decide);have Xk:=ne (i:=3) (j:=2) (by decide) (by decide) (by decide);simp only[List.mem_cons,List.not_mem_nil,or_false]at hp;rcases hp with rfl | rfl | rfl | rfl<;>simp[K4,gL,Xf,Xg,Xh,Xi,Xj,Xk]
theorem Ov(H:G1 ab){k:Nat}:CG W ab (n+10) "_law_store" [.bP ns,.int k] []=some (.tup (DK (lS (DY ns 0) (DY ns k)) (gL (DY ns 0) (DY ns k))),[]):=by
 have hc:∀m,CG W ab (n+9) "_law_cell" [.bP ns,.int k] m=some (.int (DY ns k),m):=λm=>YJ (W:=W) (n:=n+8) (m:=m) H.cell (ns:=ns) (k:=k)
 have hm:∀m {c p k:Int},0<p->0<k->CG W ab (n+9) "_law_mix" [.int c,.int p,.int k] m=some (.int (GJ c p k),m):=λm _ _ _ hp hk=>NT (n:=n+8) H.mix hp hk
 have hn:∀m,CG W ab (n+9) "_law_names" [.bP ns] m=_:=λm=>aU (W:=W) (n:=n+6) (m:=m) H.mix H.cell H.name H.names (ns:=ns)
 generalize DY ns k=c at hc ⊢;generalize DY ns 0=q at hn ⊢;have hs:∀m,m[0]?=some (.lst [.tup [.str (FP q 0),.int (J3 c 0)],.tup [.str (FP q 1),.int (J3 c 1)],.tup [.str (FP q 2),.int (J3 c 2)],.tup [.str (FP q 3),.int (J3 c 3)]])->de (.sorted false) (.ao 0) m=some (.lst (DK (lS q c) (gL q c)),m):=λm e=>by
  have nd:=names_nodup q;have e1:G5 (.ao 0) m=some [.tup [.str (FP q 0),.int (J3 c 0)],.tup [.str (FP q 1),.int (J3 c 1)],.tup [.str (FP q 2),.int (J3 c 2)],.tup [.str (FP q 3),.int (J3 c 3)]]:=by
   show (match m[0]? with | some (.lst xs)=>some xs | _=>none)=_;rw[e]
  show ((G5 (.ao 0) m).bind λxs=>(KQ xs).bind λps=>if xs.length<=4/\(ps.map (·.1)).Nodup then some (bw false ((JH ps).map K4) m) else none)=_;rw[e1,bu,show KQ [.tup [.str (FP q 0),.int (J3 c 0)],.tup [.str (FP q 1),.int (J3 c 1)],.tup [.str (FP q 2),.int (J3 c 2)],.tup [.str (FP q 3),.int (J3 c 3)]]=some [(FP q 0,J3 c 0),(FP q 1,J3 c 1),(FP q 2,J3 c 2),(FP q 3,J3 c 3)] from rfl,bu,ag ⟨by simp,by simpa[JK] using nd⟩,<-Ld];rfl
 have e0:=K1 (lS q c) (gL q c);have kN:∀(i:Nat) (x:Str) (acc:List D) (x5:Option D),acc.length<100000->aI (CG W ab (n+9)) W (Ub (KY 1 qF)) [some (.bP ns),some (.int k),some (.ao 0),some (.int i),some (.str x),x5] [.lst acc]=some (.nx [some (.bP ns),some (.int k),some (.ao 0),some (.int i),some (.str x),some (.int (J3 c i))],[.lst (acc++[.tup [.str x,.int (J3 c i)]])]):=λi x acc x5 hl=>by
  refine CJ (d:=.int (GJ (c+13*i) 9829 997)) (BX (hm _ (by decide) (by decide)) (BR (FJ (BX (hc _) rfl) (FJ rfl rfl (QT (by decide))) rfl) rfl)) ?_;have t4:=λ(σ:DS) (h:gn (CG W ab (n+9)) (.cons (.var 0) (.cons (.var 1) .nil)) σ [.lst acc]=some ([.bP ns,.int k],[.lst acc]))=>GD (C:=CG W ab (n+9)) (σ:=σ) (m:=[.lst acc]) (HJ (o:=.eq) (e2:=.con (.int 0)) (d2:=.int 0) (FJ (e2:=.con (.int 4)) (BX (hc _) h) rfl (K3 (b:=4) (by decide))) rfl rfl) (Ei _)
  by_cases h4:c % 4=0
  .rw[J3,ag h4]
   exact JG (J5 (t4 _ rfl) h4) (CJ (FJ rfl rfl (K3 (by decide))) rfl) (HX (QF rfl rfl rfl rfl hl) rfl)
  .rw[J3,ak h4]
   exact EY (G7 (t4 _ rfl) h4) (HX (QF rfl rfl rfl rfl hl) rfl)
 have le:∀{a b:Nat},Nat.ble a b=true->a<=b:=di;exact K8 (q:=[.lst [.tup [.str (FP q 0),.int (J3 c 0)],.tup [.str (FP q 1),.int (J3 c 1)],.tup [.str (FP q 2),.int (J3 c 2)],.tup [.str (FP q 3),.int (J3 c 3)]]]) (n:=n+9) H.store rfl e0 (CJ (d:=.ao 0) (m1:=[MO.lst []]) rfl (QZ (Of (BX (hn _) rfl)) (IW rfl rfl (kN 0 _ _ _ (le rfl)) (IW rfl rfl (kN 1 _ _ _ (le rfl)) (IW rfl rfl (kN 2 _ _ _ (le rfl)) (IW rfl rfl (kN 3 _ _ _ (le rfl)) (QS rfl))))) (CP (GC (GC rfl (hs _ rfl)) rfl))))
noncomputable def b6:Nat->D->Bool
 | _,.au=>true
 | _,.bl _=>true
 | _,.int _=>true
 | _,.str x=>(PyData.str x).canLay0
 | k+1,.tup xs=>xs.all (b6 k)
 | _,_=>false
theorem FX:∀{k:Nat} {d:D},b6 k d=true->∃p,nX d=some p/\p.canLay0=true/\p.depth<=k:=by
 intro k
 induction k with
 | zero=>
  intro d h;cases d with
  | au=>exact⟨_,rfl,rfl,a0 _⟩
  | bl b=>exact⟨_,rfl,rfl,a0 _⟩
  | int i=>exact⟨_,rfl,rfl,a0 _⟩
  | str x=>exact⟨_,rfl,h,a0 _⟩
  | _=>cases h
 | succ k ih=>
  intro d h;cases d with
  | au=>exact⟨_,rfl,rfl,eS _⟩
  | bl b=>exact⟨_,rfl,rfl,eS _⟩
  | int i=>exact⟨_,rfl,rfl,eS _⟩
  | str x=>exact⟨_,rfl,h,eS _⟩
  | tup xs=>
   have key:∀xs:List D,(xs.all (b6 k))=true->∃ps,cG xs=some ps/\PyData.canLayAll0 ps=true/\PyData.depthAll ps<=k:=by
    intro xs
    induction xs with
    | nil=>exact λ_=>⟨[],rfl,rfl,eS _⟩
    | cons a r Wu=>
     intro h;simp only[List.all_cons,gp]at h;obtain⟨p,e1,e2,e3⟩:=ih h.1;obtain⟨ps,q1,q2,q3⟩:=Wu h.2;exact⟨p::ps,by
      show (nX a).bind _=_;rw[e1];show (cG r).map _=_;rw[q1];rfl,by simp[PyData.canLayAll0,e2,q2],by simp only[PyData.depthAll];lia⟩
   obtain⟨ps,q1,q2,q3⟩:=key xs h;exact⟨.tuple ps,by
    show (cG xs).map _=_;rw[q1];rfl,by simpa[PyData.canLay0] using q2,by simp only[PyData.depth];lia⟩
  | _=>cases h
theorem eq_self(h:b6 60 d=true):R7 d d=some true:=by
 obtain⟨p,e1,e2,e3⟩:=FX h;unfold R7;rw[e1,bu,bu,ag (by simp[e2];omega),SeqAt.eqv_refl p e2]
theorem Nr(k:Nat)(l:List Int):b6 (k+1) (.tup (l.map .int))=true:=by
 show (l.map D.int).all (b6 k)=true;rw[rX];intro d hd;obtain⟨i,_,rfl⟩:=cw hd;cases k<;>rfl
theorem P9(h:∀x∈sn,(PyData.str x).canLay0=true):b6 60 (rN sn r)=true:=by
 have h1:b6 59 (gB r.t)=true:=by cases r.t<;>rfl
 have h2:b6 59 (.tup (LC sn r.f))=true:=by
  show (LC sn r.f).all (b6 58)=true;rw[rX];intro d hd;obtain⟨x,hx,rfl⟩:=cw hd;have hx:=(fb sn FQ).mem_iff.mp (j3 hx).1;show (b6 57 (.str x)&&(b6 57 (.int (r.f x))&&true))=true;rw[show b6 57 (.str x)=(PyData.str x).canLay0 from rfl,h x hx];rfl
 have h3:∀l,b6 58 (.tup ((je r.sh l).map .int))=true:=λl=>Nr 57 _
 show (b6 59 (gB r.t)&&(b6 59 (.tup (LC sn r.f))&&((b6 58 (.tup ((je r.sh 0).map .int))&&(b6 58 (.tup ((je r.sh 1).map .int))&&(b6 58 (.tup ((je r.sh 2).map .int))&&true)))&&true)))=true;rw[h1,h2,h3,h3,h3];rfl
noncomputable def ub:bg->bg
 | .cons (.fr _ _ b) _=>b
 | s=>s
structure eC(nm ks:List Str)(f:Str->Int):Prop where
 nd:ks.Nodup
 sub:∀x∈ks,x∈nm
 zero:∀x,x∉ks->f x=0
noncomputable def mg(ks:List Str)(s:S Str):Mem:=[.aq (DW ks) (GF ks s.f),.lst (s.sh.map n5),.lst ((s.st.map dD).reverse)]
theorem aL:∀{ks:List Str},x∉ks->HB (DW ks) (GF ks f) (.inr x)=none
 | [],_=>rfl
 | y::r,h=>by
  show (if (Sum.inr y:Key)=.inr x then some (D.int (f y)) else HB (DW r) (GF r f) (.inr x))=_;rw[ak (λq=>h (by rw[iw q];exact b0))];exact aL λq=>h (b7 _ q)
theorem oW(h:eC nm ks f)(x:Str):(HB (DW ks) (GF ks f) (.inr x)).getD (.int 0)=.int (f x):=by
 by_cases e:x∈ks
 .rw[U5 e];rfl
 .rw[aL e,h.zero x e];rfl
theorem mO:∀{ks:List Str},x∉ks->((DW ks).any λk=>decide (k=.inr x))=false
 | [],_=>rfl
 | y::r,h=>by
  show (decide ((Sum.inr y:Key)=.inr x)||(DW r).any λk=>decide (k=.inr x))=false;rw[mO λq=>h (b7 _ q)];have:¬(Sum.inr y:Key)=.inr x:=λq=>h (by rw[iw q];exact b0)
  simp[this]
theorem uY(h:eC nm ks f)(hx:x∈nm)(v:Int):∃bj,putD (DW ks) (GF ks f) (.inr x) (.int v)=(DW bj,GF bj (MF f x v))/\eC nm bj (MF f x v):=by
 by_cases e:x∈ks
 .exact⟨ks,EK e,h.nd,h.sub,λy hy=>by
   unfold MF;rw[ak (λq=>hy (by rw[q];exact e))];exact h.zero y hy⟩
 .refine⟨ks++[x],?_,?_,?_,?_⟩
  .rw[putD,mO e]
   simp only[DW,GF,dt,cn,List.map_nil];have:ks.map (λy=>D.int (f y))=ks.map λy=>D.int (MF f x v y):=ke λy hy=>by
    unfold MF;rw[ak (λq=>e (by rw[<-q];exact hy))]
   rw[this];simp[MF]
  .exact List.nodup_append.mpr ⟨h.nd,by simp,λa ha b hb q=>by
    rw[eR hb]at q;exact e (q▸ha)⟩
  .intro y hy
   rcases cz hy with q | q
   .exact h.sub y q
   .rw[eR q];exact hx
  .intro y hy
   have h1:y∉ks:=λq=>hy (iu _ q)
   have h2:y≠x:=λq=>hy (by simp[q])
   unfold MF;rw[ak h2];exact h.zero y h1
theorem R9{W:Nat}{ab:String->Option Fn}(H:ab "number_of" = some KC){P:Str->Prop}{nm ks:List Str}{f:Str->Int}(hs:eC nm ks f)(hf:∀x,0<=f x/\f x<997){i:Nat}{m:Mem}(hm:HN (.ao i) m=some (DW ks,GF ks f)):∀{t:Tm Str} {n:Nat},t.Ok P->t.dep<n->CG W ab n "number_of" [dT t,.ao i] m=some (.int (t.val f),m)
 | .num k,n+1,ho,h=>CV H rfl rfl (CJ rfl (FZ (J5 (p:=("number":Str)="number") rfl rfl) (CP rfl)))
 | .ee x,n+1,ho,h=>CV H rfl rfl (CJ rfl (EY (G7 (p:=("name":Str)="number") rfl (cK (by decide))) (FZ (J5 (p:=("name":Str)="name") rfl rfl) (CP ((aO rfl rfl rfl hm rfl).trans (by rw[oW hs];rfl))))))
 | .bin o a b,n+1,ho,h=>by
  simp only[Tm.dep]at h;have ea:=R9 (W:=W) H hs hf hm (t:=a) (n:=n) ho.1 (by lia);have eb:=R9 (W:=W) H hs hf hm (t:=b) (n:=n) ho.2 (by lia);have ra:=Tm.Ea hf ho.1;have rb:=Tm.Ea hf ho.2;have o1:m5 o≠"number":=by cases o<;>decide
  have o2:m5 o≠"name":=by cases o<;>decide
  refine CV H rfl rfl (CJ rfl (EY (G7 rfl (cK o1)) (EY (G7 rfl (cK o2)) (CJ (BX ea rfl) (CJ (BX eb rfl) ?_)))));cases o with
  | sum=>exact FZ (J5 (p:=("sum":Str)="sum") rfl rfl) (CP (FJ (d:=.int (a.val f+b.val f)) (d2:=.int 997) rfl rfl (K3 (by decide))))
  | times=>exact EY (G7 (p:=("times":Str)="sum") rfl (cK (by decide))) (FZ (J5 (p:=("times":Str)="times") rfl rfl) (CP (FJ (d2:=.int 997) (FJ rfl rfl (X6 (by lia))) rfl (K3 (by decide)))))
  | less=>
   refine EY (G7 (p:=("less":Str)="sum") rfl (cK (by decide))) (EY (G7 (p:=("less":Str)="times") rfl (cK (by decide))) (CP (Fd (GD (HJ rfl rfl rfl) rfl) ?_)));show _=some (D.int (if a.val f<b.val f then 1 else 0),m)
   by_cases hh:a.val f<b.val f
   .rw[ag hh,dm hh];rfl
   .rw[ak hh,dn hh];rfl
theorem gD(a b:Str):(FQ a b||FQ b a)=true:=by
 unfold FQ
 by_cases h:b.cps.toList<a.cps.toList
 .have:¬a.cps.toList<b.cps.toList:=λq=>List.lt_irrefl _ (List.lt_trans h q)
  simp[this]
 .simp[h]
theorem vg(h:FQ a b=true)(h':FQ b a=true):a=b:=by
 unfold FQ at h h';simp at h h';have:a.cps.toList=b.cps.toList:=List.le_antisymm h h';cases a;cases b;simp at this;rw[this]
theorem nF(h:FQ a b=true)(h':FQ b c=true):FQ a c=true:=by
 unfold FQ at h h' ⊢;simp at h h' ⊢;exact List.le_trans h h'
theorem uI(h:l.Nodup):(CN l).Nodup:=(fb l FQ).nodup_iff.mpr h
theorem D1:x∈CN l↔x∈l:=(fb l FQ).mem_iff
theorem K6(l:List Str):(CN l).Pairwise (λa b=>FQ a b=true):=List.pairwise_mergeSort (le:=FQ) (λa b c h h'=>nF h h') gD l
theorem nH(hn:nm.Nodup)(h:eC nm ks f):LC ks f=LC nm f:=by
 unfold LC;have:(CN ks).filter (λx=>f x≠0)=(CN nm).filter λx=>f x≠0:=by
  refine List.Perm.eq_of_pairwise (le:=λa b=>FQ a b=true) (λa b _ _ h1 h2=>vg h1 h2) ((K6 ks).filter _) ((K6 nm).filter _) ?_;refine(zq ((uI h.nd).filter _) ((uI hn).filter _)).mpr λx=>?_
  simp only[List.mem_filter,D1];refine⟨λq=>⟨h.sub x q.1,q.2⟩,λq=>⟨?_,q.2⟩⟩;refine Classical.byContradiction λe=>?_
  have:=h.zero x e;simp[this]at q
 rw[this]
noncomputable def mz(m0:Mem)(ks:List Str)(s:S Str):Mem:=m0++[.aq (DW ks) (GF ks s.f),.lst (s.sh.map n5),.lst ((s.st.map dD).reverse)]
noncomputable def fE(b:Nat)(prog:D)(most t:Int)(x6 x7 x8:Option D):DS:=[some prog,some (.ao b),some (.ao (b+1)),some (.int most),some (.int t),some (.ao (b+2)),x6,x7,x8]
noncomputable def Gz(b:Nat)(prog:D)(most:Int)(l6 l7 l8:Option D):Option Int->Out
 | some T=>.nx (fE b prog most T l6 l7 l8)
 | none=>.rt .au
section
variable{st g7:List (Dd Str)}{f':Str->Int}{DZ:List (Int×Int)}{t t':Int}{s:S Str}
theorem JA:(mz m0 ks s)[m0.length]?=some (.aq (DW ks) (GF ks s.f)):=by simp[mz]
theorem Xe:(mz m0 ks s)[m0.length+1]?=some (.lst (s.sh.map n5)):=by simp[mz]
theorem xI:(mz m0 ks s)[m0.length+2]?=some (.lst (s.st.map dD).reverse):=by simp[mz]
theorem SA:(mz m0 ks ⟨st,f,sh,t⟩).set m0.length (.aq (DW bj) (GF bj f'))=mz m0 bj ⟨st,f',sh,t⟩:=by simp[mz]
theorem Sy:(mz m0 ks ⟨st,f,sh,t⟩).set (m0.length+1) (.lst (DZ.map n5))=mz m0 ks ⟨st,f,DZ,t⟩:=by simp[mz]
theorem yv:(mz m0 ks ⟨st,f,sh,t⟩).set (m0.length+2) (.lst (g7.map dD).reverse)=mz m0 ks ⟨g7,f,sh,t⟩:=by simp[mz]
end
noncomputable def WM:bg:=KY 2 dR
noncomputable def kindS:Dd Str->String
 | .put _ _=>"put"
 | .cv _ _=>"show"
 | .ite _ _ _=>"if"
 | .bo _ _=>"while"
section
variable{prog:D}{t:Int}{x6 x7 x8:Option D}{k:List (Dd Str)}{d:Dd Str}
theorem z_head:aI (CG W ab n) W dR (fE m0.length prog most t x6 x7 x8) (mz m0 ks ⟨d::k,f,sh,t⟩)=aI (CG W ab n) W WM (fE m0.length prog most t (some (dD d)) (some (.str (Str.ofString (kindS d)))) x8) (mz m0 ks ⟨k,f,sh,t⟩):=by
 have hb:dR=.cons (.set 6 (.pop (.var 5))) (.cons (.set 7 (.ix (.var 6) (.con (.int 0)))) WM):=rfl;have hd:(((d::k).map dD).reverse).dropLast=(k.map dD).reverse:=by simp
 have hl:(((d::k).map dD).reverse)[((d::k).map dD).reverse.length-1]?=some (dD d):=by simp
 have hk:∀m,jz (dD d) (.int 0) m=some (.str (Str.ofString (kindS d))):=λm=>by cases d<;>rfl
 have hp:∀σ:DS,σ[5]?=some (some (.ao (m0.length+2)))->ev (CG W ab n) (.pop (.var 5)) σ (mz m0 ks ⟨d::k,f,sh,t⟩)=some (dD d,mz m0 ks ⟨k,f,sh,t⟩):=λ σ h=>by
  rw[Ph,bL,h];simp only[bu,xI,hl,jh,hd,yv]
 have e1:ex (CG W ab n) W (.set 6 (.pop (.var 5))) (fE m0.length prog most t x6 x7 x8) (mz m0 ks ⟨d::k,f,sh,t⟩)=some (.nx (fE m0.length prog most t (some (dD d)) x7 x8),mz m0 ks ⟨k,f,sh,t⟩):=by
  rw[FH,hp _ rfl];rfl
 have e2:ex (CG W ab n) W (.set 7 (.ix (.var 6) (.con (.int 0)))) (fE m0.length prog most t (some (dD d)) x7 x8) (mz m0 ks ⟨k,f,sh,t⟩)=some (.nx (fE m0.length prog most t (some (dD d)) (some (.str (Str.ofString (kindS d)))) x8),mz m0 ks ⟨k,f,sh,t⟩):=by
  have:ev (CG W ab n) (.var 6) (fE m0.length prog most t (some (dD d)) x7 x8) (mz m0 ks ⟨k,f,sh,t⟩)=some (dD d,mz m0 ks ⟨k,f,sh,t⟩):=by rw[bL];rfl
  simp only[FH,Pk,this,bu,FI,hk,jh];rfl
 rw[hb,Es,e1,bu];simp only;rw[Es,e2,bu]
theorem Q4(Hn:ab "number_of" = some KC)(hS:eC sn ks f)(hf:∀x,0<=f x/\f x<997)(ho:e.Ok (·∈sn))(hd:e.dep<n):CG W ab n "number_of" [dT e,.ao m0.length] (mz m0 ks ⟨k,f,sh,t⟩)=some (.int (e.val f),mz m0 ks ⟨k,f,sh,t⟩):=R9 Hn hS hf (by simp only[HN,JA]) ho hd
theorem Q3(e1:CG W ab n "number_of" [dT e,.ao m0.length] (mz m0 ks ⟨k,f,sh,t⟩)=some (.int (e.val f),mz m0 ks ⟨k,f,sh,t⟩))(e2:putD (DW ks) (GF ks f) (.inr x) (.int (e.val f))=(DW sM,GF sM (MF f x (e.val f))))(e3:(DW ks).length<10000):aI (CG W ab n) W WM (fE m0.length prog most t (some (dD (.put x e))) (some (.str "put")) x8) (mz m0 ks ⟨k,f,sh,t⟩)=some (.nx (fE m0.length prog most t (some (dD (.put x e))) (some (.str "put")) x8),mz m0 sM ⟨k,MF f x (e.val f),sh,t⟩):=
 JG (J5 (p:=("put":Str)="put") rfl rfl) (jE (BX e1 rfl) rfl rfl JA rfl rfl e3 (N7 (by rw[e2];exact SA))) rfl
theorem Q2{l:Int}(e1:CG W ab n "number_of" [dT e,.ao m0.length] (mz m0 ks ⟨k,f,sh,t⟩)=some (.int (e.val f),mz m0 ks ⟨k,f,sh,t⟩))(e3:sh.length<100000):aI (CG W ab n) W WM (fE m0.length prog most t (some (dD (.cv l e))) (some (.str "show")) x8) (mz m0 ks ⟨k,f,sh,t⟩)=some (.nx (fE m0.length prog most t (some (dD (.cv l e))) (some (.str "show")) x8),mz m0 ks ⟨k,f,sh++[(l,e.val f)],t⟩):=
 HY (G7 (p:=("show":Str)="put") rfl (cK (by decide))) (JG (J5 (p:=("show":Str)="show") rfl rfl) (HX (QF rfl (G6 (BR rfl (BR (BX e1 rfl) rfl)) (di rfl)) Xe rfl (by rw[a8];exact e3)) (N7 (by
  have:=Sy (m0:=m0) (ks:=ks) (st:=k) (f:=f) (sh:=sh) (t:=t) (DZ:=sh++[(l,e.val f)]);rw[dt]at this;exact this))) rfl) rfl
theorem Ra(e1:CG W ab n "number_of" [dT e,.ao m0.length] (mz m0 ks ⟨k,f,sh,t⟩)=some (.int (e.val f),mz m0 ks ⟨k,f,sh,t⟩))(hq:q=if e.val f=0 then c else b)(h2:k.length+(dB q).length<=100000):aI (CG W ab n) W WM (fE m0.length prog most t (some (dD (.ite e b c))) (some (.str "if")) x8) (mz m0 ks ⟨k,f,sh,t⟩)=some (.nx (fE m0.length prog most t (some (dD (.ite e b c))) (some (.str "if")) (some (.tup (dB q)))),mz m0 ks ⟨q.list++k,f,sh,t⟩):=by
 have xo:∀(xs:List D) (m:Mem),de (.tf false) (.tup xs) m=some (.lst xs.reverse,m):=λ_ _=>rfl
 have cc:=iT q.list;rw[<-JC]at cc;have s2:(mz m0 ks ⟨k,f,sh,t⟩).set (m0.length+2) (.lst ((k.map dD).reverse++(dB q).reverse))=mz m0 ks ⟨q.list++k,f,sh,t⟩:=by
  rw[JC,<-List.reverse_append,<-dt];exact yv
 have uz:ev (CG W ab n) (.uz (.val (.cmp .ne (.call "number_of" (.cons (.ix (.var 6) (.con (.int 1))) (.cons (.var 1) .nil))) (.con (.int 0)))) (.ix (.var 6) (.con (.int 2))) (.ix (.var 6) (.con (.int 3)))) (fE m0.length prog most t (some (dD (.ite e b c))) (some (.str "if")) x8) (mz m0 ks ⟨k,f,sh,t⟩)=some (.tup (dB q),mz m0 ks ⟨k,f,sh,t⟩):=by
  refine Fd (GD (HJ (BX e1 rfl) rfl rfl) rfl) ?_;rw[hq]
  by_cases hv:e.val f=0
  .rw[ag hv,dm hv];rfl
  .rw[ak hv,dn hv];rfl
 exact HY (G7 (p:=("if":Str)="put") rfl (cK (by decide))) (HY (G7 (p:=("if":Str)="show") rfl (cK (by decide))) (JG (J5 (p:=("if":Str)="if") rfl rfl) (CJ uz (HX (Fe rfl (GC (d:=.tup (dB q)) rfl (xo _ _)) xI (by rw[JC,<-List.map_reverse]at *;exact cc) (by rw[List.length_reverse,List.length_reverse,a8];exact h2)) (N7 s2))) rfl) rfl) rfl
theorem OR(e1:CG W ab n "number_of" [dT e,.ao m0.length] (mz m0 ks ⟨k,f,sh,t⟩)=some (.int (e.val f),mz m0 ks ⟨k,f,sh,t⟩))(hv:e.val f=0):aI (CG W ab n) W WM (fE m0.length prog most t (some (dD (.bo e b))) (some (.str "while")) x8) (mz m0 ks ⟨k,f,sh,t⟩)=some (.nx (fE m0.length prog most t (some (dD (.bo e b))) (some (.str "while")) x8),mz m0 ks ⟨k,f,sh,t⟩):=
 HY (G7 (p:=("while":Str)="put") rfl (cK (by decide))) (HY (G7 (p:=("while":Str)="show") rfl (cK (by decide))) (HY (G7 (p:=("while":Str)="if") rfl (cK (by decide))) (EY (Se (GD (HJ (BX e1 rfl) rfl rfl) rfl) hv) rfl) rfl) rfl) rfl
theorem OQ(e1:CG W ab n "number_of" [dT e,.ao m0.length] (mz m0 ks ⟨k,f,sh,t⟩)=some (.int (e.val f),mz m0 ks ⟨k,f,sh,t⟩))(hv:e.val f≠0)(ht:most<=t):aI (CG W ab n) W WM (fE m0.length prog most t (some (dD (.bo e b))) (some (.str "while")) x8) (mz m0 ks ⟨k,f,sh,t⟩)=some (.rt .au,mz m0 ks ⟨k,f,sh,t⟩):=
 qT (G7 (p:=("while":Str)="put") rfl (cK (by decide))) (qT (G7 (p:=("while":Str)="show") rfl (cK (by decide))) (qT (G7 (p:=("while":Str)="if") rfl (cK (by decide))) (FZ (F8 (GD (HJ (BX e1 rfl) rfl rfl) rfl) hv) (FZ (J5 rfl ht) (CP rfl)))))
theorem OP(e1:CG W ab n "number_of" [dT e,.ao m0.length] (mz m0 ks ⟨k,f,sh,t⟩)=some (.int (e.val f),mz m0 ks ⟨k,f,sh,t⟩))(hv:e.val f≠0)(ht:¬most<=t)(h1:k.length<100000)(h2:k.length+1+(dB b).length<=100000):aI (CG W ab n) W WM (fE m0.length prog most t (some (dD (.bo e b))) (some (.str "while")) x8) (mz m0 ks ⟨k,f,sh,t⟩)=some (.nx (fE m0.length prog most (t+1) (some (dD (.bo e b))) (some (.str "while")) x8),mz m0 ks ⟨b.list++.bo e b::k,f,sh,t+1⟩):=by
 have xo:∀(xs:List D) (m:Mem),de (.tf false) (.tup xs) m=some (.lst xs.reverse,m):=λ_ _=>rfl
 have cb:=iT b.list;rw[<-JC]at cb;have s1:(mz m0 ks ⟨k,f,sh,t⟩).set (m0.length+2) (.lst ((k.map dD).reverse++[dD (.bo e b)]))=mz m0 ks ⟨.bo e b::k,f,sh,t⟩:=by
  rw[<-List.reverse_cons,<-cn];exact yv
 have s2:(mz m0 ks ⟨.bo e b::k,f,sh,t⟩).set (m0.length+2) (.lst (((Dd.bo e b::k).map dD).reverse++(dB b).reverse))=mz m0 ks ⟨b.list++.bo e b::k,f,sh,t+1⟩:=by
  rw[JC,<-List.reverse_append,<-dt];exact yv
 refine HY (G7 (p:=("while":Str)="put") rfl (cK (by decide))) (HY (G7 (p:=("while":Str)="show") rfl (cK (by decide))) (HY (G7 (p:=("while":Str)="if") rfl (cK (by decide))) (JG (F8 (GD (HJ (BX e1 rfl) rfl rfl) rfl) hv) (EY (G7 rfl ht) (CJ rfl (HX (QF rfl rfl xI (Q5 _) (by rw[List.length_reverse,a8];exact h1)) ?_))) rfl) rfl) rfl) rfl;rw[s1];exact HX (Fe rfl (GC (d:=.tup (dB b)) rfl (xo _ _)) xI cb (by rw[List.length_reverse,List.length_reverse,a8,kg];exact h2)) (N7 s2)
end
theorem OS(Hn:ab "number_of" = some KC){K M:Nat}(hK:K<n){prog:D}(fv:sn.length<10000):∀(w:Nat) (s:S Str) (ks:List Str) (x6 x7 x8:Option D),eC sn ks s.f->y1 sn K M s->gx M most s<w->s.sh.length+gx M most s<=1000->∃(r:R Str) (bj:List Str),Runs most s r/\eC sn bj r.f/\(∀x,0<=r.f x/\r.f x<997)/\r.sh.length<=s.sh.length+gx M most s/\∃l6 l7 l8 st t,N8 (et (CG W ab n) (.val (.var 5))) (λ σ m=>aI (CG W ab n) W dR σ m) w (fE m0.length prog most s.t x6 x7 x8) (mz m0 ks s)=some (Gz m0.length prog most l6 l7 l8 r.t,mz m0 bj ⟨st,r.f,r.sh,t⟩):=by
 intro w
 induction w with
 | zero=>intro s ks x6 x7 x8 _ _ h;lia
 | succ w ih=>
  intro s ks x6 x7 x8 hS hF hw hb;obtain⟨st,f,sh,t⟩:=s;have kx:∀st,et (CG W ab n) (.val (.var 5)) (fE m0.length prog most t x6 x7 x8) (mz m0 ks ⟨st,f,sh,t⟩)=some (!st.isEmpty,mz m0 ks ⟨st,f,sh,t⟩):=λst=>by
   have h5:(fE m0.length prog most t x6 x7 x8)[5]?=some (some (.ao (m0.length+2))):=rfl;have he:((st.map dD).reverse).isEmpty=st.isEmpty:=by simp
   exact GD (d:=.ao (m0.length+2)) rfl ((bC xI).trans (by rw[he]))
  cases st with
  | nil=>
   refine⟨⟨some t,f,sh⟩,ks,.done rfl,hS,hF.fr,by simp,x6,x7,x8,[],t,?_⟩;rw[N8,kx];rfl
  | cons d k=>
   have hd:=hF.ok d b0;have hk:∀e∈k,e.Ok (·∈sn)/\e.dep<=K/\e.size<=M:=λe he=>hF.ok e (b7 _ he)
   have Ac:∀{e:Tm Str},e.Ok (·∈sn)->e.dep<=K->CG W ab n "number_of" [dT e,.ao m0.length] (mz m0 ks ⟨k,f,sh,t⟩)=some (.int (e.val f),mz m0 ks ⟨k,f,sh,t⟩):=λho zv=>Q4 Hn hS hF.fr ho (by lia)
   have go:∀{s':S Str} {pj:List Str} {y6 y7 y8:Option D},step most ⟨d::k,f,sh,t⟩=.inl s'->aI (CG W ab n) W WM (fE m0.length prog most t (some (dD d)) (some (.str (Str.ofString (kindS d)))) x8) (mz m0 ks ⟨k,f,sh,t⟩)=some (.nx (fE m0.length prog most s'.t y6 y7 y8),mz m0 pj s')->eC sn pj s'.f->y1 sn K M s'->gx M most s'+1<=gx M most ⟨d::k,f,sh,t⟩->s'.sh.length<=sh.length+1->∃(r:R Str) (bj:List Str),Runs most ⟨d::k,f,sh,t⟩ r/\eC sn bj r.f/\(∀x,0<=r.f x/\r.f x<997)/\r.sh.length<=sh.length+gx M most ⟨d::k,f,sh,t⟩/\∃l6 l7 l8 st t1,N8 (et (CG W ab n) (.val (.var 5))) (λ σ m=>aI (CG W ab n) W dR σ m) (w+1) (fE m0.length prog most t x6 x7 x8) (mz m0 ks ⟨d::k,f,sh,t⟩)=some (Gz m0.length prog most l6 l7 l8 r.t,mz m0 bj ⟨st,r.f,r.sh,t1⟩):=by
    intro s' pj y6 y7 y8 h1 h2 dh h3 h4 h5;have gu:sh.length+gx M most ⟨d::k,f,sh,t⟩<=1000:=hb;obtain⟨r,bj,q1,qs,q2,q3,l6,l7,l8,st,t1,q4⟩:=ih s' pj y6 y7 y8 dh h3 (by lia) (by lia);refine⟨r,bj,.next h1 q1,qs,q2,by lia,l6,l7,l8,st,t1,?_⟩;rw[N8,kx];simp only[bu,List.isEmpty_cons,Bool.not_false,if_true];rw[z_head,h2];exact q4
   have hlen:=U6 k;have IS:gz (d::k)<=1000:=by
    have:sh.length+gx M most ⟨d::k,f,sh,t⟩<=1000:=hb;simp only[gx]at this;lia
   have lB:∀b:Bl Str,(dB b).length<=b.size:=λb=>by
    have:=U6 b.list;rw[J1]at this;rw[JC,a8];exact this
   cases d with
   | put x e=>
    have hv:=Tm.Ea hF.fr hd.1.2;obtain⟨sM,e2,dC⟩:=uY hS hd.1.1 (e.val f);have e3:(DW ks).length<10000:=by
     have:=hS.nd.length_le_of_subset (λx hx=>hS.sub x hx);simp only[DW,a8];lia
    exact go (s':=⟨k,MF f x (e.val f),sh,t⟩) rfl (Q3 (Ac hd.1.2 hd.2.1) e2 e3) dC ⟨hk,Pm hF.fr hv⟩ (by simp only[gx,gz,Dd.size];lia) (by simp)
   | cv l e=>
    have e3:sh.length<100000:=by have:sh.length+_<=1000:=hb;lia
    exact go (s':=⟨k,f,sh++[(l,e.val f)],t⟩) rfl (Q2 (Ac hd.1.2 hd.2.1) e3) hS ⟨hk,hF.fr⟩ (by simp only[gx,gz,Dd.size];lia) (by simp)
   | ite e b c=>
    obtain⟨ho,zv,hsz⟩:=hd;simp only[Dd.dep,Dd.size]at zv hsz;simp only[gz,Dd.size]at IS;have lb:=lB b;have lc:=lB c;obtain⟨q,hq⟩:∃q,q=if e.val f=0 then c else b:=⟨_,rfl⟩
    have bf:q=b\/q=c:=by
     rw[hq];split
     .exact .inr rfl
     .exact .inl rfl
    have aaE:q.size<=b.size+c.size:=by rcases bf with h | h<;>rw[h]<;>lia
    have C9:q.Ok (·∈sn)/\q.dep<=K/\q.size<=M:=by
     rcases bf with h | h<;>rw[h]
     .exact⟨ho.2.1,by lia,by lia⟩
     .exact⟨ho.2.2,by lia,by lia⟩
    refine go (s':=⟨q.list++k,f,sh,t⟩) ?_ (Ra (Ac ho.1 (by lia)) hq ?_) hS ⟨?_,hF.fr⟩ ?_ (by simp)
    .subst hq
     by_cases hv:e.val f=0<;>simp[WW.step,hv]
    .have:=lB q
     lia
    .intro x hx
     rcases cz hx with hx | hx
     .exact mC C9.1 C9.2.1 C9.2.2 x hx
     .exact hk x hx
    .simp only[gx,YC,J1,gz,Dd.size];lia
   | bo e b=>
    have w9:=hd;obtain⟨ho,zv,hsz⟩:=hd;simp only[Dd.dep,Dd.size]at zv hsz;simp only[gz,Dd.size]at IS;have e1:=Ac (e:=e) ho.1 (by lia);have lb:=lB b
    by_cases hv:e.val f=0
    .exact go (s':=⟨k,f,sh,t⟩) (by simp[WW.step,hv]) (OR e1 hv) hS ⟨hk,hF.fr⟩ (by simp only[gx,gz,Dd.size];lia) (by simp)
    .by_cases ht:most<=t
     .refine⟨⟨none,f,sh⟩,ks,.done (by simp[WW.step,hv,ht]),hS,hF.fr,by simp,none,none,none,k,t,?_⟩
      rw[N8,kx];simp only[bu,List.isEmpty_cons,Bool.not_false,if_true];rw[z_head,show kindS (.bo e b) = "while" from rfl,OQ e1 hv ht];rfl
     .refine go (s':=⟨b.list++.bo e b::k,f,sh,t+1⟩) (by simp[WW.step,hv];lia) (OP e1 hv ht (by lia) (by lia)) hS ⟨?_,hF.fr⟩ ?_ (by simp)
      .intro x hx
       rcases cz hx with hx | hx
       .exact mC ho.2 (by lia) (by lia) x hx
       .rcases ck hx with hx | hx
        .rw[hx];exact w9
        .exact hk x hx
      .have e9:(most-t).toNat=(most-(t+1)).toNat+1:=by lia
       simp only[gx,YC,J1,gz,Dd.size,e9,Nat.add_mul];lia
noncomputable def mw(m0:Mem)(ks:List Str)(f:Str->Int)(sh:List (Int×Int)):Mem:=m0++[.aq (DW ks) (GF ks f),.lst (sh.map n5)]
theorem Xd:(mw m0 ks f sh)[m0.length]?=some (.aq (DW ks) (GF ks f)):=by simp[mw]
theorem Jz:(mw m0 ks f sh)[m0.length+1]?=some (.lst (sh.map n5)):=by simp[mw]
theorem DH:(mw m0 ks f sh).length=m0.length+2:=by simp[mw]
theorem JE:(mz m0 ks ⟨st,f,sh,t⟩).take (m0.length+2)=mw m0 ks f sh:=by
 simp[mz,mw,List.take_append];exact rV (by lia)
theorem qR(Hn:ab "number_of" = some KC)(H:ab "do_deeds" = some oo)(hK:K<n)(fv:sn.length<10000)(hS:eC sn ks f)(hF:y1 sn K M ⟨pg.list,f,[],0⟩)(hw:gx M most ⟨pg.list,f,[],0⟩<W)(hb:gx M most ⟨pg.list,f,[],0⟩<=1000):∃(r:R Str) (bj:List Str),Runs most ⟨pg.list,f,[],0⟩ r/\eC sn bj r.f/\(∀x,0<=r.f x/\r.f x<997)/\r.sh.length<=1000/\CG W ab (n+1) "do_deeds" [.tup (dB pg),.ao m0.length,.ao (m0.length+1),.int most] (mw m0 ks f [])=some (gB r.t,mw m0 bj r.f r.sh):=by
 obtain⟨r,bj,h1,kr,h2,h3,l6,l7,l8,st,t,h4⟩:=OS (W:=W) (m0:=m0) Hn hK (prog:=.tup (dB pg)) fv W ⟨pg.list,f,[],0⟩ ks none none none hS hF hw (by simpa using hb);refine⟨r,bj,h1,kr,h2,by simp only[List.length_nil,Nat.zero_add]at h3;lia,?_⟩;rw[O8 H rfl];have xo:∀(xs:List D),de (.tf true) (.tup xs) (mw m0 ks f [])=some (.ao (m0.length+2),mw m0 ks f []++[.lst xs.reverse]):=λ_=>by rw[<-DH (m0:=m0) (ks:=ks) (f:=f) (sh:=[])];rfl
 have hm:mw m0 ks f []++[.lst (dB pg).reverse]=mz m0 ks ⟨pg.list,f,[],0⟩:=by simp[mw,mz,JC]
 have e5:ev (CG W ab n) (.b1 (.tf true) (.var 0)) ([some (.tup (dB pg)),some (.ao m0.length),some (.ao (m0.length+1)),some (.int most),some (.int 0),none,none,none,none]) (mw m0 ks f [])=some (.ao (m0.length+2),mz m0 ks ⟨pg.list,f,[],0⟩):=GC (d:=.tup (dB pg)) rfl (by rw[xo,hm]);cases hr:r.t with
 | some T=>
  rw[hr]at h4;have E:aI (CG W ab n) W oo.body ([D.tup (dB pg),.ao m0.length,.ao (m0.length+1),.int most].map some++List.replicate (oo.ns-oo.ps) none) (mw m0 ks f [])=some (.rt (.int T),mz m0 bj ⟨st,r.f,r.sh,t⟩):=CJ (d:=.int 0) rfl (CJ e5 (jD (b:=dR) h4 (CP rfl)));rw[E];show some (D.int T,List.take (mw m0 ks f []).length (mz m0 bj ⟨st,r.f,r.sh,t⟩))=_;rw[DH,JE];rfl
 | none=>
  rw[hr]at h4;have E:aI (CG W ab n) W oo.body ([D.tup (dB pg),.ao m0.length,.ao (m0.length+1),.int most].map some++List.replicate (oo.ns-oo.ps) none) (mw m0 ks f [])=some (.rt .au,mz m0 bj ⟨st,r.f,r.sh,t⟩):=CJ (d:=.int 0) rfl (CJ e5 (L0 (b:=dR) h4));rw[E];show some (D.au,List.take (mw m0 ks f []).length (mz m0 bj ⟨st,r.f,r.sh,t⟩))=_;rw[DH,JE];rfl
theorem wZ(H:ab "page_of" = some YQ)(hl:sh.length<=1000){l:Int}:CG W ab (n+1) "page_of" [.ao (m0.length+1),.int l] (mw m0 ks f sh)=some (.tup ((je sh l).map .int),mw m0 ks f sh):=by
 refine CV H rfl (ZF _) ?_;have comp:ev (CG W ab n) (.comp false 2 (.tp [(.nm 2),(.nm 3)]) (.seq (.var 0)) (.val (.cmp .eq (.var 2) (.var 1))) (.var 3)) [some (.ao (m0.length+1)),some (.int l)] (mw m0 ks f sh)=some (.lst ((je sh l).map .int),mw m0 ks f sh):=by
  rw[pB (xs:=sh.map n5) (q:=some (m0.length+1)) (h:=λd=>match d with | .tup [.int p,.int v]=>if p=l then some (.int v) else none | _=>none) (by simp[Walk.ok,Jz,D.vT]) rfl (Od rfl Jz) (by simpa using hl)]
  .congr 2
   simp only[je,List.filterMap_map,Function.comp_def,n5,bS];rw[<-ki,List.filterMap_filter];simp
  .intro d hd
   obtain⟨p,hp,rfl⟩:=cw hd;refine⟨[some (.ao (m0.length+1)),some (.int l),some (.int p.1),some (.int p.2)],decide (p.1=l),rfl,rfl,?_⟩
   by_cases e:p.1=l
   .rw[dm e,ag rfl]
    show (if p.1=l then some (D.int p.2) else none).isSome=true/\_=some ((if p.1=l then some (D.int p.2) else none).getD .au,_);rw[ag e];exact⟨rfl,rfl⟩
   .rw[dn e,ak (by decide)]
    show (if p.1=l then some (D.int p.2) else none)=none;rw[ak e]
 exact CP (GC comp rfl)
theorem N3{e:Ex}{d:D}(dz:ks.length<64)(he:∀x,ev C e (σ++[x]) m=some (d,m))(UU:ev C e σ m=some (d,m))(hd:HN d m=some (DW ks,GF ks f)):ev C (.comp false 1 (.nm σ.length) (.seq (.b1 (.yh false) e)) (.val (.cmp .ne (.sF e (.var σ.length)) (.con (.int 0)))) (.tup (.cons (.var σ.length) (.cons (.sF e (.var σ.length)) .nil)))) σ m=some (.lst (LC ks f),m):=by
 have hs:de (.yh false) d m=some (.lst ((CN ks).map .str),m):=by
  have e1:(DW ks).map de.kD=ks.map .str:=by simp[DW,de.kD]
  have e2:(DW ks).length<64:=by simpa[DW] using dz
  show ((HN d m).bind λ(ks,_)=>if ks.length<64 then (strsOf (ks.map de.kD)).map λss=>bw false ((CN ss).map .str) m else none)=_;rw[hd,bu];show (if (DW ks).length<64 then (strsOf ((DW ks).map de.kD)).map λss=>bw false ((CN ss).map .str) m else none)=_;rw[ag e2,e1,aG];rfl
 have oT:∀x,x∈CN ks->x∈ks:=λx hx=>(fb ks FQ).mem_iff.mp hx
 have hlen:(CN ks).length=ks.length:=List.length_mergeSort ks;rw[lM (xs:=(CN ks).map .str) (h:=λd=>match d with | .str x=>if f x≠0 then some (.tup [.str x,.int (f x)]) else none | _=>none) (g:=.nm σ.length) (σ:=σ) (show decide (σ.length<=σ.length)=true from dm (a0 _)) (R8 (GC UU hs)) (by rw[a8,hlen];lia)]
 .congr 2
  simp only[LC,List.filterMap_map,Function.comp_def];rw[<-ki,List.filterMap_filter];simp
 .intro d' d6
  obtain⟨x,hx,rfl⟩:=cw d6;have lk:=U5 (f:=f) (oT x hx);have hv:(σ++[some (.str x)])[σ.length]?=some (some (.str x)):=by simp
  refine⟨σ++[some (.str x)],decide (f x≠0),by show some ((σ++[none]).set σ.length (some (.str x)))=_;rw[List.set_append_right _ _ (a0 _),Nat.sub_self];rfl,?_,?_⟩
  .simp only[Ym,Rn,Et,he,bu,bL,hv,hd,O5,lk,jh,FI,Fp,Ob,Ei]
   simp
  .by_cases e:f x=0
   .simp[e]
   .simp only[Pl,Pf,Pg,Et,he,bu,bL,hv,hd,O5,lk,jh]
    simp[e]
theorem qQ(H:ab "store_of" = some VR)(dz:ks.length<64):CG W ab (n+1) "store_of" [.ao m0.length] (mw m0 ks f sh)=some (.tup (LC ks f),mw m0 ks f sh):=by
 refine CV H rfl (K1 _ _) ?_;have comp:=N3 (C:=CG W ab n) (e:=.var 0) (σ:=[some (.ao m0.length)]) (d:=.ao m0.length) (m:=mw m0 ks f sh) (ks:=ks) (f:=f) dz (λx=>rfl) rfl (by simp only[HN,Xd]);exact CP (GC comp rfl)
theorem aQ(cE:ks.Nodup)(dz:ks.length<=1000)(mu:Bool)(m:Mem):de (.dict mu) (.tup (DK ks f)) m=some (gX mu (DW ks) (GF ks f) m):=by
 have e1:=kE (r:=DW ks) (q:=GF ks f) (ks:=[]) (vs:=[]) (by simp[DW,GF]) (by
  unfold DW;exact List.Pairwise.map _ (λa b (h:a≠b) q=>h (iw q)) cE) (by simp)
 have e2:(DW ks).length<=1000:=by simpa only [DW,a8] using dz
 show ((pairsOf (DK ks f)).bind λ(ks,vs)=>if ks.length<=1000 then some (gX mu (FT [] [] ks vs).1 (FT [] [] ks vs).2 m) else none)=_;rw[QM,bu];show (if (DW ks).length<=1000 then some (gX mu (FT [] [] (DW ks) (GF ks f)).1 (FT [] [] (DW ks) (GF ks f)).2 m) else none)=_;rw[ag e2,e1];rfl
theorem z_run(H:G0 ab)(du:nm.Nodup)(dz:nm.length<64){K M:Nat}(hK:K<n){pg:Bl Str}(hS:eC nm ks f)(hF:y1 nm K M ⟨pg.list,f,[],0⟩)(hw:gx M most ⟨pg.list,f,[],0⟩<W)(hb:gx M most ⟨pg.list,f,[],0⟩<=1000):∃(r:R Str) (bj:List Str),WW.Runs most ⟨pg.list,f,[],0⟩ r/\eC nm bj r.f/\(∀x,0<=r.f x/\r.f x<997)/\r.sh.length<=1000/\CG W ab (n+2) "run" [.tup (dB pg),.tup (DK ks f),.int most] m0=some (rN nm r,m0):=by
 obtain⟨r,bj,h1,kr,h2,h3,h4⟩:=qR (W:=W) (m0:=m0) H.Xu H.Tw hK (by lia) hS hF hw hb;refine⟨r,bj,h1,kr,h2,h3,?_⟩;have Us:ks.length<=1000:=eJ (hS.nd.length_le_of_subset λx hx=>hS.sub x hx) (by lia);have Ut:bj.length<64:=ri (kr.nd.length_le_of_subset λx hx=>kr.sub x hx) dz;have hd:=aQ (f:=f) hS.nd Us true m0;have fh:m0++[.aq (DW ks) (GF ks f)]++[.lst []]=mw m0 ks f []:=by simp[mw]
 have comp:∀x y,ev (CG W ab (n+1)) (.comp false 1 (.nm 7) (.kQ (.con wo)) .tt (.call "page_of" (.cons (.var 4) (.cons (.var 7) .nil)))) [some (.tup (dB pg)),some (.tup (DK ks f)),some (.int most),some (.ao m0.length),some (.ao (m0.length+1)),x,y] (mw m0 bj r.f r.sh)=some (.lst [.tup ((je r.sh 0).map .int),.tup ((je r.sh 1).map .int),.tup ((je r.sh 2).map .int)],mw m0 bj r.f r.sh):=by
  intro x y;rw[K7 (xs:=[.int 0,.int 1,.int 2]) (λd=>match d with | .int j=>.tup ((je r.sh j).map .int) | _=>.au) rfl rfl (di rfl)]
  .rfl
  .intro d hd
   obtain⟨j,rfl⟩:∃j,d=.int j:=by
    simp only[List.mem_cons,List.not_mem_nil,or_false]at hd;rcases hd with h | h | h<;>exact⟨_,h⟩
   refine⟨[some (.tup (dB pg)),some (.tup (DK ks f)),some (.int most),some (.ao m0.length),some (.ao (m0.length+1)),x,y,some (.int j)],rfl,rfl,BX (wZ H.XI h3) rfl⟩
 have kN:=qQ (W:=W) (n:=n) (m0:=m0) H.Yy Ut (f:=r.f) (sh:=r.sh);rw[nH du kr]at kN;refine K8 (q:=[.aq (DW bj) (GF bj r.f),.lst (r.sh.map n5)]) (n:=n+1) H.run rfl (zA nm r) ?_;refine CJ (d:=.ao m0.length) (m1:=m0++[MO.aq (DW ks) (GF ks f)]) (GC rfl hd) (CJ (d:=.ao (m0.length+1)) (m1:=mw m0 ks f []) ?_ (CJ (BX h4 rfl) (CJ (GC (comp _ _) rfl) (CP (G6 (BR rfl (BR (BX kN rfl) rfl)) (di rfl))))));rw[<-fh];show some (D.ao (m0++[MO.aq (DW ks) (GF ks f)]).length,_)=_;rw[gc];rfl
inductive Pt where
 | tm (t:Tm Str) | dd (d:Dd Str)
noncomputable def dP:Pt->D
 | .tm t=>dT t
 | .dd d=>dD d
noncomputable def Pt.own:Pt->List Str
 | .tm (.ee x)=>[x]
 | .dd (.put x _)=>[x]
 | _=>[]
noncomputable def Pt.parts:Pt->List Pt
 | .tm (.bin _ a b)=>[.tm a,.tm b]
 | .dd (.put _ e)=>[.tm e]
 | .dd (.cv _ e)=>[.tm e]
 | .dd (.ite e b c)=>.tm e::(b.list.map Pt.dd++c.list.map Pt.dd)
 | .dd (.bo e b)=>.tm e::b.list.map Pt.dd
 | _=>[]
noncomputable def iL:Tm Str->Nat
 | .bin _ a b=>iL a+iL b+1
 | _=>1
mutual
noncomputable def k8:Dd Str->Nat
 | .put _ e=>iL e+1
 | .cv _ e=>iL e+1
 | .ite e b c=>iL e+ny b+ny c+1
 | .bo e b=>iL e+ny b+1
noncomputable def ny:Bl Str->Nat
 | .nil=>0
 | .cons d b=>k8 d+ny b
end
noncomputable def Pt.w:Pt->Nat
 | .tm t=>iL t
 | .dd d=>k8 d
noncomputable def MK:List Pt->Nat
 | []=>0
 | p::r=>p.w+MK r
theorem OJ:∀a b:List Pt,MK (a++b)=MK a+MK b
 | [],b=>by simp[MK]
 | p::a,b=>by simp only[List.cons_append,MK,OJ a b];lia
theorem aK:∀b:Bl Str,MK (b.list.map Pt.dd)=ny b
 | .nil=>rfl
 | .cons d b=>by simp only[Bl.list,cn,MK,Pt.w,ny,aK b]
theorem VF(p:Pt):MK p.parts+1=p.w:=by
 cases p with
 | tm t=>cases t<;>simp only[Pt.parts,MK,Pt.w,iL]<;>lia
 | dd d=>cases d<;>simp only[Pt.parts,MK,Pt.w,k8,OJ,aK]<;>lia
mutual
noncomputable def kf:Dd Str->List Str
 | .put x e=>x::e.names
 | .cv _ e=>e.names
 | .ite e b c=>e.names++ja b++ja c
 | .bo e b=>e.names++ja b
noncomputable def ja:Bl Str->List Str
 | .nil=>[]
 | .cons d b=>kf d++ja b
end
noncomputable def Pt.N:Pt->List Str
 | .tm t=>t.names
 | .dd d=>kf d
theorem mD:∀b:Bl Str,x∈ja b↔∃p∈b.list.map Pt.dd,x∈p.N
 | .nil=>by simp[ja,Bl.list]
 | .cons d b=>by simp only[ja,List.mem_append,Bl.list,cn,List.mem_cons,exists_eq_or_imp,mD b,Pt.N]
theorem kJ(p:Pt)(x:Str):x∈p.N↔x∈p.own\/∃q∈p.parts,x∈q.N:=by
 cases p with
 | tm t=>cases t<;>simp[Pt.N,Pt.own,Pt.parts,Tm.names]
 | dd d=>
  cases d with
  | put y e=>simp[Pt.N,Pt.own,Pt.parts,kf]
  | cv l e=>simp[Pt.N,Pt.own,Pt.parts,kf]
  | ite e b c=>
   simp only[Pt.N,Pt.own,Pt.parts,kf,List.mem_append,List.not_mem_nil,false_or,List.mem_cons,exists_eq_or_imp,mD];constructor
   .rintro ((h | ⟨p,h1,h2⟩) | ⟨p,h1,h2⟩)
    .exact .inl h
    .exact .inr ⟨p,.inl h1,h2⟩
    .exact .inr ⟨p,.inr h1,h2⟩
   .rintro (h | ⟨p,h1 | h1,h2⟩)
    .exact .inl (.inl h)
    .exact .inl (.inr ⟨p,h1,h2⟩)
    .exact .inr ⟨p,h1,h2⟩
  | bo e b=>simp only[Pt.N,Pt.own,Pt.parts,kf,List.mem_append,List.not_mem_nil,false_or,List.mem_cons,exists_eq_or_imp,mD]
theorem LO(b:Bl Str):(b.list.map Pt.dd).map dP=dB b:=by
 rw[JC,bS];rfl
theorem Ol(d:Dd Str):1<=k8 d:=by cases d<;>simp only[k8]<;>lia
theorem lR:∀b:Bl Str,(dB b).length<=ny b
 | .nil=>a0 _
 | .cons d b=>by
  have:=lR b;have:=Ol d;simp only[dB,kg,ny];lia
theorem pM{a b c:D}:ng (.tup [a,b,c]) (some 2) none=some (.tup [c]):=rfl
theorem oZ{ys:List Str}:N5 .isin (.str x) (.tup (ys.map .str))=some (ys.any λy=>decide (x=y)):=by
 have h1:D.flat (.str x)=true:=rfl;have h2:=iH ys;have h3:inD (.str x) (ys.map .str)=ys.any λy=>decide (x=y):=by
  simp only[inD,List.any_map];rfl
 show (if D.flat (.str x)&&(ys.map D.str).all D.flat then some (inD (.str x) (ys.map .str)) else none)=_;rw[h1,h2,h3];rfl
theorem RO:N5 .isin (.str x) (.tup [.str a,.str b])=some (decide (x=a)||decide (x=b)):=by
 have:=oZ (x:=x) (ys:=[a,b]);simpa using this
theorem RI:N5 .isin (.str x) (.tup [.str a,.str b,.str c])=some (decide (x=a)||(decide (x=b)||decide (x=c))):=by
 have:=oZ (x:=x) (ys:=[a,b,c]);simpa using this
theorem An{a b c:String}{v:Bool}(h:(decide (a=b)||decide (a=c))=v):N5 .isin (.str (Str.ofString a)) (.tup [.str (Str.ofString b),.str (Str.ofString c)])=some v:=by rw[RO];simp only[ofString_eq,h]
theorem Ww{a b c d:String}{v:Bool}(h:(decide (a=b)||(decide (a=c)||decide (a=d)))=v):N5 .isin (.str (Str.ofString a)) (.tup [.str (Str.ofString b),.str (Str.ofString c),.str (Str.ofString d)])=some v:=by rw[RI];simp only[ofString_eq,h]
theorem Ox(H:ab "parts_of" = some K5)(p:Pt)(hl:p.w<=4000):CG W ab (n+1) "parts_of" [dP p] m=some (.tup (p.parts.map dP),m):=by
 have cl:∀ps:List Pt,D.clean.cy (ps.map dP)=true:=λps=>by
  induction ps with
  | nil=>rfl
  | cons q r ih=>
   have:(dP q).clean=true:=by
    cases q with
    | tm t=>exact M7 t
    | dd d=>exact Q5 d
   simp[this,ih]
 have t1:∀(a:String) (v:Bool) (σ:DS),(decide (a = "number")||decide (a = "name"))=v->σ[1]?=some (some (.str (Str.ofString a)))->et (CG W ab n) (.val (.cmp .isin (.var 1) (.tup (.cons (.con (.str "number")) (.cons (.con (.str "name")) .nil))))) σ m=some (v,m):=λa v σ h xA=>GD (HJ (d:=.str (Str.ofString a)) (by rw[bL,xA]) rfl (An h)) rfl
 have t2:∀(a:String) (v:Bool) (σ:DS),(decide (a = "sum")||(decide (a = "times")||decide (a = "less")))=v->σ[1]?=some (some (.str (Str.ofString a)))->et (CG W ab n) (.val (.cmp .isin (.var 1) (.con wt))) σ m=some (v,m):=λa v σ h xA=>GD (HJ (d:=.str (Str.ofString a)) (by rw[bL,xA]) rfl (Ww h)) rfl
 have t3:∀(a:String) (v:Bool) (σ:DS),(decide (a = "put")||decide (a = "show"))=v->σ[1]?=some (some (.str (Str.ofString a)))->et (CG W ab n) (.val (.cmp .isin (.var 1) (.tup (.cons (.con (.str "put")) (.cons (.con (.str "show")) .nil))))) σ m=some (v,m):=λa v σ h xA=>GD (HJ (d:=.str (Str.ofString a)) (by rw[bL,xA]) rfl (An h)) rfl
 refine CV H rfl (cl _) ?_;cases p with
 | tm t=>
  cases t with
  | num k=>exact CJ rfl (FZ (t1 "number" true _ (by decide) rfl) (CP rfl))
  | ee x=>exact CJ rfl (FZ (t1 "name" true _ (by decide) rfl) (CP rfl))
  | bin o a b=>exact CJ rfl (EY (t1 (m5 o) false _ (by cases o<;>decide) rfl) (FZ (t2 (m5 o) true _ (by cases o<;>decide) rfl) (CP rfl)))
 | dd d=>
  cases d with
  | put x e=>exact CJ rfl (EY (t1 "put" false _ (by decide) rfl) (EY (t2 "put" false _ (by decide) rfl) (FZ (t3 "put" true _ (by decide) rfl) (CP rfl))))
  | cv l e=>exact CJ rfl (EY (t1 "show" false _ (by decide) rfl) (EY (t2 "show" false _ (by decide) rfl) (FZ (t3 "show" true _ (by decide) rfl) (CP rfl))))
  | ite e b c=>
   have h1:=lR b;have h2:=lR c;simp only[Pt.w,k8]at hl;rw[show (Pt.parts (.dd (.ite e b c))).map dP=[dT e]++dB b++dB c by
    rw[JC,JC];show dT e::_=_;rw[dt,bS,bS];rfl]
   exact CJ rfl (EY (t1 "if" false _ (by decide) rfl) (EY (t2 "if" false _ (by decide) rfl) (EY (t3 "if" false _ (by decide) rfl) (FZ (J5 (p:=("if":Str)="if") rfl rfl) (CP (FJ (FJ rfl rfl (KR (by rw[oQ];lia))) rfl (KR (by rw[gc,oQ];lia))))))))
  | bo e b=>
   have h1:=lR b;simp only[Pt.w,k8]at hl;rw[show (Pt.parts (.dd (.bo e b))).map dP=[dT e]++dB b by
    rw[JC];show dT e::_=_;rw[bS];rfl]
   exact CJ rfl (EY (t1 "while" false _ (by decide) rfl) (EY (t2 "while" false _ (by decide) rfl) (EY (t3 "while" false _ (by decide) rfl) (EY (G7 (p:=("while":Str)="if") rfl (cK (by decide))) (CP (FJ rfl rfl (KR (by rw[oQ];lia))))))))
noncomputable def kR(ks:List Str):List D:=ks.map λ_=>.bl true
noncomputable def RW(ks:List Str):List Str->List Str
 | []=>ks
 | x::r=>RW (if x∈ks then ks else ks++[x]) r
noncomputable def mn(m0:Mem)(ks:List Str)(ps:List Pt):Mem:=m0++[.aq (DW ks) (kR ks),.lst (ps.map dP)]
noncomputable def sN(b:Nat)(prog:D)(x3:Option D):DS:=[some prog,some (.ao b),some (.ao (b+1)),x3]
noncomputable def wF:bg:=Gq (KY 2 dZ)
section
variable{ps pw:List Pt}
theorem Jx:(mn m0 ks ps)[m0.length]?=some (.aq (DW ks) (kR ks)):=by simp[mn]
theorem DF:(mn m0 ks ps)[m0.length+1]?=some (.lst (ps.map dP)):=by simp[mn]
theorem SD:(mn m0 ks ps).set m0.length (.aq (DW bj) (kR bj))=mn m0 bj ps:=by simp[mn]
theorem GB:(mn m0 ks ps).set (m0.length+1) (.lst (pw.map dP))=mn m0 ks pw:=by simp[mn]
end
theorem uO:∀{ks:List Str},jW (DW ks) (kR ks) (.inr x) (.bl true)=kR ks
 | []=>rfl
 | y::r=>by
  show (if (Sum.inr y:Key)=.inr x then D.bl true else .bl true)::jW (DW r) (kR r) (.inr x) (.bl true)=_;rw[uO,ite_self];rfl
theorem ML:putD (DW ks) (kR ks) (.inr x) (.bl true)=(DW (RW ks [x]),kR (RW ks [x])):=by
 by_cases h:x∈ks
 .rw[putD,ag (mL h),uO]
  simp[RW,h]
 .rw[putD,mO h]
  simp[RW,h,DW,kR]
theorem BG:∀{l ks:List Str},x∈RW ks l↔x∈ks\/x∈l
 | [],ks=>by simp[RW]
 | y::r,ks=>by
  rw[RW,BG]
  by_cases h:y∈ks
  .rw[ag h]
   simp only[List.mem_cons];constructor
   .rintro (q | q)
    .exact .inl q
    .exact .inr (.inr q)
   .rintro (q | rfl | q)
    .exact .inl q
    .exact .inl h
    .exact .inr q
  .rw[ak h]
   simp[List.mem_append,or_assoc]
theorem mU:∀{l ks:List Str},ks.Nodup->(RW ks l).Nodup
 | [],ks,h=>h
 | y::r,ks,h=>by
  rw[RW]
  by_cases q:y∈ks
  .rw[ag q];exact mU h
  .rw[ak q]
   exact mU (List.nodup_append.mpr ⟨h,by simp,λa ha b hb e=>q (by rw[<-eR hb,<-e];exact ha)⟩)
theorem pF:∀ps:List Pt,D.clean.cy (ps.map dP)=true
 | []=>rfl
 | q::r=>by
  have:(dP q).clean=true:=by
   cases q with
   | tm t=>exact M7 t
   | dd d=>exact Q5 d
  simp[this,pF r]
theorem PF(p:Pt):1<=p.w:=by have:=VF p;lia
theorem kI:∀ps:List Pt,ps.length<=MK ps
 | []=>a0 _
 | p::r=>by
  have:=kI r;have:=PF p;simp only[kg,MK];lia
section
variable{prog:D}
theorem P5(p:Pt):∃k:String,(∀m,jz (dP p) (.int 0) m=some (.str (Str.ofString k)))/\(((k = "name"\/k = "put")/\∃x,p.own=[x]/\∀m,jz (dP p) (.int 1) m=some (.str x))\/(k≠"name"/\k≠"put"/\p.own=[])):=by
 cases p with
 | tm t=>
  cases t with
  | num k=>exact⟨"number",λ_=>rfl,.inr ⟨by decide,by decide,rfl⟩⟩
  | ee x=>exact⟨"name",λ_=>rfl,.inl ⟨.inl rfl,x,rfl,λ_=>rfl⟩⟩
  | bin o a b=>cases o<;>exact⟨_,λ_=>rfl,.inr ⟨by decide,by decide,rfl⟩⟩
 | dd d=>
  cases d with
  | put x e=>exact⟨"put",λ_=>rfl,.inl ⟨.inr rfl,x,rfl,λ_=>rfl⟩⟩
  | cv l e=>exact⟨"show",λ_=>rfl,.inr ⟨by decide,by decide,rfl⟩⟩
  | ite e b c=>exact⟨"if",λ_=>rfl,.inr ⟨by decide,by decide,rfl⟩⟩
  | bo e b=>exact⟨"while",λ_=>rfl,.inr ⟨by decide,by decide,rfl⟩⟩
theorem Qa(H:ab "parts_of" = some K5)(hp:MK (r++[p])<=4000)(hk:ks.length<64):aI (CG W ab (n+1)) W wF (sN m0.length prog x3) (mn m0 ks (r++[p]))=some (.nx (sN m0.length prog (some (dP p))),mn m0 (RW ks p.own) (r++p.parts)):=by
 have hb:wF=.cons (.set 3 (.pop (.var 2))) (.cons (.ite (.val (.cmp .isin (.ix (.var 3) (.con (.int 0))) (.tup (.cons (.con (.str "name")) (.cons (.con (.str "put")) .nil))))) (.cons (.put (.var 1) (.ix (.var 3) (.con (.int 1))) (.con (.bl true))) .nil) .nil) (.cons (.drop (.ext (.var 2) (.call "parts_of" (.cons (.var 3) .nil)))) .nil)):=rfl;rw[OJ]at hp;have xn:p.w<=4000:=by simp only[MK]at hp;lia
 have qo:((r++[p]).map dP)[((r++[p]).map dP).length-1]?=some (dP p):=by simp
 have nS:((r++[p]).map dP).dropLast=r.map dP:=by simp
 have p1:ev (CG W ab (n+1)) (.pop (.var 2)) (sN m0.length prog x3) (mn m0 ks (r++[p]))=some (dP p,mn m0 ks r):=by
  rw[Qt rfl DF qo,nS,GB]
 have xm:=VF p;have hlen:=kI p.parts;have IC:=kI r;have rest:aI (CG W ab (n+1)) W (.cons (.drop (.ext (.var 2) (.call "parts_of" (.cons (.var 3) .nil)))) .nil) (sN m0.length prog (some (dP p))) (mn m0 (RW ks p.own) r)=some (.nx (sN m0.length prog (some (dP p))),mn m0 (RW ks p.own) (r++p.parts)):=by
  have hc:=Ox (W:=W) (n:=n) (m:=mn m0 (RW ks p.own) r) H p xn;have s1:(mn m0 (RW ks p.own) r).set (m0.length+1) (.lst (r.map dP++p.parts.map dP))=mn m0 (RW ks p.own) (r++p.parts):=by rw[<-dt,GB]
  exact HX (N9 rfl (BX hc rfl) DF (pF p.parts) (by rw[a8,a8];simp only[MK]at hp;lia)) (N7 s1)
 rw[hb];refine CJ p1 ?_;obtain⟨k,IA,h | ⟨h1,h2,h3⟩⟩:=P5 p
 .obtain⟨ko,x,hx,Wn⟩:=h
  have ib:N5 .isin (.str (Str.ofString k)) (.tup [.str "name",.str "put"])=some true:=An (by rcases ko with rfl | rfl<;>decide);rw[hx]at rest ⊢;exact JG (GD (HJ (MP (d:=dP p) rfl rfl (IA _)) rfl ib) rfl) (jE (z:=.bl true) rfl rfl (MP (d:=dP p) rfl rfl (Wn _)) Jx rfl rfl (by rw[DW,a8];lia) (N7 (by rw[ML];exact SD))) rest
 .have ib:N5 .isin (.str (Str.ofString k)) (.tup [.str "name",.str "put"])=some false:=An (by rw[dn h1,dn h2];rfl)
  have hz:RW ks p.own=ks:=by rw[h3];rfl
  rw[hz]at rest ⊢;exact EY (GD (HJ (MP (d:=dP p) rfl rfl (IA _)) rfl ib) rfl) rest
theorem Qb(H:ab "parts_of" = some K5)(du:nm.length<64):∀(w:Nat) (ps:List Pt) (ks:List Str) (x3:Option D),MK ps<w->MK ps<=4000->ks.Nodup->(∀x∈ks,x∈nm)->(∀p∈ps,∀x∈p.N,x∈nm)->∃bj Ed,bj.Nodup/\(∀x,x∈bj↔x∈ks\/∃p∈ps,x∈p.N)/\
  N8 (et (CG W ab (n+1)) (.val (.var 2))) (λ σ m=>aI (CG W ab (n+1)) W wF σ m) w (sN m0.length prog x3) (mn m0 ks ps)=some (.nx (sN m0.length prog Ed),mn m0 bj []):=by
 intro w
 induction w with
 | zero=>intro ps ks x3 h;lia
 | succ w ih=>
  intro ps ks x3 hw hb cE fv kq;have kx:et (CG W ab (n+1)) (.val (.var 2)) (sN m0.length prog x3) (mn m0 ks ps)=some (!ps.isEmpty,mn m0 ks ps):=by
   have h2:(sN m0.length prog x3)[2]?=some (some (.ao (m0.length+1))):=rfl;have he:(ps.map dP).isEmpty=ps.isEmpty:=by simp
   exact GD (d:=.ao (m0.length+1)) rfl ((bC DF).trans (by rw[he]))
  rcases List.eq_nil_or_concat ps with rfl | ⟨r,p,rfl⟩
  .refine⟨ks,x3,cE,λx=>by simp,?_⟩
   rw[N8,kx];rfl
  .rw[List.concat_eq_append]at *
   have hl:ks.length<64:=ri (cE.length_le_of_subset fv) du;have uv:∀x∈p.own,x∈p.N:=λx hx=>(kJ p x).mpr (.inl hx)
   have xm:=VF p;rw[OJ]at hw hb;simp only[MK]at hw hb;obtain⟨bj,Ed,q1,q2,q3⟩:=ih (r++p.parts) (RW ks p.own) (some (dP p)) (by rw[OJ];lia) (by rw[OJ];lia) (mU cE)
    (λx hx=>(BG.mp hx).elim (fv x) λq=>kq p (by simp) x (uv x q))
    (λq hq x hx=>by
     rcases cz hq with h | h
     .exact kq q (by simp[h]) x hx
     .exact kq p (by simp) x ((kJ p x).mpr (.inr ⟨q,h,hx⟩)))
   refine⟨bj,Ed,q1,λx=>?_,?_⟩
   .rw[q2,BG]
    constructor
    .rintro ((h | h) | ⟨q,hq,h⟩)
     .exact .inl h
     .exact .inr ⟨p,by simp,uv x h⟩
     .rcases cz hq with hq | hq
      .exact .inr ⟨q,by simp[hq],h⟩
      .exact .inr ⟨p,by simp,(kJ p x).mpr (.inr ⟨q,hq,h⟩)⟩
    .rintro (h | ⟨q,hq,h⟩)
     .exact .inl (.inl h)
     .rcases cz hq with hq | hq
      .exact .inr ⟨q,by simp[hq],h⟩
      .rw[eR hq]at h
       rcases(kJ p x).mp h with h | ⟨cg,h1,h2⟩
       .exact .inl (.inr h)
       .exact .inr ⟨cg,by simp[h1],h2⟩
   .have ne:(r++[p]).isEmpty=false:=by simp
    rw[N8,kx,ne];simp only[bu,Bool.not_false,if_true];rw[Qa H (by rw[OJ];simp only[MK];lia) hl];exact q3
theorem VN(Hp:ab "parts_of" = some K5)(H:ab "names_of" = some RL)(du:nm.length<64){ps:List Pt}(hw:MK ps<W)(hb:MK ps<=4000)(kq:∀p∈ps,∀x∈p.N,x∈nm):∃ks,ks.Nodup/\(∀x,x∈ks↔∃p∈ps,x∈p.N)/\CG W ab (n+2) "names_of" [.tup (ps.map dP)] m0=some (.tup ((CN ks).map .str),m0):=by
 obtain⟨ks,x3,q1,q2,q3⟩:=Qb (W:=W) (n:=n) (m0:=m0) (prog:=.tup (ps.map dP)) Hp du W ps [] none hw hb mq (by simp) kq;refine⟨ks,q1,λx=>by rw[q2];simp,?_⟩;have hl:ks.length<64:=ri (q1.length_le_of_subset λx hx=>by
  obtain h | ⟨p,hp,hx⟩:=(q2 x).mp hx
  .simp at h
  .exact kq p hp x hx) du
 have hs:∀m,m[m0.length]?=some (.aq (DW ks) (kR ks))->de (.yh false) (.ao m0.length) m=some (.lst ((CN ks).map .str),m):=λm hm=>by
  have e1:(DW ks).map de.kD=ks.map .str:=by simp[DW,de.kD]
  have e2:(DW ks).length<64:=by simpa[DW] using hl
  have hd:HN (.ao m0.length) m=some (DW ks,kR ks):=by simp only[HN,hm]
  show ((HN (.ao m0.length) m).bind λ(ks,_)=>if ks.length<64 then (strsOf (ks.map de.kD)).map λss=>bw false ((CN ss).map .str) m else none)=_;rw[hd,bu];show (if (DW ks).length<64 then (strsOf ((DW ks).map de.kD)).map λss=>bw false ((CN ss).map .str) m else none)=_;rw[ag e2,e1,aG];rfl
 have hm:m0++[.aq [] []]++[.lst (ps.map dP)]=mn m0 [] ps:=by simp[mn,DW,kR]
 have sr:de (.list true) (.tup (ps.map dP)) (m0++[.aq [] []])=some (.ao (m0.length+1),mn m0 [] ps):=by
  show some (bw true (ps.map dP) (m0++[.aq [] []]))=_;rw[<-hm];simp[bw]
 have dA:D.clean.cy ((CN ks).map .str)=true:=by
  generalize CN ks=l
  induction l with
  | nil=>rfl
  | cons a r ih=>simp[ih]
 exact K8 (q:=[.aq (DW ks) (kR ks),.lst []]) (n:=n+1) H rfl dA (CJ (d:=.ao m0.length) (m1:=m0++[MO.aq [] []]) rfl (CJ (d:=.ao (m0.length+1)) (m1:=mn m0 [] ps) (GC rfl sr) (jD (b:=wF) q3 (CP (GC (GC rfl (hs _ Jx)) rfl)))))
end
noncomputable def KZ(g:Str->Int)(l:Int):Dd Str->Bool
 | .put x _=>decide (g x<=l)
 | .cv k _=>decide (k<=l)
 | .ite e _ _=>e.names.all λx=>decide (g x<=l)
 | .bo _ _=>true
mutual
noncomputable def jb(g:Str->Int)(l:Int):Dd Str->Dd Str
 | .put x e=>.put x e
 | .cv k e=>.cv k e
 | .ite e b c=>.ite e (fm g l b) (fm g l c)
 | .bo e b=>.bo e (fm g l b)
noncomputable def fm(g:Str->Int)(l:Int):Bl Str->Bl Str
 | .nil=>.nil
 | .cons d b=>bif KZ g l d then .cons (jb g l d) (fm g l b) else fm g l b
end
mutual
theorem QI{g:Str->Int}{l:Int}{P:Str->Prop}:∀d:Dd Str,d.Ok P->(jb g l d).Ok P/\(jb g l d).dep<=d.dep/\(jb g l d).size<=d.size
 | .put x e,h=>by simp only[jb];exact⟨h,a0 _,a0 _⟩
 | .cv k e,h=>by simp only[jb];exact⟨h,a0 _,a0 _⟩
 | .ite e b c,h=>by
  obtain⟨h1,h2,h3⟩:=dM (g:=g) (l:=l) b h.2.1;obtain⟨h4,h5,h6⟩:=dM (g:=g) (l:=l) c h.2.2;simp only[jb,Dd.dep,Dd.size];exact⟨⟨h.1,h1,h4⟩,by lia,by lia⟩
 | .bo e b,h=>by
  obtain⟨h1,h2,h3⟩:=dM (g:=g) (l:=l) b h.2;simp only[jb,Dd.dep,Dd.size];exact⟨⟨h.1,h1⟩,by lia,by lia⟩
theorem dM{g:Str->Int}{l:Int}{P:Str->Prop}:∀b:Bl Str,b.Ok P->(fm g l b).Ok P/\(fm g l b).dep<=b.dep/\(fm g l b).size<=b.size
 | .nil,_=>by simp only[fm];exact⟨trivial,a0 _,a0 _⟩
 | .cons d b,h=>by
  obtain⟨h1,h2,h3⟩:=QI (g:=g) (l:=l) d h.1;obtain⟨h4,h5,h6⟩:=dM (g:=g) (l:=l) b h.2;cases q:KZ g l d with
  | true=>
   simp only[fm,q,cond_true,Bl.dep,Bl.size];exact⟨⟨h1,h4⟩,by lia,by lia⟩
  | false=>
   simp only[fm,q,cond_false,Bl.dep,Bl.size];exact⟨h4,by lia,by lia⟩
end
noncomputable def tE(g:Str->Int)(l:Int)(d:Dd Str):Option D:=if KZ g l d then some (dD (jb g l d)) else none
theorem Bf{l:Int}:∀b:Bl Str,b.list.filterMap (tE g l)=dB (fm g l b)
 | .nil=>by simp only[fm];rfl
 | .cons d b=>by
  cases h:KZ g l d with
  | true=>simp[Bl.list,List.filterMap_cons,tE,h,fm,dB,Bf b]
  | false=>simp[Bl.list,List.filterMap_cons,tE,h,fm,Bf b]
theorem JW{α:Type}{k:Nat}{g:Tg}{i:Ie}{t:Te}{e:Ex}{xs:List α}{dd:α->D}{h:α->Option D}(ho:lL σ.length g=true)(hi:ei C i σ m=some (⟨xs.map dd,none⟩,m))(hl:xs.length<=1000)(hf:∀a∈xs,∃σ1 c,JQ g (dd a) (σ++List.replicate k none)=some σ1/\et C t σ1 m=some (c,m)/\(if c=true then (h a).isSome=true/\ev C e σ1 m=some ((h a).getD .au,m) else h a=none)):ev C (.comp false k g i t e) σ m=some (.lst (xs.filterMap h),m):=by
 have key:∀(ys:List α) (w:List D),(∀a∈ys,a∈xs)->T9 ⟨w,none⟩ (λd m=>(JQ g d (σ++List.replicate k none)).bind λ σ1=>(et C t σ1 m).bind λ(c,m2)=>if c then (ev C e σ1 m2).map λ(y,m3)=>(some y,m3) else some (none,m2)) (ys.map dd) m=some (ys.filterMap h,m):=by
  intro ys w
  induction ys with
  | nil=>exact λ_=>rfl
  | cons a r ih=>
   intro hs;obtain⟨σ1,c,e1,e2,e3⟩:=hf a (hs a b0);have ih:=ih λb hb=>hs b (b7 _ hb)
   rw[cn,T9,ag (show Walk.ok ⟨w,none⟩ m=true from rfl)];cases c with
   | true=>
    rw[ag rfl]at e3;obtain⟨e3,e4⟩:=e3;simp only[e1,e2,bu,if_true,e4,jh,ih];cases hh:h a with
    | none=>rw[hh]at e3;cases e3
    | some y=>simp[List.filterMap_cons,hh]
   | false=>
    rw[ak (by decide)]at e3;simp only[e1,e2,bu,Bool.false_eq_true,if_false,ih];simp[List.filterMap_cons,e3]
 show (if lL σ.length g=true then (ei C i σ m).bind _ else none)=_;rw[ag ho,hi];simp only[bu];rw[key xs _ λa h=>h];have:=List.length_filterMap_le h xs;simp only[bu];rw[ag (by lia)];rfl
theorem Fs{α:Type}(f:α->Bool):∀l:List α,dW (l.map λx=>.bl (f x))=some (l.map f)
 | []=>rfl
 | a::r=>by
  have:=Fs f r;simp only[cn,dW,this,jh]
theorem wJ{α:Type}(f:α->Bool)(l:List α)(m:Mem):de .all (.lst (l.map λx=>.bl (f x))) m=some (.bl (l.all f),m):=by
 show ((dW (l.map λx=>D.bl (f x))).map λbs=>(D.bl (bs.all id),m))=_;rw[Fs];simp[List.all_map,Function.comp_def]
structure zU(ab:String->Option Fn):Prop where
 parts:ab "parts_of" = some K5
 names:ab "names_of" = some RL
 term:ab "names_in_term" = some NQ
 cut:ab "cut" = some Gp
 block:ab "cut_block" = some ZP
 stays:ab "stays" = some wV
 BH:ab "cut_deed" = some fL
section
theorem zM(H:zU ab)(du:nm.length<64)(ht:t.Ok (·∈nm))(hw:iL t<W)(hb:iL t<=1000):∃ks,ks.Nodup/\(∀x,x∈ks↔x∈t.names)/\CG W ab (n+3) "names_in_term" [dT t] m=some (.tup ((CN ks).map .str),m):=by
 obtain⟨ks,q1,q2,q3⟩:=VN (W:=W) (n:=n) (m0:=m) H.parts H.names du (ps:=[.tm t]) (by simp only[MK,Pt.w];omega) (by simp only[MK,Pt.w];omega) (λp hp x hx=>by
  rw[eR hp]at hx;exact ht.names x hx)
 refine⟨ks,q1,λx=>by rw[q2];simp[Pt.N],?_⟩;have dA:D.clean.cy ((CN ks).map .str)=true:=by
  generalize CN ks=l
  induction l with
  | nil=>rfl
  | cons a r ih=>simp[ih]
 refine CV H.term rfl dA ?_;simp only[cn,List.map_nil,dP]at q3;exact CP (BX q3 rfl)
variable{l:Int}
theorem jG:∀t:Tm Str,iL t+1<=2 ^ (t.dep+1)
 | .num _=>by simp[iL,Tm.dep]
 | .ee _=>by simp[iL,Tm.dep]
 | .bin _ a b=>by
  have h1:=jG a;have h2:=jG b;have h3:2 ^ (a.dep+1)<=2 ^ (max a.dep b.dep+1):=Nat.pow_le_pow_right (by lia) (by lia);have h4:2 ^ (b.dep+1)<=2 ^ (max a.dep b.dep+1):=Nat.pow_le_pow_right (by lia) (by lia);simp only[iL,Tm.dep];rw[Nat.pow_succ];lia
noncomputable def bz(hk:List Str)(g:Str->Int):D:=.aq (DW hk) (GF hk g)
theorem lK(hS:eC nm hk g){d k z:Ex}(h1:ev C d σ m=some (bz hk g,m))(h2:ev C k σ m=some (.str x,m))(h3:ev C z σ m=some (.int 0,m)):ev C (.get d k z) σ m=some (.int (g x),m):=by
 have:HN (bz hk g) m=some (DW hk,GF hk g):=rfl;simp only[Pj,h1,bu,this,h2,h3,O5,jh,oW hS]
theorem Ow(H:zU ab)(du:nm.length<64)(hS:eC nm hk g)(hd:d.Ok (·∈nm))(UQ:d.dep<=8)(hW:1000<W):CG W ab (n+4) "stays" [dD d,bz hk g,.int l] m=some (.bl (KZ g l d),m):=by
 refine CV H.stays rfl rfl ?_;cases d with
 | put x e=>exact CJ rfl (FZ (J5 (p:=("put":Str)="put") rfl rfl) (CP (HJ (lK (x:=x) hS rfl rfl rfl) rfl rfl)))
 | cv k e=>exact CJ rfl (EY (G7 (p:=("show":Str)="put") rfl (cK (by decide))) (FZ (J5 (p:=("show":Str)="show") rfl rfl) (CP rfl)))
 | bo e b=>exact CJ rfl (EY (G7 (p:=("while":Str)="put") rfl (cK (by decide))) (EY (G7 (p:=("while":Str)="show") rfl (cK (by decide))) (EY (G7 (p:=("while":Str)="if") rfl (cK (by decide))) (CP rfl))))
 | ite e b c=>
  simp only[Dd.dep]at UQ;have ht:=jG e;have sy:2 ^ (e.dep+1)<=2 ^ 9:=Nat.pow_le_pow_right (by lia) (by lia);obtain⟨ks,q1,q2,q3⟩:=zM (W:=W) (n:=n) (m:=m) H du hd.1 (by lia) (by lia);have hlen:(CN ks).length<=1000:=by
   rw[show (CN ks).length=ks.length from List.length_mergeSort ks];have:=q1.length_le_of_subset (λx hx=>hd.1.names x ((q2 x).mp hx));lia
  have comp:∀y,ev (CG W ab (n+3)) (.comp false 1 (.nm 4) (.seq (.call "names_in_term" (.cons (.ix (.var 0) (.con (.int 1))) .nil))) .tt (.cmp .le (.get (.var 1) (.var 4) (.con (.int 0))) (.var 2))) [some (dD (.ite e b c)),some (bz hk g),some (.int l),y] m=some (.lst ((CN ks).map λx=>.bl (decide (g x<=l))),m):=by
   intro y;rw[JW (xs:=CN ks) (dd:=.str) (h:=λx=>some (.bl (decide (g x<=l)))) rfl (aP (BX q3 rfl)) hlen]
   .rw[ki]
   .intro x hx
    refine⟨[some (dD (.ite e b c)),some (bz hk g),some (.int l),y,some (.str x)],true,rfl,rfl,?_⟩;have hg:=lK (C:=CG W ab (n+3)) (m:=m) hS (d:=.var 1) (k:=.var 4) (z:=.con (.int 0)) (σ:=[some (dD (.ite e b c)),some (bz hk g),some (.int l),y,some (.str x)]) (x:=x) rfl rfl rfl;rw[ag rfl];exact⟨rfl,HJ hg rfl rfl⟩
  have um:(CN ks).all (λx=>decide (g x<=l))=KZ g l (.ite e b c):=by
   rw[KZ,Bool.eq_iff_iff,rX,rX];exact⟨λh x hx=>h x (D1.mpr ((q2 x).mpr hx)),λh x hx=>h x ((q2 x).mp (D1.mp hx))⟩
  have ha:=wJ (λx=>decide (g x<=l)) (CN ks) m;rw[um]at ha;exact CJ rfl (EY (G7 (p:=("if":Str)="put") rfl (cK (by decide))) (EY (G7 (p:=("if":Str)="show") rfl (cK (by decide))) (FZ (J5 (p:=("if":Str)="if") rfl rfl) (CP (GC (comp _) ha)))))
end
section
variable{l:Int}
def tS(W:Nat)(ab:String->Option Fn)(hk:List Str)(g:Str->Int)(l:Int)(n:Nat)(b:Bl Str):Prop:=∀m,CG W ab n "cut_block" [.tup (dB b),bz hk g,.int l] m=some (.tup (dB (fm g l b)),m)
def FC(W:Nat)(ab:String->Option Fn)(hk:List Str)(g:Str->Int)(l:Int)(n:Nat):Dd Str->Prop
 | .ite _ b c=>tS W ab hk g l n b/\tS W ab hk g l n c
 | .bo _ b=>tS W ab hk g l n b
 | _=>True
theorem tL(H:zU ab)(h:FC W ab hk g l n d)(m:Mem):CG W ab (n+1) "cut_deed" [dD d,bz hk g,.int l] m=some (dD (jb g l d),m):=by
 refine CV H.BH rfl (Q5 _) ?_;cases d with
 | put x e=>exact CJ rfl (EY (G7 (p:=("put":Str)="if") rfl (cK (by decide))) (EY (G7 (p:=("put":Str)="while") rfl (cK (by decide))) (CP rfl)))
 | cv k e=>exact CJ rfl (EY (G7 (p:=("show":Str)="if") rfl (cK (by decide))) (EY (G7 (p:=("show":Str)="while") rfl (cK (by decide))) (CP rfl)))
 | ite e b c=>exact CJ rfl (FZ (J5 (p:=("if":Str)="if") rfl rfl) (CP (G6 (BR rfl (BR rfl (BR (BX (h.1 m) rfl) (BR (BX (h.2 m) rfl) rfl)))) (di rfl))))
 | bo e b=>exact CJ rfl (EY (G7 (p:=("while":Str)="if") rfl (cK (by decide))) (FZ (J5 (p:=("while":Str)="while") rfl rfl) (CP (G6 (BR rfl (BR rfl (BR (BX (h m) rfl) rfl))) (di rfl)))))
theorem Fu(b:Bl Str):b.list.length<=b.size:=by
 have:=U6 b.list;rw[J1]at this;exact this
theorem Gi{b:Bl Str}{d:Dd Str}(h:d∈b.list):d.size<=b.size:=by
 have:=bJ h;rw[J1]at this;exact this
theorem pW(H:zU ab)(du:nm.length<64)(hS:eC nm hk g)(hW:1000<W):∀(K n:Nat) (b:Bl Str),2*K+4<=n->K<=8->b.Ok (·∈nm)->b.dep<=K->b.size<=1000->tS W ab hk g l (n+1) b:=by
 have key:∀(K n:Nat),4<=n->K<=8->(∀b:Bl Str,b.Ok (·∈nm)->b.dep<K->b.size<=1000->tS W ab hk g l (n-1) b)->∀b:Bl Str,b.Ok (·∈nm)->b.dep<=K->b.size<=1000->tS W ab hk g l (n+1) b:=by
  intro K n hn h8 ih b ho hd hw m;obtain⟨n,rfl⟩:∃k,n=k+4:=⟨n-4,by lia⟩
  refine CV H.block rfl (O7 _) ?_;have hlen:b.list.length<=1000:=eJ (Fu b) hw;have comp:ev (CG W ab (n+4)) (.comp false 1 (.nm 3) (.seq (.var 0)) (.val (.call "stays" (.cons (.var 3) (.cons (.var 1) (.cons (.var 2) .nil))))) (.call "cut_deed" (.cons (.var 3) (.cons (.var 1) (.cons (.var 2) .nil))))) [some (.tup (dB b)),some (bz hk g),some (.int l)] m=some (.lst (dB (fm g l b)),m):=by
   rw[JW (xs:=b.list) (dd:=dD) (h:=tE g l) rfl (by rw[<-JC];rfl) hlen,Bf];intro d d6;have kn:=ho.mem d d6;have Io:=Gi d6;have iy:=eJ (Bl.wa d6) hd;have e1:=Ow (W:=W) (n:=n) (m:=m) (l:=l) H du hS kn (by lia) hW;have jl:FC W ab hk g l (n+3) d:=by
    cases d with
    | put x e=>exact trivial
    | cv k e=>exact trivial
    | ite e c df=>
     simp only[Dd.dep,Dd.size]at iy Io;exact⟨ih c kn.2.1 (by lia) (by lia),ih df kn.2.2 (by lia) (by lia)⟩
    | bo e c=>
     simp only[Dd.dep,Dd.size]at iy Io;exact ih c kn.2 (by lia) (by lia)
   have e2:=tL (n:=n+3) H jl m;refine⟨[some (.tup (dB b)),some (bz hk g),some (.int l),some (dD d)],KZ g l d,rfl,GD (BX e1 rfl) rfl,?_⟩;cases hq:KZ g l d with
   | true=>
    rw[ag rfl,show tE g l d=some (dD (jb g l d)) by simp[tE,hq]];exact⟨rfl,BX e2 rfl⟩
   | false=>simp[tE,hq]
  exact CP (GC comp rfl)
 intro K
 induction K with
 | zero=>exact λn b hn h8 ho=>key 0 n (by lia) h8 (λb _ h=>absurd h (oC _)) b ho
 | succ K ih=>
  intro n b hn h8 ho;refine key (K+1) n (by lia) h8 (λc hc h1 h2=>?_) b ho;have:=ih (n-2) c (by lia) (by lia) hc (by lia) h2;rw[show n-2+1=n-1 from by lia]at this;exact this
theorem Gg(H:zU ab)(du:nm.length<64)(hS:eC nm hk g)(hW:1000<W){K:Nat}{b:Bl Str}(hn:2*K+4<=n)(h8:K<=8)(ho:b.Ok (·∈nm))(hd:b.dep<=K)(hw:b.size<=1000)(m:Mem):CG W ab (n+2) "cut" [.tup (dB b),.tup (DK hk g),.int l] m=some (.tup (dB (fm g l b)),m):=by
 refine CV H.cut rfl (O7 _) ?_;have h1:=pW (l:=l) H du hS hW K n b hn h8 ho hd hw m;have hl:hk.length<=1000:=eJ (hS.nd.length_le_of_subset λx hx=>hS.sub x hx) (by lia);have h2:=aQ (f:=g) hS.nd hl false m;have h3:gX false (DW hk) (GF hk g) m=(bz hk g,m):=rfl;exact CP (BX h1 (BR rfl (BR (GC rfl h2) rfl)))
end
end T
namespace WW
section
variable{N:Type}[DecidableEq N]
variable(g:N->Int)(l:Int)
noncomputable def Rk:Dd N->Bool
 | .put x _=>decide (g x<=l)
 | .cv k _=>decide (k<=l)
 | .ite e _ _=>e.names.all λx=>decide (g x<=l)
 | .bo _ _=>true
mutual
noncomputable def cutD:Dd N->Dd N
 | .put x e=>.put x e
 | .cv k e=>.cv k e
 | .ite e b c=>.ite e (vo b) (vo c)
 | .bo e b=>.bo e (vo b)
noncomputable def vo:Bl N->Bl N
 | .nil=>.nil
 | .cons d b=>bif Rk g l d then .cons (cutD d) (vo b) else vo b
end
variable{g l}
end
end WW
namespace T
open PySem L2 WL WW
structure HasW(ab:String->Option Fn):Prop where
 parts:ab "parts_of" = some K5
 names:ab "names_of" = some RL
 term:ab "names_in_term" = some NQ
 TZ:ab "flows" = some wX
 gather:ab "gather_flows" = some vv
 add:ab "add_flows" = some vt
structure Bw(ab:String->Option Fn):Prop extends HasW ab where
 lets:ab "lets" = some Fy
 level:ab "level_of" = some fJ
noncomputable def MJ:Str:=Str.ofString "page"
noncomputable def J2:Str:=Str.ofString "name"
mutual
noncomputable def h9:List Str->Dd Str->List FK
 | cs,.put x e=>(cs++e.names).map λy=>(y,J2,.inr x)
 | cs,.cv k e=>(cs++e.names).map λy=>(y,MJ,.inl k)
 | cs,.ite e b c=>dk (cs++e.names) b++dk (cs++e.names) c
 | cs,.bo e b=>((cs++e.names).map λy=>(y,MJ,.inl 0))++dk cs b
noncomputable def dk:List Str->Bl Str->List FK
 | _,.nil=>[]
 | cs,.cons d b=>h9 cs d++dk cs b
end
def j1(a b:List Str):Prop:=∀x,x∈a↔x∈b
theorem j1.app{a b c d:List Str}(h:j1 a b)(h':j1 c d):j1 (a++c) (b++d):=λx=>by simp[h x,h' x]
theorem U4{a b:List Str}(h:j1 a b){z:Key}:k∈a.map (λy=>(y,kd,z))↔k∈b.map (λy=>(y,kd,z)):=by
 simp only[List.mem_map];exact⟨λ⟨y,hy,e⟩=>⟨y,(h y).mp hy,e⟩,λ⟨y,hy,e⟩=>⟨y,(h y).mpr hy,e⟩⟩
mutual
theorem Qr:∀{d:Dd Str} {a b:List Str},j1 a b->∀k,k∈h9 a d↔k∈h9 b d
 | .put x e,a,b,h,k=>by simp only[h9];exact U4 (h.app λ_=>Iff.rfl)
 | .cv j e,a,b,h,k=>by simp only[h9];exact U4 (h.app λ_=>Iff.rfl)
 | .ite e x y,a,b,h,k=>by
  have h':j1 (a++e.names) (b++e.names):=h.app λ_=>Iff.rfl
  simp only[h9,List.mem_append,d8 h' k]
 | .bo e x,a,b,h,k=>by
  simp only[h9,List.mem_append,d8 h k];rw[U4 (h.app (c:=e.names) λ_=>Iff.rfl)]
theorem d8:∀{x:Bl Str} {a b:List Str},j1 a b->∀k,k∈dk a x↔k∈dk b x
 | .nil,_,_,_,k=>by simp only[dk]
 | .cons d x,a,b,h,k=>by simp only[dk,List.mem_append,Qr h k,d8 h k]
end
noncomputable def univ(nm:List Str):List FK:=nm.flatMap λy=>[(y,MJ,Sum.inl 0),(y,MJ,Sum.inl 1),(y,MJ,Sum.inl 2)]++nm.map λx=>(y,J2,Sum.inr x)
theorem QJ(hy:y∈nm)(hj:0<=j/\j<3):(y,MJ,(Sum.inl j:Key))∈univ nm:=by
 refine List.mem_flatMap.mpr ⟨y,hy,iu _ ?_⟩;rcases(show j=0\/j=1\/j=2 by lia) with rfl | rfl | rfl<;>simp
theorem gA(hy:y∈nm)(hx:x∈nm):(y,J2,(Sum.inr x:Key))∈univ nm:=List.mem_flatMap.mpr ⟨y,hy,hJ _ (gh hx)⟩
theorem W5:∀k∈univ nm,PB k=true:=λk hk=>by
 obtain⟨y,_,h⟩:=List.mem_flatMap.mp hk;rcases cz h with h | h
 .simp only[List.mem_cons,List.not_mem_nil,or_false]at h
  rcases h with rfl | rfl | rfl<;>exact dm (show MJ=Str.ofString "page" from rfl)
 .obtain⟨x,_,rfl⟩:=cw h
  show (!decide (J2=Str.ofString "page"))=true;decide +kernel
theorem KL(h:nm.length=4):(univ nm).length=28:=by
 match nm,h with
 | [a,b,c,d],_=>rfl
mutual
theorem vL{nm:List Str}:∀{d:Dd Str} {cs:List Str},d.Ok (·∈nm)->(∀y∈cs,y∈nm)->∀k∈h9 cs d,k∈univ nm
 | .put x e,cs,ho,hc,k,hk=>by
  obtain⟨y,hy,rfl⟩:=cw hk;exact gA ((cz hy).elim (hc y) (ho.2.names y)) ho.1
 | .cv j e,cs,ho,hc,k,hk=>by
  obtain⟨y,hy,rfl⟩:=cw hk;exact QJ ((cz hy).elim (hc y) (ho.2.names y)) ho.1
 | .ite e b c,cs,ho,hc,k,hk=>by
  have sg:∀y∈cs++e.names,y∈nm:=λy hy=>(cz hy).elim (hc y) (ho.1.names y)
  rcases cz hk with hk | hk
  .exact JX ho.2.1 sg k hk
  .exact JX ho.2.2 sg k hk
 | .bo e b,cs,ho,hc,k,hk=>by
  rcases cz hk with hk | hk
  .obtain⟨y,hy,rfl⟩:=cw hk
   exact QJ ((cz hy).elim (hc y) (ho.1.names y)) (by lia)
  .exact JX ho.2 hc k hk
theorem JX{nm:List Str}:∀{b:Bl Str} {cs:List Str},b.Ok (·∈nm)->(∀y∈cs,y∈nm)->∀k∈dk cs b,k∈univ nm
 | .nil,_,_,_,k,hk=>nomatch hk
 | .cons d b,cs,ho,hc,k,hk=>by
  rcases cz hk with hk | hk
  .exact vL ho.1 hc k hk
  .exact JX ho.2 hc k hk
end
noncomputable def pS(g:Str->Int)(k:FK):Int:=match k.2.2 with
 | .inl j=>j
 | .inr x=>g x
theorem Hl{ks:List FK}:k∈XD ks q↔k∈ks\/k=q:=by
 unfold XD
 by_cases h:ks.any (λx=>decide (x=q))=true
 .rw[ag h]
  obtain⟨x,hx,e⟩:=List.any_eq_true.mp h;have e:=f7 e;subst e;exact⟨.inl,λz=>z.elim id λe=>e▸hx⟩
 .rw[ak h];simp
theorem wK{ks:List FK}(hn:ks.Nodup):(XD ks q).Nodup:=by
 unfold XD
 by_cases h:ks.any (λx=>decide (x=q))=true
 .rw[ag h];exact hn
 .rw[ak h]
  refine List.nodup_append.mpr ⟨hn,by simp,λa ha b hb e=>h ?_⟩;rw[eR hb]at e;exact List.any_eq_true.mpr ⟨a,ha,dm e⟩
noncomputable def Q7(kd:Str)(z:Key):List FK->List Str->List FK
 | ks,[]=>ks
 | ks,c::r=>Q7 kd z (XD ks (c,kd,z)) r
theorem vS{k:FK}:∀{cs:List Str} {ks:List FK},k∈Q7 kd z ks cs↔k∈ks\/k∈cs.map λy=>(y,kd,z)
 | [],ks=>by simp[Q7]
 | c::r,ks=>by
  rw[Q7,vS,Hl,cn,List.mem_cons];constructor
  .rintro ((h | h) | h)
   .exact .inl h
   .exact .inr (.inl h)
   .exact .inr (.inr h)
  .rintro (h | h | h)
   .exact .inl (.inl h)
   .exact .inl (.inr h)
   .exact .inr h
theorem XC:∀{cs:List Str} {ks:List FK},ks.Nodup->(Q7 kd z ks cs).Nodup
 | [],_,h=>h
 | c::r,ks,h=>by rw[Q7];exact XC (wK h)
theorem Fb(k:FK):nI (fD k)=some k:=by
 obtain⟨a,b,c | c⟩:=k<;>rfl
noncomputable def zm:bg->bg
 | .cons (.fr _ _ b) _=>b
 | s=>s
theorem qK{C:String->List D->Mem->Option (D×Mem)}{nm:List Str}(hU:(univ nm).length<10000){kd:Str}{z:Key}{ys:List D}{na:D}{i:Nat}:∀(cs:List Str) (ks:List FK) (m:Mem) (x3:Option D),m[i]?=some (.fd ks)->ks.Nodup->(∀k∈ks,k∈univ nm)->(∀y∈cs,(y,kd,z)∈univ nm)->∃y3,forL ⟨ys,none⟩ (.nm 3) (λ σ m=>aI C W (zm Q6) σ m) (cs.map .str) [some na,some (.tup [.str kd,dE z]),some (.ao i),x3] m=some (.nx [some na,some (.tup [.str kd,dE z]),some (.ao i),y3],m.set i (.fd (Q7 kd z ks cs)))
 | [],ks,m,x3,hm,_,_,_=>by
  have:m.set i (.fd ks)=m:=List.ext_getElem? λj=>by
   by_cases hj:i=j
   .subst hj
    rw[List.getElem?_set_self (List.getElem?_eq_some_iff.mp hm).1,hm]
   .rw[List.getElem?_set_ne hj]
  exact⟨x3,by simp[forL,Walk.ok,Q7,this]⟩
 | c::r,ks,m,x3,hm,cE,hs,hc=>by
  have hi:=(List.getElem?_eq_some_iff.mp hm).1;have hl:ks.length<10000:=ri (cE.length_le_of_subset hs) hU;obtain⟨y3,e1⟩:=qK (C:=C) (ys:=ys) (na:=na) hU r (XD ks (c,kd,z)) (m.set i (.fd (XD ks (c,kd,z)))) (some (.str c)) (List.getElem?_set_self hi) (wK cE) (λk hk=>(Hl.mp hk).elim (hs k) λe=>e▸hc c b0) (λy hy=>hc y (b7 _ hy));refine⟨y3,?_⟩;rw[List.set_set]at e1;have hk:nI (.tup [.str c,.tup [.str kd,dE z]])=some (c,kd,z):=Fb (c,kd,z);have hb:JQ (.nm 3) (.str c) [some na,some (.tup [.str kd,dE z]),some (.ao i),x3]=some [some na,some (.tup [.str kd,dE z]),some (.ao i),some (.str c)]:=rfl;have e0:aI C W (zm Q6) [some na,some (.tup [.str kd,dE z]),some (.ao i),some (.str c)] m=some (.nx [some na,some (.tup [.str kd,dE z]),some (.ao i),some (.str c)],m.set i (.fd (XD ks (c,kd,z)))):=by
   exact L1 rfl rfl hm hk hl rfl
  rw[cn,forL,ag (show Walk.ok ⟨ys,none⟩ m=true from rfl),hb,bu,e0,bu];exact e1
theorem Bg(H:HasW ab)(hU:(univ nm).length<10000){kd:Str}{z:Key}{cs:List Str}{ks:List FK}{i:Nat}(hm:m[i]?=some (.fd ks))(cE:ks.Nodup)(hs:∀k∈ks,k∈univ nm)(hc:∀y∈cs,(y,kd,z)∈univ nm):CG W ab (n+1) "add_flows" [.tup (cs.map .str),.tup [.str kd,dE z],.ao i] m=some (.au,m.set i (.fd (Q7 kd z ks cs))):=by
 obtain⟨y3,e⟩:=qK (W:=W) (C:=CG W ab n) (ys:=cs.map .str) (na:=.tup (cs.map .str)) hU cs ks m none hm cE hs hc;rw[O8 H.add rfl];have E:aI (CG W ab n) W vt.body ([D.tup (cs.map .str),.tup [.str kd,dE z],.ao i].map some++List.replicate (vt.ns-vt.ps) none) m=some (.nx [some (.tup (cs.map .str)),some (.tup [.str kd,dE z]),some (.ao i),y3],m.set i (.fd (Q7 kd z ks cs))):=QZ (b:=zm Q6) (w:=⟨cs.map .str,none⟩) rfl e rfl;rw[E];show some (D.au,List.take m.length (m.set i _))=_;rw[rV (by simp)]
end T
namespace WW
section
variable{N M:Type}
noncomputable def Tm.rn(ρ:N->M):Tm N->Tm M
 | .num n=>.num n
 | .ee x=>.ee (ρ x)
 | .bin o a b=>.bin o (a.rn ρ) (b.rn ρ)
mutual
noncomputable def Dd.rn(ρ:N->M):Dd N->Dd M
 | .put x e=>.put (ρ x) (e.rn ρ)
 | .cv l e=>.cv l (e.rn ρ)
 | .ite e b c=>.ite (e.rn ρ) (b.rn ρ) (c.rn ρ)
 | .bo e b=>.bo (e.rn ρ) (b.rn ρ)
noncomputable def Bl.rn(ρ:N->M):Bl N->Bl M
 | .nil=>.nil
 | .cons d b=>.cons (d.rn ρ) (b.rn ρ)
end
theorem Bl.u7(ρ:N->M):∀b:Bl N,(b.rn ρ).list=b.list.map (Dd.rn ρ)
 | .nil=>rfl
 | .cons d b=>congrArg (Dd.rn ρ d::·) (Bl.u7 ρ b)
theorem Tm.nc(ρ:N->M):∀t:Tm N,(t.rn ρ).names=t.names.map ρ
 | .num _=>rfl
 | .ee _=>rfl
 | .bin _ a b=>by simp only[Tm.rn,Tm.names,Tm.nc ρ a,Tm.nc ρ b,dt]
theorem Tm.ig(ρ:N->M):∀t:Tm N,(t.rn ρ).dep=t.dep
 | .num _=>rfl
 | .ee _=>rfl
 | .bin _ a b=>by simp only[Tm.rn,Tm.dep,Tm.ig ρ a,Tm.ig ρ b]
mutual
theorem Dd.ig(ρ:N->M):∀d:Dd N,(d.rn ρ).dep=d.dep/\(d.rn ρ).size=d.size
 | .put _ e=>⟨e.ig ρ,rfl⟩
 | .cv _ e=>⟨e.ig ρ,rfl⟩
 | .ite e b c=>by simp only[Dd.rn,Dd.dep,Dd.size,Tm.ig,(Bl.ig ρ b).1,(Bl.ig ρ b).2,(Bl.ig ρ c).1,(Bl.ig ρ c).2,and_self]
 | .bo e b=>by simp only[Dd.rn,Dd.dep,Dd.size,Tm.ig,(Bl.ig ρ b).1,(Bl.ig ρ b).2,and_self]
theorem Bl.ig(ρ:N->M):∀b:Bl N,(b.rn ρ).dep=b.dep/\(b.rn ρ).size=b.size
 | .nil=>⟨rfl,rfl⟩
 | .cons d b=>by simp only[Bl.rn,Bl.dep,Bl.size,(Dd.ig ρ d).1,(Dd.ig ρ d).2,(Bl.ig ρ b).1,(Bl.ig ρ b).2,and_self]
end
variable{P:N->Prop}{Q:M->Prop}{ρ:N->M}
theorem Tm.jI(h:∀x,P x->Q (ρ x)):∀{t:Tm N},t.Ok P->(t.rn ρ).Ok Q
 | .num _,k=>k
 | .ee x,k=>h x k
 | .bin _ _ _,k=>⟨Tm.jI h k.1,Tm.jI h k.2⟩
mutual
theorem Dd.jI(h:∀x,P x->Q (ρ x)):∀{d:Dd N},d.Ok P->(d.rn ρ).Ok Q
 | .put x _,k=>⟨h x k.1,Tm.jI h k.2⟩
 | .cv _ _,k=>⟨k.1,Tm.jI h k.2⟩
 | .ite _ _ _,k=>⟨Tm.jI h k.1,Bl.jI h k.2.1,Bl.jI h k.2.2⟩
 | .bo _ _,k=>⟨Tm.jI h k.1,Bl.jI h k.2⟩
theorem Bl.jI(h:∀x,P x->Q (ρ x)):∀{b:Bl N},b.Ok P->(b.rn ρ).Ok Q
 | .nil,_=>trivial
 | .cons _ _,k=>⟨Dd.jI h k.1,Bl.jI h k.2⟩
end
theorem Tm.tj{f:N->Int}(h:∀x,P x->f' (ρ x)=f x):∀{t:Tm N},t.Ok P->(t.rn ρ).val f'=t.val f
 | .num _,_=>rfl
 | .ee x,k=>h x k
 | .bin _ _ _,k=>by simp only[Tm.rn,Tm.val,Tm.tj h k.1,Tm.tj h k.2]
variable[DecidableEq N][DecidableEq M]
theorem Runs.rn(hi:∀x y,P x->P y->ρ x=ρ y->x=y){most:Int}{s:S N}{r:R N}(h:Runs most s r):∀{f':M->Int},(∀d∈s.st,d.Ok P)->(∀x,P x->f' (ρ x)=s.f x)->
  ∃bE:R M,Runs most ⟨s.st.map (Dd.rn ρ),f',s.sh,s.t⟩ bE/\bE.t=r.t/\bE.sh=r.sh/\∀x,P x->bE.f (ρ x)=r.f x:=by
 induction h with
 | @done s r e=>
  intro f' ho hf;obtain⟨st,f,sh,t⟩:=s;cases st with
  | nil=>obtain rfl:(⟨some t,f,sh⟩:R N)=r:=iw e;exact⟨_,.done rfl,rfl,rfl,hf⟩
  | cons d K=>
   cases d with
   | put x e1=>cases e
   | cv l e1=>cases e
   | ite e1 b c=>cases e
   | bo e1 b=>
    have hv:=Tm.tj hf (ho _ b0).1;simp only[step]at e;split at e
    .rename_i h1
     split at e
     .rename_i h2
      obtain rfl:=iw e;exact⟨⟨none,f',sh⟩,.done (by show (if (e1.rn ρ).val f'≠0 then _ else _)=_;rw[hv,ag h1];exact ag h2),rfl,rfl,hf⟩
     .cases e
    .cases e
 | @next s s' r e _ ih=>
  intro f' ho hf;obtain⟨st,f,sh,t⟩:=s;cases st with
  | nil=>cases e
  | cons d K=>
   have hK:∀d∈K,d.Ok P:=λd q=>ho d (b7 _ q)
   have hd:=ho d b0;cases d with
   | put x e1=>
    obtain rfl:=Sum.inl.inj e;obtain⟨bE,q,cg⟩:=ih (f':=MF f' (ρ x) ((e1.rn ρ).val f')) hK (λy hy=>by
     simp only[MF,Tm.tj hf hd.2]
     by_cases z:y=x
     .rw[ag z,ag (by rw[z])]
     .rw[ak z,ak λw=>z (hi y x hy hd.1 w)];exact hf y hy)
    exact⟨bE,.next rfl q,cg⟩
   | cv l e1=>
    obtain rfl:=Sum.inl.inj e;obtain⟨bE,q,cg⟩:=ih (f':=f') hK hf;exact⟨bE,.next rfl (by rw[<-Tm.tj hf hd.2]at q;exact q),cg⟩
   | ite e1 b c=>
    obtain rfl:=Sum.inl.inj e;have hv:=Tm.tj hf hd.1;obtain⟨bE,q,cg⟩:=ih (f':=f') (λd q=>by
     rcases cz q with q | q
     .split at q
      .exact hd.2.1.mem d q
      .exact hd.2.2.mem d q
     .exact hK d q) hf
    refine⟨bE,.next (s':=⟨(if (e1.rn ρ).val f'≠0 then (b.rn ρ).list else (c.rn ρ).list)++K.map (Dd.rn ρ),f',sh,t⟩) rfl ?_,cg⟩;rw[hv,Bl.u7,Bl.u7];rw[dt,apply_ite (List.map (Dd.rn ρ))]at q;exact q
   | bo e1 b=>
    have hv:=Tm.tj hf hd.1;simp only[step]at e;split at e
    .rename_i h1
     split at e
     .cases e
     .rename_i h2
      obtain rfl:=Sum.inl.inj e;obtain⟨bE,q,cg⟩:=ih (f':=f') (λd q=>by
       rcases cz q with q | q
       .exact hd.2.mem d q
       .rcases ck q with rfl | q
        .exact hd
        .exact hK d q) hf
      refine⟨bE,.next (s':=⟨(b.rn ρ).list++.bo (e1.rn ρ) (b.rn ρ)::K.map (Dd.rn ρ),f',sh,t+1⟩) (by show (if (e1.rn ρ).val f'≠0 then _ else _)=_;rw[hv,ag h1];exact ak h2) ?_,cg⟩;rw[Bl.u7];rw[dt]at q;exact q
    .rename_i h1
     obtain rfl:=Sum.inl.inj e;obtain⟨bE,q,cg⟩:=ih (f':=f') hK hf;exact⟨bE,.next (s':=⟨K.map (Dd.rn ρ),f',sh,t⟩) (by show (if (e1.rn ρ).val f'≠0 then _ else _)=_;rw[hv,ak h1]) q,cg⟩
end
end WW
namespace T
open PySem L2 WL WW
section
variable{ρ:Str->Str}{g':Str->Int}{l:Int}
theorem NG(h:∀x,P x->g' (ρ x)=g x):∀{d:Dd Str},d.Ok P->KZ g' l (d.rn ρ)=KZ g l d
 | .put x _,k=>by simp only[Dd.rn,KZ,h x k.1]
 | .cv _ _,_=>rfl
 | .ite e _ _,k=>by
  simp only[Dd.rn,KZ,Tm.nc,List.all_map];rw[Bool.eq_iff_iff,rX,rX];exact forall_congr' λx=>⟨λq hx=>by have:=q hx;simpa[h x (k.1.names x hx)] using this,λq hx=>by have:=q hx;simpa[h x (k.1.names x hx)] using this⟩
 | .bo _ _,_=>rfl
mutual
theorem QH(h:∀x,P x->g' (ρ x)=g x):∀{d:Dd Str},d.Ok P->jb g' l (d.rn ρ)=(jb g l d).rn ρ
 | .put _ _,_=>by simp only[Dd.rn,jb]
 | .cv _ _,_=>by simp only[Dd.rn,jb]
 | .ite _ _ _,k=>by simp only[Dd.rn,jb,dJ h k.2.1,dJ h k.2.2]
 | .bo _ _,k=>by simp only[Dd.rn,jb,dJ h k.2]
theorem dJ(h:∀x,P x->g' (ρ x)=g x):∀{b:Bl Str},b.Ok P->fm g' l (b.rn ρ)=(fm g l b).rn ρ
 | .nil,_=>by simp only[Bl.rn,fm]
 | .cons d b,k=>by
  simp only[Bl.rn,fm,NG h k.1,QH h k.1,dJ h k.2];cases KZ g l d<;>rfl
end
noncomputable def i0(ρ:Str->Str)(k:FK):FK:=(ρ k.1,k.2.1,match k.2.2 with | .inl j=>.inl j | .inr x=>.inr (ρ x))
mutual
theorem Qq:∀{d:Dd Str} {cs:List Str},h9 (cs.map ρ) (d.rn ρ)=(h9 cs d).map (i0 ρ)
 | .put x e,cs=>by simp only[Dd.rn,h9,Tm.nc,<-dt,bS];rfl
 | .cv k e,cs=>by simp only[Dd.rn,h9,Tm.nc,<-dt,bS];rfl
 | .ite e b c,cs=>by simp only[Dd.rn,h9,Tm.nc,<-dt,lJ]
 | .bo e b,cs=>by simp only[Dd.rn,h9,Tm.nc,<-dt,bS,lJ];simp only[dt,bS];rfl
theorem lJ:∀{b:Bl Str} {cs:List Str},dk (cs.map ρ) (b.rn ρ)=(dk cs b).map (i0 ρ)
 | .nil,cs=>rfl
 | .cons d b,cs=>by simp only[Bl.rn,dk,Qq,lJ,dt]
end
end
end T
namespace T
open PySem L2 WL WW
structure qN(ab:String->Option Fn):Prop where
 TM:ab "_law_else" = some wW
 term:ab "_law_term_else" = some Y4
 block:ab "_law_block_else" = some VD
 pairs:ab "_law_pairs_else" = some VB
 HA:ab "_law_flow_else" = some Y6
theorem OO:(Str.ofString "zyxwvutsrqponmlkjihgfedcba").cps.toList=(List.range 26).map (122-·):=by decide
theorem yJ(h0:0<=i)(h1:i<26):jz (.str "zyxwvutsrqponmlkjihgfedcba") (.int i) m=some (.str ⟨#[122-i.toNat]⟩):=by
 show (if (Str.ofString "zyxwvutsrqponmlkjihgfedcba").length<=1000 then (c9 (Str.ofString "zyxwvutsrqponmlkjihgfedcba").cps.toList i).map (λc=>D.str ⟨#[c]⟩) else none)=_;rw[ag (by decide),OO];obtain⟨k,rfl⟩:=we h0;rw[RD];have:k<26:=by lia
 simp[this]
noncomputable def lI(nm:List Str)(x:Str):Nat:=(findD (.str x) (nm.map .str) 0).getD 0
noncomputable def oP(sd:Int):List Nat:=[97,98].take (sd % 3).toNat
noncomputable def a6(nm:List Str)(sd:Int)(x:Str):Str:=⟨#[122-((7*(lI nm x:Int)+sd) % 26).toNat]⟩++⟨(oP sd).toArray⟩
theorem EV:∀{nm:List Str} {i:Nat},x∈nm->∃k,findD (.str x) (nm.map .str) i=some (i+k)/\nm[k]?=some x
 | y::r,i,h=>by
  by_cases e:x=y
  .exact⟨0,by simp[findD,inD,e],by rw[e];rfl⟩
  .obtain⟨k,h1,h2⟩:=EV (nm:=r) (i:=i+1) ((ck h).resolve_left e)
   exact⟨k+1,by simp[findD,inD,e,h1];lia,h2⟩
theorem lA(h:x∈nm):findD (.str x) (nm.map .str) 0=some (lI nm x)/\nm[lI nm x]?=some x:=by
 obtain⟨k,h1,h2⟩:=EV (i:=0) h;unfold lI;rw[h1,Nat.zero_add];exact⟨rfl,h2⟩
theorem rR(h:x∈nm):lI nm x<nm.length:=(List.getElem?_eq_some_iff.mp (lA h).2).1
theorem gP(nm:List Str)(sd:Int)(x:Str):(a6 nm sd x).cps.toList[0]?=some (122-((7*(lI nm x:Int)+sd) % 26).toNat):=by
 show (#[122-((7*(lI nm x:Int)+sd) % 26).toNat]++(oP sd).toArray:Array Nat).toList[0]?=_;simp
theorem O1(h4:nm.length=4)(hx:x∈nm)(hy:y∈nm)(e:a6 nm sd x=a6 nm sd y):x=y:=by
 have h1:=gP nm sd x;rw[e,gP]at h1;have h2:=cq h1;have l1:=rR hx;have l2:=rR hy;have:lI nm x=lI nm y:=by lia
 have h3:=(lA hx).2;rw[this,(lA hy).2]at h3;exact(cq h3).symm
theorem LB(l:List Str):(l.map D.str).all D.flat=true:=by
 induction l with
 | nil=>rfl
 | cons a r ih=>exact ih
theorem wL:(Str.ofString "ab").cps.toList=[97,98]:=by decide
theorem dO(H:qN ab)(h4:nm.length=4)(hs:0<=sd)(hx:x∈nm):CG W ab (n+1) "_law_else" [.lst (nm.map .str),.int sd,.str x] m=some (.str (a6 nm sd x),m):=by
 have hi:=lA hx;have hl:=rR hx;have o5:ng (.str "ab") none (some (sd % 3))=some (.str ⟨(oP sd).toArray⟩):=by
  rw[FG (by decide) (by lia) (by rw[wL];show sd % 3<=2;lia),wL];rfl
 have he:(oP sd).length<=2:=by unfold oP;simp;lia
 refine CV H.TM rfl rfl (CJ rfl (CP (FJ (MP rfl (FJ (FJ (FJ rfl (pA rfl rfl rfl ?_ hi.1) (QT (by decide))) rfl rfl) rfl (K3 (by decide))) (yJ (by lia) (by lia))) (iJ rfl rfl (vO (FJ rfl rfl (K3 (by decide)))) o5) (mG ?_))))
 .rw[LB]
  show (true&&true&&decide ((nm.map D.str).length<1000))=true;rw[a8,h4];rfl
 .show 1+(oP sd).toArray.size<=1000
  simp;lia
theorem K9(H:qN ab)(h4:nm.length=4)(hs:0<=sd):∀{t:Tm Str} {n:Nat} {m:Mem},t.Ok (·∈nm)->t.dep+1<n->CG W ab n "_law_term_else" [.lst (nm.map .str),.int sd,dT t] m=some (dT (t.rn (a6 nm sd)),m)
 | .num k,n+1,m,_,_=>CV H.term rfl rfl (FZ (J5 (p:=("number":Str)="number") rfl rfl) (CP rfl))
 | .ee x,n+2,m,ho,_=>CV H.term rfl rfl (EY (G7 (p:=("name":Str)="number") rfl (cK (by decide))) (FZ (J5 (p:=("name":Str)="name") rfl rfl) (CP (G6 (BR rfl (BR (BX (dO H h4 hs ho) rfl) rfl)) (di rfl)))))
 | .bin o a b,n+1,m,ho,h=>by
  simp only[Tm.dep]at h;have ea:=K9 H h4 hs (t:=a) (n:=n) (m:=m) ho.1 (by lia);have eb:=K9 H h4 hs (t:=b) (n:=n) (m:=m) ho.2 (by lia);have o1:m5 o≠"name":=by cases o<;>decide
  have o2:m5 o≠"number":=by cases o<;>decide
  exact CV H.term rfl (M7 (Tm.bin o (a.rn (a6 nm sd)) (b.rn (a6 nm sd)))) (EY (G7 rfl (cK o2)) (EY (G7 rfl (cK o1)) (CP (G6 (BR rfl (BR (BX ea rfl) (BR (BX eb rfl) rfl))) (di rfl)))))
theorem pU(H:qN ab)(h4:nm.length=4)(hs:0<=sd)(hk:k∈univ nm):CG W ab (n+2) "_law_flow_else" [.lst (nm.map .str),.int sd,fD k] m=some (fD (i0 (a6 nm sd) k),m):=by
 obtain⟨y,hy,h⟩:=List.mem_flatMap.mp hk;have e1:=dO (W:=W) (n:=n) (m:=m) H h4 hs hy;rcases cz h with h | h
 .have:∃j:Int,k=(y,MJ,.inl j):=by
   simp only[List.mem_cons,List.not_mem_nil,or_false]at h;rcases h with h | h | h<;>exact⟨_,h⟩
  obtain⟨j,rfl⟩:=this;exact CV H.HA rfl rfl (qU rfl rfl (EY (G7 (p:=("page":Str)="name") rfl (cK (by decide))) (CP (G6 (BR (BX e1 rfl) (BR rfl rfl)) (di rfl)))))
 .obtain⟨x,hx,rfl⟩:=cw h
  have e2:=dO (W:=W) (n:=n) (m:=m) H h4 hs hx;exact CV H.HA rfl rfl (qU rfl rfl (JG (J5 (p:=("name":Str)="name") rfl rfl) (CJ (G6 (BR rfl (BR (BX e2 rfl) rfl)) (di rfl)) rfl) (CP (G6 (BR (BX e1 rfl) (BR rfl rfl)) (di rfl)))))
theorem U8(H:HasW ab)(du:nm.length<64)(ht:t.Ok (·∈nm))(hd:t.dep<=8)(hW:1000<W):∃ts:List Str,j1 ts t.names/\ts.length<64/\CG W ab (n+3) "names_in_term" [dT t] m=some (.tup (ts.map .str),m):=by
 have hw:=jG t;have h2:2 ^ (t.dep+1)<=2 ^ 9:=Nat.pow_le_pow_right (by lia) (by lia);have h3:(2:Nat) ^ 9=512:=by decide
 obtain⟨ks,q1,q2,q3⟩:=VN (W:=W) (n:=n) (m0:=m) H.parts H.names du (ps:=[.tm t]) (by simp only[MK,Pt.w];lia) (by simp only[MK,Pt.w];lia) (λp hp x hx=>by
  rw[eR hp]at hx;exact ht.names x hx)
 have hk:∀x,x∈ks↔x∈t.names:=λx=>by rw[q2];simp[Pt.N]
 refine⟨CN ks,λx=>?_,?_,?_⟩
 .rw[<-hk];exact(fb ks FQ).mem_iff
 .rw[show (CN ks).length=ks.length from (fb ks FQ).length_eq]
  exact ri (q1.length_le_of_subset λx hx=>ht.names x ((hk x).mp hx)) du
 .have dA:D.clean.cy ((CN ks).map .str)=true:=by
   generalize CN ks=l
   induction l with
   | nil=>rfl
   | cons a r ih=>simp[ih]
  refine CV H.term rfl dA ?_;simp only[cn,List.map_nil,dP]at q3;exact CP (BX q3 rfl)
def t6(W:Nat)(ab:String->Option Fn)(nm:List Str)(n:Nat)(b:Bl Str):Prop:=∀(cs:List Str) (ks:List FK) (m:Mem) (i:Nat),m[i]?=some (.fd ks)->ks.Nodup->(∀k∈ks,k∈univ nm)->(∀y∈cs,y∈nm)->cs.length+64*b.dep<=5000->∃bj,bj.Nodup/\(∀k,k∈bj↔k∈ks\/k∈dk cs b)/\CG W ab n "gather_flows" [.tup (dB b),.tup (cs.map .str),.ao i] m=some (.au,m.set i (.fd bj))
def GSub(W:Nat)(ab:String->Option Fn)(nm:List Str)(n:Nat):Dd Str->Prop
 | .put _ _=>True
 | .cv _ _=>True
 | .ite _ b c=>t6 W ab nm n b/\t6 W ab nm n c
 | .bo _ b=>t6 W ab nm n b
noncomputable def Bj:bg:=zm TF
noncomputable def sG(eI cs:D)(i:Nat)(x3 x4 x5:Option D):DS:=[some eI,some cs,some (.ao i),x3,x4,x5]
theorem Qo(H:HasW ab)(du:nm.length<64)(hU:(univ nm).length<10000)(hW:1000<W){d:Dd Str}(ho:d.Ok (·∈nm))(hd:d.dep<=8)(jl:GSub W ab nm (n+3) d){eI:D}{cs:List Str}{ks:List FK}{i:Nat}(hm:m[i]?=some (.fd ks))(cE:ks.Nodup)(hs:∀k∈ks,k∈univ nm)(hc:∀y∈cs,y∈nm)(hl:cs.length+64*d.dep<=5000)(x4 x5:Option D):∃bj y4 y5,bj.Nodup/\(∀k,k∈bj↔k∈ks\/k∈h9 cs d)/\aI (CG W ab (n+3)) W Bj (sG eI (.tup (cs.map .str)) i (some (dD d)) x4 x5) m=some (.nx (sG eI (.tup (cs.map .str)) i (some (dD d)) y4 y5),m.set i (.fd bj)):=by
 have hi:=(List.getElem?_eq_some_iff.mp hm).1;cases d with
 | put x e=>
  simp only[Dd.dep]at hd hl;obtain⟨ts,t1,t2,t3⟩:=U8 (W:=W) (n:=n) (m:=m) H du ho.2 hd hW;have km:∀y∈cs++ts,y∈nm:=λy hy=>(cz hy).elim (hc y) λh=>ho.2.names y ((t1 y).mp h)
  have ea:=Bg (W:=W) (n:=n+2) H hU (kd:=J2) (z:=.inr x) (cs:=cs++ts) hm cE hs (λy hy=>gA (km y hy) ho.1);refine⟨Q7 J2 (.inr x) ks (cs++ts),some (.str "put"),x5,XC cE,λk=>?_,?_⟩
  .rw[vS]
   simp only[h9];rw[U4 ((show j1 cs cs from λ_=>Iff.rfl).app t1)]
  .have hb:(cs.map D.str).length+(ts.map D.str).length<=10000:=by simp;lia
   rw[dt]at ea;simp only[J2,dE]at ea;exact CJ rfl (HY (G7 (p:=("put":Str)="if") rfl (cK (by decide))) (HY (G7 (p:=("put":Str)="while") rfl (cK (by decide))) (JG (J5 (p:=("put":Str)="put") rfl rfl) (HX (BX ea (BR (FJ rfl (BX t3 rfl) (KR hb)) rfl)) rfl) rfl) rfl) rfl)
 | cv j e=>
  simp only[Dd.dep]at hd hl;obtain⟨ts,t1,t2,t3⟩:=U8 (W:=W) (n:=n) (m:=m) H du ho.2 hd hW;have km:∀y∈cs++ts,y∈nm:=λy hy=>(cz hy).elim (hc y) λh=>ho.2.names y ((t1 y).mp h)
  have ea:=Bg (W:=W) (n:=n+2) H hU (kd:=MJ) (z:=.inl j) (cs:=cs++ts) hm cE hs (λy hy=>QJ (km y hy) ho.1);refine⟨Q7 MJ (.inl j) ks (cs++ts),some (.str "show"),x5,XC cE,λk=>?_,?_⟩
  .rw[vS]
   simp only[h9];rw[U4 ((show j1 cs cs from λ_=>Iff.rfl).app t1)]
  .have hb:(cs.map D.str).length+(ts.map D.str).length<=10000:=by simp;lia
   rw[dt]at ea;simp only[MJ,dE]at ea;exact CJ rfl (HY (G7 (p:=("show":Str)="if") rfl (cK (by decide))) (HY (G7 (p:=("show":Str)="while") rfl (cK (by decide))) (HY (G7 (p:=("show":Str)="put") rfl (cK (by decide))) (HX (BX ea (BR (FJ rfl (BX t3 rfl) (KR hb)) rfl)) rfl) rfl) rfl) rfl)
 | bo e b=>
  simp only[Dd.dep]at hd hl;obtain⟨ts,t1,t2,t3⟩:=U8 (W:=W) (n:=n) (m:=m) H du ho.1 (by lia) hW;have km:∀y∈cs++ts,y∈nm:=λy hy=>(cz hy).elim (hc y) λh=>ho.1.names y ((t1 y).mp h)
  have ea:=Bg (W:=W) (n:=n+2) H hU (kd:=MJ) (z:=.inl 0) (cs:=cs++ts) hm cE hs (λy hy=>QJ (km y hy) (by lia));obtain⟨sM,q1,q2,q3⟩:=jl cs (Q7 MJ (.inl 0) ks (cs++ts)) (m.set i (.fd (Q7 MJ (.inl 0) ks (cs++ts)))) i (List.getElem?_set_self hi) (XC cE) (λk hk=>(vS.mp hk).elim (hs k) λh=>by
    obtain⟨y,hy,rfl⟩:=cw h;exact QJ (km y hy) (by lia)) hc (by lia)
  rw[List.set_set]at q3;refine⟨sM,some (.str "while"),x5,q1,λk=>?_,?_⟩
  .rw[q2,vS]
   simp only[h9,List.mem_append];rw[U4 ((show j1 cs cs from λ_=>Iff.rfl).app t1)];exact or_assoc
  .have hb:(cs.map D.str).length+(ts.map D.str).length<=10000:=by simp;lia
   rw[dt]at ea;simp only[MJ,dE]at ea q3;exact CJ rfl (HY (G7 (p:=("while":Str)="if") rfl (cK (by decide))) (JG (J5 (p:=("while":Str)="while") rfl rfl) (HX (BX ea (BR (FJ rfl (BX t3 rfl) (KR hb)) rfl)) (HX (BX q3 rfl) rfl)) rfl) rfl)
 | ite e b c=>
  simp only[Dd.dep]at hd hl;obtain⟨ts,t1,t2,t3⟩:=U8 (W:=W) (n:=n) (m:=m) H du ho.1 (by lia) hW;have km:∀y∈cs++ts,y∈nm:=λy hy=>(cz hy).elim (hc y) λh=>ho.1.names y ((t1 y).mp h)
  have heq:j1 (cs++ts) (cs++e.names):=(show j1 cs cs from λ_=>Iff.rfl).app t1;obtain⟨k1,a1,a2,a3⟩:=jl.1 (cs++ts) ks m i hm cE hs km (by rw[gc];lia);obtain⟨k2,b1,b2,b3⟩:=jl.2 (cs++ts) k1 (m.set i (.fd k1)) i (List.getElem?_set_self hi) a1 (λk hk=>((a2 k).mp hk).elim (hs k) λh=>JX ho.2.1 km k h) km (by rw[gc];lia);rw[List.set_set]at b3;refine⟨k2,some (.str "if"),some (.tup (cs.map .str++ts.map .str)),b1,λk=>?_,?_⟩
  .rw[b2,a2,d8 heq k,d8 heq k]
   simp only[h9,List.mem_append];exact or_assoc
  .have hb:(cs.map D.str).length+(ts.map D.str).length<=10000:=by simp;lia
   rw[dt]at a3 b3;exact CJ rfl (JG (J5 (p:=("if":Str)="if") rfl rfl) (CJ (FJ rfl (BX t3 rfl) (KR hb)) (HX (BX a3 rfl) (HX (BX b3 rfl) rfl))) rfl)
noncomputable def yP(cs:List Str):List (Dd Str)->List FK
 | []=>[]
 | d::r=>h9 cs d++yP cs r
theorem vK(cs:List Str):∀b:Bl Str,yP cs b.list=dk cs b
 | .nil=>by simp only[dk];rfl
 | .cons d b=>by simp only[Bl.list,yP,dk,vK cs b]
theorem E7(H:HasW ab){nm:List Str}(du:nm.length<64)(hU:(univ nm).length<10000)(hW:1000<W){eI:D}{cs:List Str}(hc:∀y∈cs,y∈nm){i:Nat}{ys:List D}{D0:Nat}(hD:D0<=8)(hl:cs.length+64*D0<=5000):∀(ds:List (Dd Str)) (ks:List FK) (m:Mem) (x3 x4 x5:Option D),(∀d∈ds,d.Ok (·∈nm)/\d.dep<=D0/\GSub W ab nm (n+3) d)->m[i]?=some (.fd ks)->ks.Nodup->(∀k∈ks,k∈univ nm)->∃bj y3 y4 y5,bj.Nodup/\(∀k,k∈bj↔k∈ks\/k∈yP cs ds)/\forL ⟨ys,none⟩ (.nm 3) (λ σ m=>aI (CG W ab (n+3)) W Bj σ m) (ds.map dD) (sG eI (.tup (cs.map .str)) i x3 x4 x5) m=some (.nx (sG eI (.tup (cs.map .str)) i y3 y4 y5),m.set i (.fd bj))
 | [],ks,m,x3,x4,x5,_,hm,cE,_=>by
  have:m.set i (.fd ks)=m:=List.ext_getElem? λj=>by
   by_cases hj:i=j
   .subst hj
    rw[List.getElem?_set_self (List.getElem?_eq_some_iff.mp hm).1,hm]
   .rw[List.getElem?_set_ne hj]
  exact⟨ks,x3,x4,x5,cE,λk=>by simp[yP],by simp[forL,Walk.ok,this]⟩
 | d::r,ks,m,x3,x4,x5,hd,hm,cE,hs=>by
  have hi:=(List.getElem?_eq_some_iff.mp hm).1;obtain⟨d1,d2,d3⟩:=hd d b0;obtain⟨k1,z4,z5,a1,a2,a3⟩:=Qo (W:=W) (n:=n) H du hU hW d1 (by lia) d3 (eI:=eI) (cs:=cs) hm cE hs hc (by lia) x4 x5;obtain⟨k2,y3,y4,y5,b1,b2,b3⟩:=E7 H du hU hW (eI:=eI) hc (ys:=ys) hD hl r k1 (m.set i (.fd k1)) (some (dD d)) z4 z5 (λe he=>hd e (b7 _ he)) (List.getElem?_set_self hi) a1 (λk hk=>((a2 k).mp hk).elim (hs k) λh=>vL d1 hc k h);rw[List.set_set]at b3;refine⟨k2,y3,y4,y5,b1,λk=>by rw[b2,a2];simp only[yP,List.mem_append];exact or_assoc,?_⟩;have hb:JQ (.nm 3) (dD d) (sG eI (.tup (cs.map .str)) i x3 x4 x5)=some (sG eI (.tup (cs.map .str)) i (some (dD d)) x4 x5):=rfl;rw[cn,forL,ag (show Walk.ok ⟨ys,none⟩ m=true from rfl),hb,bu,a3,bu];exact b3
theorem LM(H:HasW ab)(du:nm.length<64)(hU:(univ nm).length<10000)(hW:1000<W):∀(K n:Nat) (b:Bl Str),K+3<=n->K<=8->b.Ok (·∈nm)->b.dep<=K->t6 W ab nm (n+1) b:=by
 have key:∀(K n:Nat),K+3<=n->K<=8->(∀b:Bl Str,b.Ok (·∈nm)->b.dep<K->t6 W ab nm n b)->∀b:Bl Str,b.Ok (·∈nm)->b.dep<=K->t6 W ab nm (n+1) b:=by
  intro K n hn h8 ih b ho hd cs ks m i hm cE hs hc hl;obtain⟨n,rfl⟩:∃j,n=j+3:=⟨n-3,by lia⟩
  obtain⟨bj,y3,y4,y5,a1,a2,a3⟩:=E7 (W:=W) (n:=n) H du hU hW (eI:=.tup (dB b)) (cs:=cs) hc (i:=i) (ys:=dB b) (D0:=b.dep) (by lia) hl b.list ks m none none none (λd d6=>by
   have kn:=ho.mem d d6;have iy:=Bl.wa d6;refine⟨kn,iy,?_⟩;cases d with
   | put x e=>exact trivial
   | cv j e=>exact trivial
   | ite e c df=>
    simp only[Dd.dep]at iy;exact⟨ih c kn.2.1 (by lia),ih df kn.2.2 (by lia)⟩
   | bo e c=>
    simp only[Dd.dep]at iy;exact ih c kn.2 (by lia)) hm cE hs
  rw[vK,<-JC]at *;refine⟨bj,a1,a2,?_⟩;rw[O8 H.gather rfl];have E:aI (CG W ab (n+3)) W vv.body ([D.tup (dB b),.tup (cs.map .str),.ao i].map some++List.replicate (vv.ns-vv.ps) none) m=some (.nx (sG (.tup (dB b)) (.tup (cs.map .str)) i y3 y4 y5),m.set i (.fd bj)):=QZ (b:=Bj) (w:=⟨dB b,none⟩) rfl a3 rfl;rw[E];show some (D.au,List.take m.length (m.set i _))=_;rw[rV (by simp)]
 intro K
 induction K with
 | zero=>exact λn b hn h8=>key 0 n hn h8 (λb _ h=>absurd h (oC _)) b
 | succ K ih=>
  intro n b hn h8;obtain⟨mT,rfl⟩:∃mT,n=mT+1:=⟨n-1,by lia⟩
  exact key (K+1) (mT+1) hn h8 (λc ho hd=>ih mT c (by lia) (by lia) ho (by lia)) b
section
theorem LL(k:FK):(fD k).clean=true:=by
 obtain⟨a,b,c | c⟩:=k<;>rfl
theorem yZ(l:List FK):D.clean.cy (l.map fD)=true:=by
 induction l with
 | nil=>rfl
 | cons a r ih=>simp[LL,ih]
theorem aV(H:HasW ab)(h4:nm.length=4)(hW:1000<W)(ho:p.Ok (·∈nm))(hd:p.dep<=8):∃ks:List FK,ks.Nodup/\(∀k,k∈ks↔k∈dk [] p)/\ks.length<=28/\CG W ab (n+13) "flows" [.tup (dB p)] m=some (.tup ((G8 ks).map fD),m):=by
 have hU:=KL h4;obtain⟨ks,a1,a2,a3⟩:=LM (W:=W) H (nm:=nm) (by lia) (by lia) hW 8 (n+11) p (by lia) (by lia) ho hd [] [] (m++[.fd []]) m.length (by simp) mq (by simp) (by simp) (by simp;lia);have hk:∀k,k∈ks↔k∈dk [] p:=λk=>by rw[a2];simp
 have jl:∀k∈ks,k∈univ nm:=λk h=>JX ho (by simp) k ((hk k).mp h)
 have hl:ks.length<=28:=by rw[<-hU];exact a1.length_le_of_subset jl
 have aS:ks.all PB=true:=List.all_eq_true.mpr λk h=>W5 k (jl k h)
 refine⟨ks,a1,hk,hl,?_⟩;have hs:de (.D2 false) (.ao m.length) (m++[.fd ks])=some (.lst ((G8 ks).map fD),m++[.fd ks]):=by
  show (match (m++[MO.fd ks])[m.length]? with
   | some (.fd qs)=>if qs.length<64/\qs.all PB=true then some (bw false ((G8 qs).map fD) (m++[MO.fd ks])) else none
   | _=>none)=_
  rw[show (m++[MO.fd ks])[m.length]?=some (.fd ks) by simp];show (if ks.length<64/\ks.all PB=true then some (bw false ((G8 ks).map fD) (m++[MO.fd ks])) else none)=_;rw[ag ⟨by lia,aS⟩];rfl
 have Wb:(m++[MO.fd []]).set m.length (.fd ks)=m++[.fd ks]:=by simp
 rw[Wb]at a3;have Tb:CG W ab (n+12) "gather_flows" [.tup (dB p),.tup [],.ao m.length] (m++[.fd []])=some (.au,m++[.fd ks]):=a3;have dA:=yZ (G8 ks);exact K8 (q:=[.fd ks]) (n:=n+12) H.TZ rfl dA (CJ (d:=.ao m.length) (m1:=m++[.fd []]) rfl (HX (BX Tb rfl) (CP (GC (GC rfl hs) rfl))))
variable{l:Int}
theorem Oy(H:Bw ab)(hS:eC nm hk g)(aS:PB k=true):CG W ab (n+1) "level_of" [.tup [.str k.2.1,dE k.2.2],bz hk g] m=some (.int (pS g k),m):=by
 obtain⟨a,kd,x | x⟩:=k
 .have:kd=Str.ofString "page":=f7 aS
  subst this;refine CV H.level rfl rfl ?_;exact FZ (J5 (p:=("page":Str)="page") rfl rfl) (CP rfl)
 .have eL:¬kd=Str.ofString "page":=by simpa[PB] using aS
  refine CV H.level rfl rfl ?_;have hg:=lK (C:=CG W ab n) (m:=m) hS (d:=.var 1) (k:=.ix (.var 0) (.con (.int 1))) (z:=.con (.int 0)) (σ:=[some (.tup [.str kd,.str x]),some (bz hk g)]) (x:=x) rfl rfl rfl;exact EY (G7 rfl eL) (CP hg)
theorem Fq(H:Bw ab)(h4:nm.length=4)(hW:1000<W)(hS:eC nm hk g)(ho:p.Ok (·∈nm))(hd:p.dep<=8):∃v:Bool,(v=true->∀k∈dk [] p,g k.1<=pS g k)/\(v=false->∃k∈dk [] p,¬g k.1<=pS g k)/\CG W ab (n+14) "lets" [.tup (dB p),.tup (DK hk g)] m=some (.bl v,m):=by
 obtain⟨ks,a1,a2,a3,a4⟩:=aV (W:=W) (n:=n) (m:=m) H.toHasW h4 hW ho hd;have mP:∀k,k∈G8 ks↔k∈dk [] p:=λk=>by rw[<-a2];exact(fb ks _).mem_iff
 have aS:∀k∈G8 ks,PB k=true:=λk hk=>W5 k (JX ho (by simp) k ((mP k).mp hk))
 refine⟨(G8 ks).all λk=>decide (g k.1<=pS g k),λh k hk=>f7 (k6 h k ((mP k).mpr hk)),λh=>?_,?_⟩
 .have:=List.all_eq_false.mp h
  obtain⟨k,hk,hn⟩:=this;exact⟨k,(mP k).mp hk,by simpa using hn⟩
 have xf:hk.length<=1000:=eJ (hS.nd.length_le_of_subset λx hx=>hS.sub x hx) (by lia);have Cs:=aQ (f:=g) hS.nd xf false m;refine CV (n:=n+13) H.lets rfl rfl ?_;have CM:(G8 ks).length<=1000:=by rw[show (G8 ks).length=ks.length from (fb ks _).length_eq];lia
 have comp:ev (CG W ab (n+13)) (.comp false 2 (.tp [(.nm 3),(.nm 4)]) (.seq (.call "flows" (.cons (.var 0) .nil))) .tt (.cmp .le (.get (.var 2) (.var 3) (.con (.int 0))) (.call "level_of" (.cons (.var 4) (.cons (.var 2) .nil))))) [some (.tup (dB p)),some (.tup (DK hk g)),some (bz hk g)] m=some (.lst ((G8 ks).map λk=>.bl (decide (g k.1<=pS g k))),m):=by
  rw[JW (xs:=G8 ks) (dd:=fD) (h:=λk=>some (.bl (decide (g k.1<=pS g k)))) rfl (aP (BX a4 rfl)) CM]
  .rw[ki]
  .intro k ic
   refine⟨[some (.tup (dB p)),some (.tup (DK hk g)),some (bz hk g),some (.str k.1),some (.tup [.str k.2.1,dE k.2.2])],true,rfl,rfl,?_⟩;rw[ag rfl];refine⟨rfl,?_⟩;have hg:=lK (C:=CG W ab (n+13)) (m:=m) hS (d:=.var 2) (k:=.var 3) (z:=.con (.int 0)) (σ:=[some (.tup (dB p)),some (.tup (DK hk g)),some (bz hk g),some (.str k.1),some (.tup [.str k.2.1,dE k.2.2])]) (x:=k.1) rfl rfl rfl;have Vs:=Oy (W:=W) (n:=n+12) (m:=m) H hS (aS k ic);exact HJ hg (BX Vs rfl) rfl
 have ha:=wJ (λk:FK=>decide (g k.1<=pS g k)) (G8 ks) m;have UR:de (.dict false) (.tup (DK hk g)) m=some (bz hk g,m):=Cs;exact CJ (GC rfl UR) (CP (GC comp ha))
end
theorem sV:∀l:List FK,T6 (l.map fD)=some l
 | []=>rfl
 | k::r=>by
  show ((nI (fD k)).bind λk=>(T6 (r.map fD)).map λks=>k::ks)=_;rw[Fb,sV r];rfl
theorem aJ(ks:List FK):(G8 ks).length=ks.length/\∀k,k∈G8 ks↔k∈ks:=⟨(fb ks _).length_eq,λk=>(fb ks _).mem_iff⟩
theorem La{a b:List FK}(h:a.Perm b):G8 a=G8 b:=
 List.Perm.eq_of_pairwise (le:=λa b=>VJ a b=true) (λa b _ _ h1 h2=>p8 h1 h2) (bH a) (bH b) ((O9 a).trans (h.trans (O9 b).symm))
theorem Qv{l:List D}(h:l.all (b6 58)=true):R7 (.lst l) (.lst l)=some true:=by
 obtain⟨p,e1,e2,e3⟩:=FX (k:=59) (d:=.tup l) h;obtain⟨ps,q1,rfl⟩:=cj (show (cG l).map PyData.tuple=some p from e1);have e5:nX (.lst l)=some (.list ps):=by
  show (cG l).map PyData.list=_;rw[q1];rfl
 have l2:(PyData.list ps).canLay0=true:=by simpa[PyData.canLay0] using e2
 have aaR:(PyData.list ps).depth<=60:=by simp only[PyData.depth]at e3 ⊢;lia
 unfold R7;rw[e5,bu,bu,ag (by simp[l2];lia),SeqAt.eqv_refl _ l2]
theorem LD(hn:∀x∈nm,(PyData.str x).canLay0=true){l:List FK}(hs:∀k∈l,k∈univ nm):kH (.lst (l.map fD)) (.lst (l.map fD))=some true:=by
 show R7 _ _=_;refine Qv (List.all_eq_true.mpr λd hd=>?_);obtain⟨k,hk,rfl⟩:=cw hd;have hp:(PyData.str MJ).canLay0=true:=by decide +kernel
 have hq:(PyData.str J2).canLay0=true:=by decide +kernel
 obtain⟨y,hy,h⟩:=List.mem_flatMap.mp (hs k hk);have one:∀(kd:Str) (z:Key),(PyData.str kd).canLay0=true->b6 56 (dE z)=true->b6 58 (fD (y,kd,z))=true:=λkd z h1 h2=>by
  show (b6 57 (.str y)&&((b6 56 (.str kd)&&(b6 56 (dE z)&&true))&&true))=true;rw[show b6 57 (.str y)=(PyData.str y).canLay0 from rfl,show b6 56 (.str kd)=(PyData.str kd).canLay0 from rfl,hn y hy,h1,h2];rfl
 rcases cz h with h | h
 .simp only[List.mem_cons,List.not_mem_nil,or_false]at h
  rcases h with rfl | rfl | rfl<;>exact one _ _ hp rfl
 .obtain⟨x,hx,rfl⟩:=cw h
  exact one _ _ hq (hn x hx)
noncomputable def Gh:bg:=ub (KY 1 V8)
noncomputable def sB(b:Nat)(nm:List Str)(sd:Int)(eI:D)(x4 x5:Option D):DS:=[some (.lst (nm.map .str)),some (.int sd),some eI,some (.ao b),x4,x5]
noncomputable def mB(m0:Mem)(acc:List (Dd Str)):Mem:=m0++[MO.lst (acc.map dD)]
theorem xF:(mB m0 acc)[m0.length]?=some (.lst (acc.map dD)):=by simp[mB]
theorem Au{acc:List (Dd Str)}{d:Dd Str}:(mB m0 acc).set m0.length (.lst (acc.map dD++[dD d]))=mB m0 (acc++[d]):=by simp[mB]
def tZ(W:Nat)(ab:String->Option Fn)(nm:List Str)(sd:Int)(n:Nat)(b:Bl Str):Prop:=∀m:Mem,CG W ab n "_law_block_else" [.lst (nm.map .str),.int sd,.tup (dB b)] m=some (.tup (dB (b.rn (a6 nm sd))),m)
def jC(W:Nat)(ab:String->Option Fn)(nm:List Str)(sd:Int)(n:Nat):Dd Str->Prop
 | .put _ e=>e.dep+1<n
 | .cv _ e=>e.dep+1<n
 | .ite e b c=>e.dep+1<n/\tZ W ab nm sd n b/\tZ W ab nm sd n c
 | .bo e b=>e.dep+1<n/\tZ W ab nm sd n b
theorem OF(H:qN ab)(h4:nm.length=4)(hs:0<=sd){acc:List (Dd Str)}{eI:D}{x5:Option D}{d:Dd Str}(ho:d.Ok (·∈nm))(hb:jC W ab nm sd n d)(ha:acc.length<100000):∃y5,aI (CG W ab n) W Gh (sB m0.length nm sd eI (some (dD d)) x5) (mB m0 acc)=some (.nx (sB m0.length nm sd eI (some (dD d)) y5),mB m0 (acc++[d.rn (a6 nm sd)])):=by
 have hl:(acc.map dD).length<100000:=by rw[a8];exact ha
 have dA:∀e:Dd Str,(dD e).clean=true:=Q5;have comp:∀(bs:List (Bl Str)) (d:D),ng d (some 2) none=some (.tup (bs.map λb=>.tup (dB b)))->(∀b∈bs,tZ W ab nm sd n b)->bs.length<=2->
   ev (CG W ab n) (.b1 .tuple (.comp false 1 (.nm 6) (.seq (.sl (.var 4) (.pt (.con (.int 2))) .no)) .tt (.call "_law_block_else" (.cons (.var 0) (.cons (.var 1) (.cons (.var 6) .nil)))))) (sB m0.length nm sd eI (some d) x5) (mB m0 acc)=some (.tup (bs.map λb=>.tup (dB (b.rn (a6 nm sd)))),mB m0 acc):=by
  intro bs d o5 Cp hlen;refine GC (JW (xs:=bs) (dd:=λb=>.tup (dB b)) (h:=λb=>some (.tup (dB (b.rn (a6 nm sd))))) rfl ?_ (by lia) λb gu=>?_) ?_
  .have e:=iJ (C:=CG W ab n) (e:=.var 4) (lo:=.pt (.con (.int 2))) (hi:=.no) (σ:=sB m0.length nm sd eI (some d) x5) (m:=mB m0 acc) (x:=d) rfl rfl rfl o5
   show (ev _ _ _ _).bind _=_;rw[e];rfl
  .exact⟨[some (.lst (nm.map .str)),some (.int sd),some eI,some (.ao m0.length),some d,x5,some (.tup (dB b))],true,rfl,rfl,by rw[ag rfl];exact⟨rfl,BX (Cp b gu _) rfl⟩⟩
  .rw[ki];rfl
 cases d with
 | put x e=>
  obtain⟨n,rfl⟩:∃k,n=k+1:=⟨n-1,by have:=hb;simp only[jC]at this;lia⟩
  have e1:=dO (W:=W) (n:=n) (m:=mB m0 acc) H h4 hs ho.1;have e2:=K9 (W:=W) (m:=mB m0 acc) H h4 hs ho.2 hb;exact⟨x5,JG (J5 (p:=("put":Str)="put") rfl rfl) (HX (QF rfl (G6 (BR rfl (BR (BX e1 rfl) (BR (BX e2 rfl) rfl))) (di rfl)) xF (dA (.put _ _)) hl) (N7 (Au (d:=(Dd.put x e).rn (a6 nm sd))))) rfl⟩
 | cv k e=>
  have e2:=K9 (W:=W) (m:=mB m0 acc) H h4 hs ho.2 hb;exact⟨x5,HY (G7 (p:=("show":Str)="put") rfl (cK (by decide))) (JG (J5 (p:=("show":Str)="show") rfl rfl) (HX (QF rfl (G6 (BR rfl (BR rfl (BR (BX e2 rfl) rfl))) (di rfl)) xF (dA (.cv _ _)) hl) (N7 (Au (d:=(Dd.cv k e).rn (a6 nm sd))))) rfl) rfl⟩
 | ite e b c=>
  have e2:=K9 (W:=W) (m:=mB m0 acc) H h4 hs ho.1 hb.1;have e3:=comp [b,c] (dD (.ite e b c)) rfl (λz hz=>by
   rcases ck hz with rfl | hz
   .exact hb.2.1
   .rw[eR hz];exact hb.2.2) (a0 _)
  exact⟨_,HY (G7 (p:=("if":Str)="put") rfl (cK (by decide))) (HY (G7 (p:=("if":Str)="show") rfl (cK (by decide))) (CJ e3 (HX (QF rfl (FJ (G6 (BR rfl (BR (BX e2 rfl) rfl)) (di rfl)) rfl (KR (di rfl))) xF (dA (.ite _ _ _)) hl) (N7 (Au (d:=(Dd.ite e b c).rn (a6 nm sd)))))) rfl) rfl⟩
 | bo e b=>
  have e2:=K9 (W:=W) (m:=mB m0 acc) H h4 hs ho.1 hb.1;have e3:=comp [b] (dD (.bo e b)) rfl (λz hz=>by rw[eR hz];exact hb.2) (di rfl);exact⟨_,HY (G7 (p:=("while":Str)="put") rfl (cK (by decide))) (HY (G7 (p:=("while":Str)="show") rfl (cK (by decide))) (CJ e3 (HX (QF rfl (FJ (G6 (BR rfl (BR (BX e2 rfl) rfl)) (di rfl)) rfl (KR (di rfl))) xF (dA (.bo _ _)) hl) (N7 (Au (d:=(Dd.bo e b).rn (a6 nm sd)))))) rfl) rfl⟩
theorem wH(H:qN ab)(h4:nm.length=4)(hs:0<=sd){m0:Mem}{eI:D}{ys:List D}:∀(ds acc:List (Dd Str)) (x4 x5:Option D),(∀d∈ds,d.Ok (·∈nm)/\jC W ab nm sd n d)->acc.length+ds.length<100000->∃y4 y5,forL ⟨ys,none⟩ (.nm 4) (λ σ m=>aI (CG W ab n) W Gh σ m) (ds.map dD) (sB m0.length nm sd eI x4 x5) (mB m0 acc)=some (.nx (sB m0.length nm sd eI y4 y5),mB m0 (acc++ds.map (Dd.rn (a6 nm sd))))
 | [],acc,x4,x5,_,_=>⟨x4,x5,by simp[forL,Walk.ok]⟩
 | d::r,acc,x4,x5,hd,hl=>by
  rw[kg]at hl;obtain⟨d1,d2⟩:=hd d b0;obtain⟨z5,a⟩:=OF (W:=W) (n:=n) H h4 hs (m0:=m0) (acc:=acc) (eI:=eI) (x5:=x5) d1 d2 (by lia);obtain⟨y4,y5,b⟩:=wH H h4 hs (m0:=m0) (eI:=eI) (ys:=ys) r (acc++[d.rn (a6 nm sd)]) (some (dD d)) z5 (λe he=>hd e (b7 _ he)) (by rw[gc];simp;lia);refine⟨y4,y5,?_⟩;rw[wm]at b;exact IW (w:=⟨ys,none⟩) (g:=.nm 4) (σ:=sB m0.length nm sd eI x4 x5) (σ1:=sB m0.length nm sd eI (some (dD d)) x5) rfl rfl a b
theorem X5(H:qN ab)(h4:nm.length=4)(hs:0<=sd):∀(K n:Nat) (b:Bl Str),K+1<n->b.Ok (·∈nm)->b.dep<=K->b.size<=1000->tZ W ab nm sd (n+1) b:=by
 have key:∀(K n:Nat),K+1<n->(∀b:Bl Str,b.Ok (·∈nm)->b.dep<K->b.size<=1000->tZ W ab nm sd n b)->∀b:Bl Str,b.Ok (·∈nm)->b.dep<=K->b.size<=1000->tZ W ab nm sd (n+1) b:=by
  intro K n hn ih b ho hd hz m;have jl:∀d∈b.list,d.Ok (·∈nm)/\jC W ab nm sd n d:=λd d6=>by
   have iy:=eJ (Bl.wa d6) hd;have kn:=ho.mem d d6;have qk:=Gi d6;refine⟨kn,?_⟩;cases d with
   | put x e=>simp only[Dd.dep]at iy;simp only[jC];omega
   | cv k e=>simp only[Dd.dep]at iy;simp only[jC];omega
   | ite e c df=>
    simp only[Dd.dep,Dd.size]at iy qk;exact⟨by lia,ih c kn.2.1 (by lia) (by lia),ih df kn.2.2 (by lia) (by lia)⟩
   | bo e c=>
    simp only[Dd.dep,Dd.size]at iy qk;exact⟨by lia,ih c kn.2 (by lia) (by lia)⟩
  have CO:=Fu b;obtain⟨y4,y5,a⟩:=wH (W:=W) (n:=n) H h4 hs (m0:=m) (eI:=.tup (dB b)) (ys:=dB b) b.list [] none none jl (by simp;lia);rw[List.nil_append,<-JC]at a;refine K8 (q:=[.lst ((b.list.map (Dd.rn (a6 nm sd))).map dD)]) H.block rfl (O7 _) ?_;refine CJ (d:=.ao m.length) (m1:=mB m []) rfl (QZ (w:=⟨dB b,none⟩) rfl a (CP (GC (d:=.ao m.length) rfl ?_)));show (match (mB m (b.list.map (Dd.rn (a6 nm sd))))[m.length]? with | some (.lst xs)=>some xs | _=>none).map _=_;rw[xF,JC,Bl.u7];rfl
 intro K
 induction K with
 | zero=>exact λn b hn ho=>key 0 n hn (λb _ h=>absurd h (oC _)) b ho
 | succ K ih=>
  intro n b hn ho;refine key (K+1) n hn (λc hc h1 h2=>?_) b ho;have:=ih (n-1) c (by lia) hc (by lia) h2;rw[show n-1+1=n from by lia]at this;exact this
structure fB(ab:String->Option Fn):Prop where
 settled:ab "settled" = some jA
 targets:ab "targets_by_name" = some QB
 XZ:ab "names_reached" = some vw
 trail:ab "trail_down" = some Y0
 below:ab "is_below" = some fK
 way:ab "way_to" = some qO
noncomputable def gN(t:Str×Key):D:=.tup [.str t.1,dE t.2]
noncomputable def KH(ks:List FK)(a:Str):List (Str×Key):=(ks.filter λk=>decide (k.1=a)).map (·.2)
theorem oi{ks:List FK}:t∈KH ks a↔(a,t)∈ks:=by
 unfold KH;rw[List.mem_map];constructor
 .rintro ⟨k,hk,rfl⟩
  obtain⟨h1,h2⟩:=j3 hk;have:=f7 h2;rw[<-this];exact h1
 .exact λh=>⟨(a,t),List.mem_filter.mpr ⟨h,dm rfl⟩,rfl⟩
structure GP(ks:List FK)(g:iO):Prop where
 nd:(g.map (·.1)).Nodup
 mem:∀a,a∈g.map (·.1)↔∃k∈ks,k.1=a
 ts:∀p∈g,p.2=KH ks p.1
theorem NM{ks:List FK}{g:iO}(G:GP ks g)(k:FK):GP (ks++[k]) (GQ g k):=by
 have AL:∀a,KH (ks++[k]) a=if k.1=a then KH ks a++[k.2] else KH ks a:=λa=>by
  unfold KH;rw[List.filter_append,dt]
  by_cases e:k.1=a
  .rw[ag e];simp[e]
  .rw[ak e];simp[e]
 have ib:g.any (λp=>decide (p.1=k.1))=true↔k.1∈g.map (·.1):=by
  rw[B6,List.mem_map];exact⟨λ⟨p,hp,e⟩=>⟨p,hp,f7 e⟩,λ⟨p,hp,e⟩=>⟨p,hp,dm e⟩⟩
 unfold GQ
 by_cases h:g.any (λp=>decide (p.1=k.1))=true
 .rw[ag h]
  have e1:(g.map λp=>if p.1=k.1 then (p.1,p.2++[k.2]) else p).map (·.1)=g.map (·.1):=by
   rw[bS];refine ke λp _=>?_
   show (if p.1=k.1 then (p.1,p.2++[k.2]) else p).1=p.1;split<;>rfl
  refine⟨by rw[e1];exact G.nd,λa=>?_,λp hp=>?_⟩
  .rw[e1,G.mem]
   constructor
   .rintro ⟨q,hq,e⟩;exact⟨q,iu _ hq,e⟩
   .rintro ⟨q,hq,e⟩
    rcases cz hq with hq | hq
    .exact⟨q,hq,e⟩
    .rw[eR hq]at e
     exact(G.mem a).mp (e▸ib.mp h)
  .obtain⟨q,hq,rfl⟩:=cw hp
   by_cases e:q.1=k.1
   .rw[ag e]
    show q.2++[k.2]=KH (ks++[k]) q.1;rw[AL,ag e.symm,G.ts q hq]
   .rw[ak e,AL,ak λz=>e z.symm,G.ts q hq]
 .rw[ak h]
  have hk:k.1∉g.map (·.1):=λz=>h (ib.mpr z)
  refine⟨?_,λa=>?_,λp hp=>?_⟩
  .rw[dt]
   refine List.nodup_append.mpr ⟨G.nd,by simp,λa ha b hb=>?_⟩;have:b=k.1:=by simpa using hb
   rw[this];exact λz=>hk (z▸ha)
  .rw[dt,List.mem_append,G.mem]
   constructor
   .rintro (⟨q,hq,e⟩ | z)
    .exact⟨q,iu _ hq,e⟩
    .have:a=k.1:=by simpa using z
     exact⟨k,hJ _ b0,this.symm⟩
   .rintro ⟨q,hq,e⟩
    rcases cz hq with hq | hq
    .exact .inl ⟨q,hq,e⟩
    .rw[eR hq]at e
     exact .inr (by simp[e])
  .rcases cz hp with hp | hp
   .rw[AL,ak λz=>hk (by rw[z];exact gh hp),G.ts p hp]
   .rw[eR hp]
    show [k.2]=KH (ks++[k]) k.1;have:KH ks k.1=[]:=by
     refine List.eq_nil_iff_forall_not_mem.mpr λt ht=>hk ((G.mem _).mpr ⟨_,oi.mp ht,rfl⟩)
    rw[AL,ag rfl,this];rfl
theorem E6:∀(r ks:List FK) (g:iO),GP ks g->GP (ks++r) (r.foldl GQ g)
 | [],ks,g,G=>by rw[ue];exact G
 | k::r,ks,g,G=>by
  have:=E6 r (ks++[k]) (GQ g k) (NM G k);rw[wm]at this;exact this
theorem R1(ks:List FK):GP ks (ks.foldl GQ []):=by
 have:=E6 ks [] [] ⟨mq,λa=>by simp,λp hp=>(nomatch hp)⟩;exact this
noncomputable def DQ(R:List (Str×D)):List Key:=R.map λp=>.inr p.1
noncomputable def DR(R:List (Str×D)):List D:=R.map (·.2)
theorem A8:∀{R:List (Str×D)},(R.map (·.1)).Nodup->(a,d)∈R->HB (DQ R) (DR R) (.inr a)=some d
 | p::r,hn,h=>by
  have hn:=k0 (show (p.1::r.map (·.1)).Nodup from hn);show (if (Sum.inr p.1:Key)=.inr a then some p.2 else HB (DQ r) (DR r) (.inr a))=_;rcases ck h with e | h
  .rw[<-e,ag rfl]
  .rw[ak λz=>hn.1 (by rw[iw z];exact gh (f:=(·.1)) h)]
   exact A8 hn.2 h
theorem A7:∀{R:List (Str×D)},a∉R.map (·.1)->HB (DQ R) (DR R) (.inr a)=none
 | [],_=>rfl
 | p::r,h=>by
  show (if (Sum.inr p.1:Key)=.inr a then some p.2 else HB (DQ r) (DR r) (.inr a))=_;rw[ak λz=>h (by rw[<-iw z];exact b0)];exact A7 λz=>h (b7 _ z)
theorem NA{R:List (Str×D)}:(HB (DQ R) (DR R) (.inr a)).isSome=decide (a∈R.map (·.1)):=by
 by_cases h:a∈R.map (·.1)
 .rw[dm h]
  have:∀{R:List (Str×D)},a∈R.map (·.1)->(HB (DQ R) (DR R) (.inr a)).isSome=true:=λ {R}=>by
   induction R with
   | nil=>exact λh=>(nomatch h)
   | cons p r ih=>
    intro h;show (if (Sum.inr p.1:Key)=.inr a then some p.2 else HB (DQ r) (DR r) (.inr a)).isSome=true
    by_cases e:(Sum.inr p.1:Key)=.inr a
    .rw[ag e];rfl
    .rw[ak e]
     refine ih ((ck h).resolve_left λz=>e (by rw[z]))
  exact this h
 .rw[dn h,A7 h];rfl
theorem PM{R:List (Str×D)}(h:a∉R.map (·.1)):putD (DQ R) (DR R) (.inr a) d=(DQ (R++[(a,d)]),DR (R++[(a,d)])):=by
 unfold putD;rw[ak]
 .simp[DQ,DR]
 .rw[B6]
  rintro ⟨k,hk,e⟩;obtain⟨p,hp,rfl⟩:=cw hk;exact h (by rw[<-iw (f7 e)];exact gh hp)
noncomputable def aB(g:iO):List (Str×D):=g.map λp=>(p.1,.lst (p.2.map gN))
theorem F4(g:iO):JM g=.aq (DQ (aB g)) (DR (aB g)):=by
 unfold JM DQ DR aB;rw[bS,bS];rfl
theorem vI(ks:List FK)(a:Str):(HB (DQ (aB (ks.foldl GQ []))) (DR (aB (ks.foldl GQ []))) (.inr a)).getD (.lst [])=.lst ((KH ks a).map gN):=by
 have G:=R1 ks;have e1:(aB (ks.foldl GQ [])).map (·.1)=(ks.foldl GQ []).map (·.1):=by unfold aB;rw[bS];rfl
 by_cases h:a∈(ks.foldl GQ []).map (·.1)
 .obtain⟨p,hp,rfl⟩:=cw h
  have hm:(p.1,D.lst (p.2.map gN))∈aB (ks.foldl GQ []):=List.mem_map.mpr ⟨p,hp,rfl⟩;rw[A8 (by rw[e1];exact G.nd) hm,Option.getD_some,G.ts p hp]
 .rw[A7 (by rw[e1];exact h)]
  have:KH ks a=[]:=List.eq_nil_iff_forall_not_mem.mpr λt ht=>h ((G.mem _).mpr ⟨_,oi.mp ht,rfl⟩)
  rw[this];rfl
noncomputable def TJ(hk:List Str)(a:Str)(s:List (Str×D)×List Str)(t:Str×Key):List (Str×D)×List Str:=match t.2 with
 | .inr b=>if t.1=J2/\b∉hk/\b∉s.1.map (·.1) then (s.1++[(b,.str a)],s.2++[b]) else s
 | .inl _=>s
theorem sU{hk:List Str}{a:Str}:∀(ts:List (Str×Key)) (R:List (Str×D)) (wq:List Str),(R.map (·.1)).Nodup->∃E:List Str,ts.foldl (TJ hk a) (R,wq)=(R++E.map (λb=>(b,D.str a)),wq++E)/\(R.map (·.1)++E).Nodup/\(∀b∈E,(J2,(.inr b:Key))∈ts/\b∉hk)/\∀b,(J2,(.inr b:Key))∈ts->b∉hk->b∈R.map (·.1)++E
 | [],R,wq,hn=>⟨[],by simp,by simpa using hn,λb hb=>(nomatch hb),λb hb=>(nomatch hb)⟩
 | t::ts,R,wq,hn=>by
  rw[List.foldl_cons];have ku:TJ hk a (R,wq) t=(R,wq)->(∀b,t=(J2,(.inr b:Key))->b∉hk->b∈R.map (·.1))->∃E:List Str,ts.foldl (TJ hk a) (TJ hk a (R,wq) t)=(R++E.map (λb=>(b,D.str a)),wq++E)/\(R.map (·.1)++E).Nodup/\(∀b∈E,(J2,(.inr b:Key))∈t::ts/\b∉hk)/\∀b,(J2,(.inr b:Key))∈t::ts->b∉hk->b∈R.map (·.1)++E:=λe hb=>by
   rw[e];obtain⟨E,e1,e2,e3,e4⟩:=sU ts R wq hn;refine⟨E,e1,e2,λb h=>⟨b7 _ (e3 b h).1,(e3 b h).2⟩,λb h1 h2=>?_⟩;rcases ck h1 with z | z
   .exact iu _ (hb b z.symm h2)
   .exact e4 b z h2
  obtain⟨kd,z⟩:=t;cases z with
  | inl j=>exact ku rfl λb e=>by cases e
  | inr b=>
   by_cases h:kd=J2/\b∉hk/\b∉R.map (·.1)
   .have e0:TJ hk a (R,wq) (kd,.inr b)=(R++[(b,.str a)],wq++[b]):=ag h
    rw[e0];have lu:((R++[(b,D.str a)]).map (·.1)).Nodup:=by
     rw[dt];refine List.nodup_append.mpr ⟨hn,by simp,λc hc d hd=>?_⟩;have:d=b:=by simpa using hd
     rw[this];exact λz=>h.2.2 (z▸hc)
    obtain⟨E,e1,e2,e3,e4⟩:=sU ts (R++[(b,.str a)]) (wq++[b]) lu;have em:(R++[(b,D.str a)]).map (·.1)++E=R.map (·.1)++(b::E):=by simp
    refine⟨b::E,by rw[e1];simp,by rw[<-em];exact e2,λc hc=>?_,λc h1 h2=>?_⟩
    .rcases ck hc with rfl | hc
     .exact⟨by rw[h.1];exact b0,h.2.1⟩
     .exact⟨b7 _ (e3 c hc).1,(e3 c hc).2⟩
    .rw[<-em]
     rcases ck h1 with z | z
     .have:c=b:=by cases z;rfl
      rw[this];exact iu _ (by simp)
     .exact e4 c z h2
   .refine ku (ak h) λc e hc=>?_
    cases e;exact Classical.byContradiction λq=>h ⟨rfl,hc,q⟩
inductive nq (ks:List FK) (hk s0:List Str):Str->Prop
 | st {a:Str} (h:a∈s0):nq ks hk s0 a
 | go {a b:Str} (h:nq ks hk s0 a) (e:(a,J2,(.inr b:Key))∈ks) (n:b∉hk):nq ks hk s0 b
inductive Way (ks:List FK) (s0:List Str):Str->List Str->Prop
 | st {a:Str} (h:a∈s0):Way ks s0 a [a]
 | go {a b:Str} {ws:List Str} (h:Way ks s0 b ws) (e:(b,J2,(.inr a:Key))∈ks):Way ks s0 a (ws++[a])
structure BI(ks:List FK)(hk nm s0:List Str)(R:List (Str×D))(wq:List Str):Prop where
 nd:(R.map (·.1)).Nodup
 sub:∀a∈R.map (·.1),a∈nm
 q:∀a∈wq,a∈R.map (·.1)
 st:∀a∈s0,a∈R.map (·.1)
 par:∀(i:Nat) (p:Str×D),R[i]?=some p->(p.2=.au/\p.1∈s0)\/∃b,p.2=.str b/\b∈(R.take i).map (·.1)/\(b,J2,(.inr p.1:Key))∈ks
 rc:∀a∈R.map (·.1),nq ks hk s0 a
 cl:∀a∈R.map (·.1),a∉wq->∀b,(a,J2,(.inr b:Key))∈ks->b∉hk->b∈R.map (·.1)
theorem BI.iff{ks:List FK}{R:List (Str×D)}(B:BI ks hk nm s0 R []):a∈R.map (·.1)↔nq ks hk s0 a:=by
 refine⟨B.rc a,λh=>?_⟩
 induction h with
 | st h=>exact B.st _ h
 | go _ e n ih=>exact B.cl _ ih (by simp) _ e n
theorem OE{ks:List FK}{R:List (Str×D)}{E:List Str}(B:BI ks hk nm st R (a::wq))(fv:∀k∈ks,∀b,k.2.2=.inr b->b∈nm)(h2:(R.map (·.1)++E).Nodup)(h3:∀b∈E,(J2,(.inr b:Key))∈KH ks a/\b∉hk)(h4:∀b,(J2,(.inr b:Key))∈KH ks a->b∉hk->b∈R.map (·.1)++E):
  BI ks hk nm st (R++E.map (λb=>(b,D.str a))) (wq++E):=by
 have em:(R++E.map (λb=>(b,D.str a))).map (·.1)=R.map (·.1)++E:=by
  rw[dt,bS];congr 1;exact List.map_id'' (λ_=>rfl) E
 have ha:=B.q a b0;refine⟨by rw[em];exact h2,λc hc=>?_,λc hc=>?_,λc hc=>?_,λi p e=>?_,λc hc=>?_,λc hc hw b hb Ij=>?_⟩
 .rw[em]at hc
  rcases cz hc with hc | hc
  .exact B.sub c hc
  .exact fv _ (oi.mp (h3 c hc).1) c rfl
 .rw[em]
  rcases cz hc with hc | hc
  .exact iu _ (B.q c (b7 _ hc))
  .exact hJ _ hc
 .rw[em];exact iu _ (B.st c hc)
 .by_cases hi:i<R.length
  .rw[kh hi]at e
   rw[List.take_append_of_le_length (by lia)];exact B.par i p e
  .rw[rS (by lia),gi]at e
   obtain⟨b,hb,rfl⟩:=cj e;refine .inr ⟨a,rfl,?_,oi.mp (h3 b (jg hb)).1⟩;rw[List.take_append,rV (by lia),dt];exact iu _ ha
 .rw[em]at hc
  rcases cz hc with hc | hc
  .exact B.rc c hc
  .exact .go (B.rc a ha) (oi.mp (h3 c hc).1) (h3 c hc).2
 .rw[em]at hc ⊢
  by_cases Ik:c=a
  .subst Ik
   exact h4 b (oi.mpr hb) Ij
  .have UM:c∈R.map (·.1):=by
    rcases cz hc with hc | hc
    .exact hc
    .exact absurd (hJ _ hc) hw
   refine iu _ (B.cl c UM (λz=>?_) b hb Ij);rcases ck z with z | z
   .exact Ik z
   .exact hw (iu _ z)
noncomputable def sR(b:Nat)(st on tl:D)(x5 x6 x7:Option D):DS:=[some st,some on,some tl,some (.ao b),some (.ao (b+1)),x5,x6,x7]
noncomputable def mR(m0:Mem)(R:List (Str×D))(wq:List Str):Mem:=m0++[.aq (DQ R) (DR R),.lst (wq.map .str)]
theorem DD{R:List (Str×D)}:(mR m0 R wq)[m0.length]?=some (.aq (DQ R) (DR R)):=by simp[mR]
theorem DE{R:List (Str×D)}:(mR m0 R wq)[m0.length+1]?=some (.lst (wq.map .str)):=by simp[mR]
theorem SF{R jm:List (Str×D)}:(mR m0 R wq).set m0.length (.aq (DQ jm) (DR jm))=mR m0 jm wq:=by simp[mR]
theorem GG{R:List (Str×D)}{w:List D}(h:w=Kz.map .str):(mR m0 R wq).set (m0.length+1) (.lst w)=mR m0 R Kz:=by subst h;simp[mR]
theorem vM{a b:Ex}{x y:D}{ks:List Key}{k:Key}(h1:ev C a σ m=some (x,m))(h2:ev C b σ m=some (y,m))(hd:HN y m=some (ks,vs))(hk:O5 x=some k):ev C (.xS a b) σ m=some (.bl (!(HB ks vs k).isSome),m):=by
 show (ev C a σ m).bind _=_;rw[h1,bu];show (ev C b σ m).bind _=_;rw[h2,bu];show (HN y m).bind _=_;rw[hd,bu];show (O5 x).map _=_;rw[hk];rfl
theorem vX{ks:List Key}(h:m[i]?=some (.aq ks vs)):HN (.ao i) m=some (ks,vs):=by
 show (match m[i]? with | some (.aq ks vs)=>some (ks,vs) | _=>none)=_;rw[h]
noncomputable def wD:bg:=match KY 2 RQ with | .cons (.bo _ b) _=>b | s=>s
noncomputable def Bi:bg:=ub (KY 1 wD)
section
variable{st on:D}
theorem Pw{R:List (Str×D)}{t:Str×Key}(ok:PB (a,t)=true)(hl:R.length<1000)(hw:wq.length<1000):aI C W Bi (sR m0.length st on (bz hk g) (some (.str a)) (some (.str t.1)) (some (dE t.2))) (mR m0 R wq)=some (.nx (sR m0.length st on (bz hk g) (some (.str a)) (some (.str t.1)) (some (dE t.2))),mR m0 (TJ hk a (R,wq) t).1 (TJ hk a (R,wq) t).2):=by
 obtain⟨kd,z⟩:=t
 by_cases CD:kd=J2
 .subst CD
  cases z with
  | inl j=>
   have:J2=Str.ofString "page":=f7 ok;exact absurd this (by decide +kernel)
  | inr b=>
   have n1:=vM (C:=C) (a:=.var 7) (b:=.var 2) (σ:=sR m0.length st on (bz hk g) (some (.str a)) (some (.str J2)) (some (.str b))) (m:=mR m0 R wq) (x:=.str b) (y:=bz hk g) rfl rfl rfl rfl;have n2:=vM (C:=C) (a:=.var 7) (b:=.var 3) (σ:=sR m0.length st on (bz hk g) (some (.str a)) (some (.str J2)) (some (.str b))) (m:=mR m0 R wq) (x:=.str b) (y:=.ao m0.length) rfl rfl (vX DD) rfl;have e1:(HB (DW hk) (GF hk g) (.inr b)).isSome=decide (b∈hk):=by
    by_cases h:b∈hk
    .rw[U5 h,dm h];rfl
    .rw[aL h,dn h];rfl
   rw[e1]at n1;rw[NA]at n2;have t1:et C (.and (.val (.cmp .eq (.var 6) (.con (.str "name")))) (.and (.val (.xS (.var 7) (.var 2))) (.val (.xS (.var 7) (.var 3))))) (sR m0.length st on (bz hk g) (some (.str a)) (some (.str J2)) (some (.str b))) (mR m0 R wq)=some (!decide (b∈hk)&&!decide (b∈R.map (·.1)),mR m0 R wq):=by
    refine PJ (J5 (p:=J2=Str.ofString "name") rfl rfl) ?_
    by_cases h:b∈hk
    .rw[dm h]at n1 ⊢
     exact U9 (GD n1 rfl)
    .rw[dn h]at n1 ⊢
     exact PJ (GD n1 rfl) (GD n2 rfl)
   by_cases h:b∉hk/\b∉R.map (·.1)
   .have e0:TJ hk a (R,wq) (J2,.inr b)=(R++[(b,.str a)],wq++[b]):=ag ⟨rfl,h⟩
    rw[e0];rw[dn h.1,dn h.2]at t1;have hR:(DQ R).length<10000:=by unfold DQ;rw[a8];lia
    exact JG t1 (jE (z:=.str a) (y:=.str b) (i:=m0.length) rfl rfl rfl DD rfl rfl hR (by
     rw[PM h.2,SF];exact HX (QF (d:=.str b) rfl rfl DE rfl (by rw[a8];lia)) (N7 (GG (by simp))))) rfl
   .have e0:TJ hk a (R,wq) (J2,.inr b)=(R,wq):=ak λq=>h q.2
    rw[e0];have:(!decide (b∈hk)&&!decide (b∈R.map (·.1)))=false:=by
     by_cases h1:b∈hk
     .rw[dm h1];rfl
     .by_cases h2:b∈R.map (·.1)
      .rw[dm h2,Bool.and_comm];rfl
      .exact absurd ⟨h1,h2⟩ h
    rw[this]at t1;exact EY t1 rfl
 .have e0:TJ hk a (R,wq) (kd,z)=(R,wq):=by
   cases z with
   | inl j=>rfl
   | inr b=>exact ak λq=>CD q.1
  rw[e0];exact EY (U9 (G7 (p:=kd=Str.ofString "name") rfl CD)) rfl
theorem EH{a:Str}{ys:List D}:∀(ts:List (Str×Key)) (R:List (Str×D)) (wq:List Str) (x6 x7:Option D),(∀t∈ts,PB (a,t)=true)->R.length+ts.length<1000->wq.length+ts.length<1000->∃y6 y7,forL ⟨ys,none⟩ (.tp [.nm 6,.nm 7]) (λ σ m=>aI C W Bi σ m) (ts.map gN) (sR m0.length st on (bz hk g) (some (.str a)) x6 x7) (mR m0 R wq)=some (.nx (sR m0.length st on (bz hk g) (some (.str a)) y6 y7),mR m0 (ts.foldl (TJ hk a) (R,wq)).1 (ts.foldl (TJ hk a) (R,wq)).2)
 | [],R,wq,x6,x7,_,_,_=>⟨x6,x7,QS rfl⟩
 | t::ts,R,wq,x6,x7,ok,hl,hw=>by
  rw[kg]at hl hw;have e:=Pw (C:=C) (W:=W) (m0:=m0) (st:=st) (on:=on) (hk:=hk) (g:=g) (R:=R) (wq:=wq) (ok t b0) (by lia) (by lia);have hg:(TJ hk a (R,wq) t).1.length<=R.length+1/\(TJ hk a (R,wq) t).2.length<=wq.length+1:=by
   unfold TJ;split
   .split
    .simp
    .simp
   .simp
  obtain⟨y6,y7,e2⟩:=EH (a:=a) (ys:=ys) ts (TJ hk a (R,wq) t).1 (TJ hk a (R,wq) t).2 (some (.str t.1)) (some (dE t.2)) (λu hu=>ok u (b7 _ hu)) (by lia) (by lia);refine⟨y6,y7,?_⟩;rw[List.foldl_cons];exact IW (σ1:=sR m0.length st on (bz hk g) (some (.str a)) (some (.str t.1)) (some (dE t.2))) rfl rfl e e2
end
theorem NY{a:Ex}{i:Nat}{d:D}{r:List D}(h:ev C a σ m=some (.ao i,m))(hm:m[i]?=some (.lst (d::r))):ev C (.DO a) σ m=some (d,m.set i (.lst r)):=by
 show (ev C a σ m).bind _=_;rw[h,bu];show (match m[i]? with
   | some (.lst (d::r))=>some (d,m.set i (.lst r))
   | _=>none)=_
 rw[hm]
section
variable{st:D}
theorem EG{ks:List FK}(h4:nm.length=4)(fv:∀k∈ks,k∈univ nm)(hlen:ks.length<=100):∀(w vi:Nat) (R:List (Str×D)) (wq:List Str) (x5 x6 x7:Option D),BI ks hk nm s0 R wq->2*(4-R.length)+wq.length<=vi->vi<w->vi<=20->∃jm y5 y6 y7,BI ks hk nm s0 jm []/\N8 (et C (.val (.var 4))) (λ σ m=>aI C W wD σ m) w (sR m0.length st (JM (ks.foldl GQ [])) (bz hk g) x5 x6 x7) (mR m0 R wq)=some (.nx (sR m0.length st (JM (ks.foldl GQ [])) (bz hk g) y5 y6 y7),mR m0 jm [])
 | 0,vi,R,wq,x5,x6,x7,B,hm,hw,_=>absurd hw (oC _)
 | w+1,vi,R,wq,x5,x6,x7,B,hm,hw,aak=>by
  have Ic:R.length<=4:=by
   have:=B.nd.length_le_of_subset B.sub;rw[a8]at this;lia
  have kx:et C (.val (.var 4)) (sR m0.length st (JM (ks.foldl GQ [])) (bz hk g) x5 x6 x7) (mR m0 R wq)=some (!(wq.map D.str).isEmpty,mR m0 R wq):=GD rfl (bC DE);cases wq with
  | nil=>
   refine⟨R,x5,x6,x7,B,?_⟩;rw[N8,kx];rfl
  | cons a wq=>
   obtain⟨E,e1,e2,e3,e4⟩:=sU (hk:=hk) (a:=a) (KH ks a) R wq B.nd;have aaK:(KH ks a).length<=100:=by
    unfold KH;rw[a8];exact eJ (List.length_filter_le _ _) hlen
   rw[kg]at hm;have aaB:wq.length<=20:=by lia
   obtain⟨y6,y7,f1⟩:=EH (C:=C) (W:=W) (m0:=m0) (st:=st) (on:=JM (ks.foldl GQ [])) (hk:=hk) (g:=g) (a:=a) (ys:=(KH ks a).map gN) (KH ks a) R wq x6 x7 (λt ht=>W5 _ (fv _ (oi.mp ht))) (by lia) (by lia);rw[e1]at f1;have Bx:=OE B (λk ic b hb=>by
    have:=fv k ic;obtain⟨y,hy,hm⟩:=List.mem_flatMap.mp this;rcases cz hm with hm | hm
    .simp only[List.mem_cons,List.not_mem_nil,or_false]at hm
     rcases hm with rfl | rfl | rfl<;>cases hb
    .obtain⟨x,hx,rfl⟩:=cw hm
     cases hb;exact hx) e2 e3 e4
   have aan:R.length+E.length<=4:=by
    have:=Bx.nd.length_le_of_subset Bx.sub;rw[a8,gc,a8]at this;lia
   obtain⟨jm,z5,z6,z7,b1,b2⟩:=EG h4 fv hlen w (vi-1) _ _ (some (.str a)) y6 y7 Bx (by rw[gc,gc,a8];lia) (by lia) (by lia);refine⟨jm,z5,z6,z7,b1,?_⟩;have zC:ev C (.get (.var 1) (.var 5) (.lst false .nil)) (sR m0.length st (JM (ks.foldl GQ [])) (bz hk g) (some (.str a)) x6 x7) (mR m0 R wq)=some (.lst ((KH ks a).map gN),mR m0 R wq):=by
    rw[<-vI,F4];exact aO (x:=.aq (DQ (aB (ks.foldl GQ []))) (DR (aB (ks.foldl GQ [])))) (y:=.str a) (u:=.lst []) rfl rfl rfl rfl rfl
   have lj:aI C W wD (sR m0.length st (JM (ks.foldl GQ [])) (bz hk g) x5 x6 x7) (mR m0 R (a::wq))=some (.nx (sR m0.length st (JM (ks.foldl GQ [])) (bz hk g) (some (.str a)) y6 y7),mR m0 (R++E.map (λb=>(b,D.str a))) (wq++E)):=by
    refine CJ (NY (d:=.str a) (r:=wq.map .str) rfl DE) ?_;rw[GG rfl];exact QZ (b:=Bi) (w:=⟨(KH ks a).map gN,none⟩) (m1:=mR m0 R wq) (R8 zC) f1 rfl
   rw[N8,kx];show (aI C W wD _ _).bind _=_;rw[lj];exact b2
theorem pD{z:D}(hn:s0.Nodup)(hl:s0.length<=1000)(mu:Bool)(m:Mem):de (.zh mu) (.lst (s0.map λa=>.tup [.str a,z])) m=some (gX mu (DQ (s0.map λa=>(a,z))) (DR (s0.map λa=>(a,z))) m):=by
 have e1:∀l:List Str,pairsOf (l.map λa=>D.tup [.str a,z])=some (DQ (l.map λa=>(a,z)),DR (l.map λa=>(a,z))):=λl=>by
  induction l with
  | nil=>rfl
  | cons a r ih=>
   rw[cn,pairsOf,ih];rfl
 have e2:(DQ (s0.map λa=>(a,z))).Nodup:=by
  unfold DQ;rw[bS];exact List.Pairwise.map _ (λa b (h:a≠b) q=>h (iw q)) hn
 have e3:FT [] [] (DQ (s0.map λa=>(a,z))) (DR (s0.map λa=>(a,z)))=(DQ (s0.map λa=>(a,z)),DR (s0.map λa=>(a,z))):=by
  have:=kE (r:=DQ (s0.map λa=>(a,z))) (q:=DR (s0.map λa=>(a,z))) (ks:=[]) (vs:=[]) (by simp[DQ,DR]) e2 (by simp);simpa using this
 show ((G5 (.lst (s0.map λa=>D.tup [.str a,z])) m).bind λxs=>(pairsOf xs).bind λq=>if q.1.length<=1000 then some (gX mu (FT [] [] q.1 q.2).1 (FT [] [] q.1 q.2).2 m) else none)=_;show ((pairsOf (s0.map λa=>D.tup [.str a,z])).bind λq=>if q.1.length<=1000 then some (gX mu (FT [] [] q.1 q.2).1 (FT [] [] q.1 q.2).2 m) else none)=_;rw[e1,bu,ag (by simpa[DQ] using hl),e3]
theorem zB{ks:List FK}{R:List (Str×D)}(B:BI ks hk nm s0 R wq):D.clean.cy (DR R)=true:=by
 have:∀l:List (Str×D),(∀p∈l,p.2=.au\/∃b,p.2=.str b)->D.clean.cy (DR l)=true:=λl=>by
  induction l with
  | nil=>exact λ_=>rfl
  | cons p r ih=>
   intro h;show (D.clean p.2&&D.clean.cy (DR r))=true;rw[ih λq hq=>h q (b7 _ hq)];rcases h p b0 with e | ⟨b,e⟩<;>rw[e]<;>rfl
 refine this R λp hp=>?_
 obtain⟨i,hi,e⟩:=nz hp;rcases B.par i p (by rw[fo hi,e]) with ⟨h,_⟩ | ⟨b,h,_⟩
 .exact .inl h
 .exact .inr ⟨b,h⟩
theorem zK(H:fB ab){ks:List FK}(h4:nm.length=4)(fv:∀k∈ks,k∈univ nm)(hlen:ks.length<=100)(hs:s0.Nodup)(xp:∀a∈s0,a∈nm)(hW:100<W)(m:Mem):∃R,BI ks hk nm s0 R []/\CG W ab (n+1) "names_reached" [.lst (s0.map .str),JM (ks.foldl GQ []),bz hk g] m=some (.aq (DQ R) (DR R),m):=by
 have xg:s0.length<=4:=by rw[<-h4];exact hs.length_le_of_subset xp
 have em:(s0.map λa=>(a,D.au)).map (·.1)=s0:=by
  rw[bS];exact List.map_id'' (λ_=>rfl) s0
 have B0:BI ks hk nm s0 (s0.map λa=>(a,D.au)) s0:=⟨by rw[em];exact hs,by rw[em];exact xp,by rw[em];exact λa h=>h,by rw[em];exact λa h=>h,λi p e=>by
  rw[gi]at e;obtain⟨a,ha,rfl⟩:=cj e;exact .inl ⟨rfl,jg ha⟩,by rw[em];exact λa h=>.st h,by rw[em];exact λa h1 h2=>absurd h1 h2⟩
 obtain⟨R,y5,y6,y7,b1,b2⟩:=EG (C:=CG W ab n) (W:=W) (m0:=m) (st:=.lst (s0.map .str)) (g:=g) h4 fv hlen W 12 _ _ none none none B0 (by rw[a8];lia) (by lia) (by lia);refine⟨R,b1,?_⟩;have dA:=zB b1;have comp:ev (CG W ab n) (.comp false 1 (.nm 8) (.seq (.var 0)) .tt (.tup (.cons (.var 8) (.cons (.con .au) .nil)))) [some (.lst (s0.map .str)),some (JM (ks.foldl GQ [])),some (bz hk g),none,none,none,none,none] m=some (.lst (s0.map λa=>.tup [.str a,.au]),m):=by
  rw[JW (xs:=s0) (dd:=.str) (h:=λa=>some (.tup [.str a,.au])) rfl rfl (by lia)]
  .rw[ki]
  .intro a _
   refine⟨[some (.lst (s0.map .str)),some (JM (ks.foldl GQ [])),some (bz hk g),none,none,none,none,none,some (.str a)],true,rfl,rfl,?_⟩;rw[ag rfl];exact⟨rfl,rfl⟩
 rw[O8 H.XZ rfl];have E:aI (CG W ab n) W vw.body ([D.lst (s0.map .str),JM (ks.foldl GQ []),bz hk g].map some++List.replicate (vw.ns-vw.ps) none) m=some (.rt (.ao m.length),mR m R []):=by
  refine CJ (d:=.ao m.length) (m1:=m++[.aq (DQ (s0.map λa=>(a,D.au))) (DR (s0.map λa=>(a,D.au)))]) (GC comp (pD hs (by lia) true m)) ?_;refine CJ (d:=.ao (m.length+1)) (m1:=mR m (s0.map λa=>(a,D.au)) s0) ?_ ?_
  .refine GC rfl ?_
   show some (bw true (s0.map .str) (m++[.aq (DQ (s0.map λa=>(a,D.au))) (DR (s0.map λa=>(a,D.au)))]))=_;simp[bw,mR]
  .exact jD b2 (CP rfl)
 rw[E];show (outD m.length (mR m R []) (.ao m.length)).map _=_;have:outD m.length (mR m R []) (.ao m.length)=some (.aq (DQ R) (DR R)):=by
  show (if m.length<m.length then none else match (mR m R [])[m.length]? with
   | some (.lst xs)=>if D.clean.cy xs then some (D.lst xs) else none
   | some (.aq ks vs)=>if D.clean.cy vs then some (D.aq ks vs) else none
   | _=>none)=_
  rw[ak (hZ _),DD];show (if D.clean.cy (DR R) then _ else _)=_;rw[dA];rfl
 rw[this];simp[mR]
end
noncomputable def pX:bg:=match KY 2 qD with | .cons (.bo _ b) _=>b | s=>s
noncomputable def sY(b:Nat)(nm cf:D)(x3:Option D):DS:=[some nm,some cf,some (.ao b),x3]
noncomputable def mY(m0:Mem)(acc:List Str):Mem:=m0++[.lst (acc.map .str)]
theorem Jv:(mY m0 acc)[m0.length]?=some (.lst (acc.map .str)):=by simp[mY]
theorem WE:(mY m0 acc).set m0.length (.lst (acc.map .str++[.str a]))=mY m0 (acc++[a]):=by simp[mY]
theorem Fc{a b:Ex}{x y d:D}{ks:List Key}{k:Key}(h1:ev C a σ m=some (x,m))(h2:ev C b σ m=some (y,m))(hd:HN x m=some (ks,vs))(hk:O5 y=some k)(hl:HB ks vs k=some d):ev C (.sF a b) σ m=some (d,m):=by
 show (ev C a σ m).bind _=_;rw[h1,bu];show (ev C b σ m).bind _=_;rw[h2,bu];show (HN x m).bind _=_;rw[hd,bu];show (O5 y).bind _=_;rw[hk,bu];show (HB ks vs k).map _=_;rw[hl];rfl
theorem tG:∀l:List Str,D.clean.cy (l.map .str)=true
 | []=>rfl
 | a::r=>tG r
section
variable{ks:List FK}{R:List (Str×D)}
theorem zZ(B:BI ks hk nm s0 R []){m0:Mem}{sP:D}:∀(i w:Nat) (a:Str) (acc:List Str),a∈(R.take i).map (·.1)->i<w->acc.length+i<=1000->∃ws,Way ks s0 a ws/\ws.length<=i/\N8 (et C (.val (.cmp .qz (.var 3) (.con .au)))) (λ σ m=>aI C W pX σ m) w (sY m0.length sP (.aq (DQ R) (DR R)) (some (.str a))) (mY m0 acc)=some (.nx (sY m0.length sP (.aq (DQ R) (DR R)) (some .au)),mY m0 (acc++ws.reverse))
 | 0,w,a,acc,h,_,_=>by simp at h
 | i+1,0,a,acc,_,hw,_=>absurd hw (oC _)
 | i+1,w+1,a,acc,h,hw,hl=>by
  obtain⟨p,hp,rfl⟩:=cw h;obtain⟨j,hj,ej⟩:=nz hp;rw[List.length_take]at hj;have Vi:j<R.length:=by lia
  have ep:R[j]?=some p:=by
   rw[List.getElem_take]at ej;rw[fo Vi,ej]
  have Vq:HB (DQ R) (DR R) (.inr p.1)=some p.2:=A8 B.nd (jg ep);have step:aI C W pX (sY m0.length sP (.aq (DQ R) (DR R)) (some (.str p.1))) (mY m0 acc)=some (.nx (sY m0.length sP (.aq (DQ R) (DR R)) (some p.2)),mY m0 (acc++[p.1])):=by
   refine HX (QF (d:=.str p.1) rfl rfl Jv rfl (by rw[a8];lia)) ?_;rw[WE];exact CJ (Fc (x:=.aq (DQ R) (DR R)) (y:=.str p.1) rfl rfl rfl rfl Vq) rfl
  have go:∀{X},N8 (et C (.val (.cmp .qz (.var 3) (.con .au)))) (λ σ m=>aI C W pX σ m) w (sY m0.length sP (.aq (DQ R) (DR R)) (some p.2)) (mY m0 (acc++[p.1]))=X->N8 (et C (.val (.cmp .qz (.var 3) (.con .au)))) (λ σ m=>aI C W pX σ m) (w+1) (sY m0.length sP (.aq (DQ R) (DR R)) (some (.str p.1))) (mY m0 acc)=X:=λ {X} h=>by
   rw[N8];show (aI C W pX _ _).bind _=_;rw[step];exact h
  rcases B.par j p ep with ⟨e,hs⟩ | ⟨b,e,hb,hf⟩
  .obtain⟨gj,rfl⟩:∃gj,w=gj+1:=⟨w-1,by lia⟩
   refine⟨[p.1],.st hs,by simp,go ?_⟩;rw[e,N8];rfl
  .have gu:b∈(R.take i).map (·.1):=by
    obtain⟨q,hq,rfl⟩:=cw hb;refine gh ?_;exact(List.take_subset_take_left R (by lia)) hq
   obtain⟨ws,h1,l1,e1⟩:=zZ B i w b (acc++[p.1]) gu (by lia) (by rw[gc,oQ];lia);refine⟨ws++[p.1],.go h1 hf,by rw[gc,oQ];lia,go ?_⟩;rw[e,e1,List.reverse_append,wm];rfl
theorem Si(H:fB ab)(B:BI ks hk nm s0 R [])(hR:R.length<=4)(hW:100<W)(ha:a∈R.map (·.1))(m:Mem):∃ws,Way ks s0 a ws/\CG W ab (n+1) "way_to" [.str a,.aq (DQ R) (DR R)] m=some (.tup (ws.map .str),m):=by
 obtain⟨ws,h1,l1,e1⟩:=zZ (C:=CG W ab n) (W:=W) B (m0:=m) (sP:=.str a) R.length W a [] (by rw[List.take_length];exact ha) (by lia) (by simp;lia);rw[List.nil_append]at e1;refine⟨ws,h1,?_⟩;have ht:de .AM (.ao m.length) (mY m ws.reverse)=some (.tup (ws.map .str),mY m ws.reverse):=by
  show ((match (mY m ws.reverse)[m.length]? with | some (.lst xs)=>some xs | _=>none).bind λxs=>if xs.length<=1000 then some (D.tup xs.reverse,mY m ws.reverse) else none)=_;rw[Jv,bu,ag (by rw[a8,List.length_reverse];lia),List.map_reverse,List.reverse_reverse]
 exact K8 (q:=[.lst (ws.reverse.map .str)]) H.way rfl (tG ws) (CJ (d:=.ao m.length) (m1:=mY m []) rfl (CJ rfl (jD e1 (CP (GC rfl ht)))))
end
noncomputable def VP(hk:List Str)(g:Str->Int)(v:Int)(t:Str×Key):Bool:=match t.2 with
 | .inl j=>decide (j<v)
 | .inr b=>decide ((if b∈hk then g b else v)<v)
noncomputable def pV(ws:List Str)(t:Str×Key):D:=.tup [.str "trail",.tup (ws.map .str),gN t]
theorem pK(ws:List Str)(t:Str×Key):(pV ws t).clean=true:=by
 show (D.clean.cy (ws.map D.str)&&((gN t).clean&&true))=true;rw[tG];obtain⟨kd,z | z⟩:=t<;>rfl
noncomputable def dU:bg:=ub X7
noncomputable def iW:bg:=ub dU
section
variable{ks:List FK}{R:List (Str×D)}
theorem OB(H:fB ab){t:Str×Key}(ok:PB (a,t)=true):CG W ab (n+1) "is_below" [gN t,.int v,bz hk g] m=some (.bl (VP hk g v t),m):=by
 obtain⟨kd,z | z⟩:=t
 .have:kd=Str.ofString "page":=f7 ok
  subst this;refine CV H.below rfl rfl ?_;exact FZ (J5 (p:=("page":Str)="page") rfl rfl) (CP rfl)
 .have eL:¬kd=Str.ofString "page":=by simpa[PB] using ok
  refine CV H.below rfl rfl ?_;have hg:ev (CG W ab n) (.get (.var 2) (.ix (.var 0) (.con (.int 1))) (.var 1)) [some (.tup [.str kd,.str z]),some (.int v),some (bz hk g)] m=some (.int (if z∈hk then g z else v),m):=by
   rw[aO (x:=bz hk g) (y:=.str z) (u:=.int v) (ks:=DW hk) (vs:=GF hk g) (kk:=.inr z) rfl rfl rfl rfl rfl]
   by_cases h:z∈hk
   .rw[U5 h,ag h];rfl
   .rw[aL h,ak h];rfl
  exact EY (G7 rfl eL) (CP (HJ hg rfl rfl))
noncomputable def sT(v:Int)(cf on tl:D)(x4 x5:Option D):DS:=[some (.int v),some cf,some on,some tl,x4,x5]
theorem Eg(H:fB ab)(B:BI ks hk nm s0 R [])(hR:R.length<=4)(hW:100<W){on:D}{a:Str}(ha:a∈R.map (·.1)){ys:List D}:∀(ts:List (Str×Key)) (x5:Option D),(∀t∈ts,PB (a,t)=true)->(∃y5,forL ⟨ys,none⟩ (.nm 5) (λ σ m=>aI (CG W ab (n+1)) W iW σ m) (ts.map gN) (sT v (.aq (DQ R) (DR R)) on (bz hk g) (some (.str a)) x5) m=some (.nx (sT v (.aq (DQ R) (DR R)) on (bz hk g) (some (.str a)) y5),m)/\∀t∈ts,VP hk g v t=false)\/∃ws,∃t∈ts,Way ks s0 a ws/\VP hk g v t=true/\forL ⟨ys,none⟩ (.nm 5) (λ σ m=>aI (CG W ab (n+1)) W iW σ m) (ts.map gN) (sT v (.aq (DQ R) (DR R)) on (bz hk g) (some (.str a)) x5) m=some (.rt (pV ws t),m)
 | [],x5,_=>.inl ⟨x5,QS rfl,λt ht=>(nomatch ht)⟩
 | t::ts,x5,ok=>by
  have hb:=OB (W:=W) (n:=n) (m:=m) (hk:=hk) (g:=g) (v:=v) H (ok t b0);have kx:et (CG W ab (n+1)) (.val (.call "is_below" (.cons (.var 5) (.cons (.var 0) (.cons (.var 3) .nil))))) (sT v (.aq (DQ R) (DR R)) on (bz hk g) (some (.str a)) (some (gN t))) m=some (VP hk g v t,m):=GD (BX hb rfl) rfl;have r9:JQ (.nm 5) (gN t) (sT v (.aq (DQ R) (DR R)) on (bz hk g) (some (.str a)) x5)=some (sT v (.aq (DQ R) (DR R)) on (bz hk g) (some (.str a)) (some (gN t))):=rfl;cases lq:VP hk g v t with
  | true=>
   rw[lq]at kx;obtain⟨ws,hw,e1⟩:=Si (W:=W) (n:=n) H B hR hW ha m;refine .inr ⟨ws,t,b0,hw,lq,?_⟩
   .have hr:aI (CG W ab (n+1)) W iW (sT v (.aq (DQ R) (DR R)) on (bz hk g) (some (.str a)) (some (gN t))) m=some (.rt (pV ws t),m):=FZ kx (CP (G6 (BR rfl (BR (BX e1 rfl) (BR rfl rfl))) (by simp)))
    rw[cn,forL,ag (show Walk.ok ⟨ys,none⟩ m=true from rfl),r9,bu,hr];rfl
  | false=>
   rw[lq]at kx;have hr:aI (CG W ab (n+1)) W iW (sT v (.aq (DQ R) (DR R)) on (bz hk g) (some (.str a)) (some (gN t))) m=some (.nx (sT v (.aq (DQ R) (DR R)) on (bz hk g) (some (.str a)) (some (gN t))),m):=EY kx rfl;rcases Eg H B hR hW ha ts (some (gN t)) (λu hu=>ok u (b7 _ hu)) with ⟨y5,e1,e2⟩ | ⟨ws,u,hu,hw,UI,e1⟩
   .refine .inl ⟨y5,?_,λu hu=>?_⟩
    .rw[cn]
     exact IW rfl r9 hr e1
    .rcases ck hu with rfl | hu
     .exact lq
     .exact e2 u hu
   .refine .inr ⟨ws,u,b7 _ hu,hw,UI,?_⟩
    rw[cn];exact IW rfl r9 hr e1
theorem Ek(H:fB ab)(fv:∀k∈ks,PB k=true)(B:BI ks hk nm s0 R [])(hR:R.length<=4)(hW:100<W){ys:List D}:∀(as:List Str) (x4 x5:Option D),(∀a∈as,a∈R.map (·.1))->(∃y4 y5,forL ⟨ys,none⟩ (.nm 4) (λ σ m=>aI (CG W ab (n+1)) W dU σ m) (as.map .str) (sT v (.aq (DQ R) (DR R)) (JM (ks.foldl GQ [])) (bz hk g) x4 x5) m=some (.nx (sT v (.aq (DQ R) (DR R)) (JM (ks.foldl GQ [])) (bz hk g) y4 y5),m)/\∀a∈as,∀t∈KH ks a,VP hk g v t=false)\/∃a ws t,a∈as/\t∈KH ks a/\Way ks s0 a ws/\VP hk g v t=true/\forL ⟨ys,none⟩ (.nm 4) (λ σ m=>aI (CG W ab (n+1)) W dU σ m) (as.map .str) (sT v (.aq (DQ R) (DR R)) (JM (ks.foldl GQ [])) (bz hk g) x4 x5) m=some (.rt (pV ws t),m)
 | [],x4,x5,_=>.inl ⟨x4,x5,QS rfl,λt ht=>(nomatch ht)⟩
 | a::as,x4,x5,ib=>by
  have zC:ev (CG W ab (n+1)) (.get (.var 2) (.var 4) (.lst false .nil)) (sT v (.aq (DQ R) (DR R)) (JM (ks.foldl GQ [])) (bz hk g) (some (.str a)) x5) m=some (.lst ((KH ks a).map gN),m):=by
   rw[<-vI,F4];exact aO (x:=.aq (DQ (aB (ks.foldl GQ []))) (DR (aB (ks.foldl GQ [])))) (y:=.str a) (u:=.lst []) rfl rfl rfl rfl rfl
  have r9:JQ (.nm 4) (.str a) (sT v (.aq (DQ R) (DR R)) (JM (ks.foldl GQ [])) (bz hk g) x4 x5)=some (sT v (.aq (DQ R) (DR R)) (JM (ks.foldl GQ [])) (bz hk g) (some (.str a)) x5):=rfl;rcases Eg (W:=W) (n:=n) (m:=m) (g:=g) (v:=v) H B hR hW (on:=JM (ks.foldl GQ [])) (ib a b0) (ys:=(KH ks a).map gN) (KH ks a) x5 (λt ht=>fv _ (oi.mp ht)) with ⟨y5,e1,e2⟩ | ⟨ws,t,ht,hw,lq,e1⟩
  .have hr:aI (CG W ab (n+1)) W dU (sT v (.aq (DQ R) (DR R)) (JM (ks.foldl GQ [])) (bz hk g) (some (.str a)) x5) m=some (.nx (sT v (.aq (DQ R) (DR R)) (JM (ks.foldl GQ [])) (bz hk g) (some (.str a)) y5),m):=QZ (b:=iW) (w:=⟨(KH ks a).map gN,none⟩) (m1:=m) (R8 zC) e1 rfl
   rcases Ek H fv B hR hW as (some (.str a)) y5 (λb hb=>ib b (b7 _ hb)) with ⟨z4,z5,f1,f2⟩ | ⟨b,ws,t,hb,q⟩
   .refine .inl ⟨z4,z5,?_,λb hb=>?_⟩
    .rw[cn]
     exact IW rfl r9 hr f1
    .rcases ck hb with rfl | hb
     .exact e2
     .exact f2 b hb
   .obtain⟨ht,hw,lq,f1⟩:=q
    refine .inr ⟨b,ws,t,b7 _ hb,ht,hw,lq,?_⟩;rw[cn];exact IW rfl r9 hr f1
  .refine .inr ⟨a,ws,t,b0,ht,hw,lq,?_⟩
   have hr:aI (CG W ab (n+1)) W dU (sT v (.aq (DQ R) (DR R)) (JM (ks.foldl GQ [])) (bz hk g) (some (.str a)) x5) m=some (.rt (pV ws t),m):=by
    show (ex (CG W ab (n+1)) W (.fr (.nm 5) (.seq (.get (.var 2) (.var 4) (.lst false .nil))) iW) _ m).bind _=_;rw[AY,R8 zC,bu];show (forL _ _ _ _ _ m).bind _=_;rw[e1];rfl
   rw[cn,forL,ag (show Walk.ok ⟨ys,none⟩ m=true from rfl),r9,bu,hr];rfl
theorem Ou(H:fB ab)(fv:∀k∈ks,PB k=true)(B:BI ks hk nm s0 R [])(hR:R.length<=4)(hW:100<W):(CG W ab (n+2) "trail_down" [.int v,.aq (DQ R) (DR R),JM (ks.foldl GQ []),bz hk g] m=some (.au,m)/\∀a∈R.map (·.1),∀t∈KH ks a,VP hk g v t=false)\/∃a ws t,a∈R.map (·.1)/\t∈KH ks a/\Way ks s0 a ws/\VP hk g v t=true/\CG W ab (n+2) "trail_down" [.int v,.aq (DQ R) (DR R),JM (ks.foldl GQ []),bz hk g] m=some (pV ws t,m):=by
 have CF:(DQ R).map dE=(R.map (·.1)).map .str:=by
  unfold DQ;rw[bS,bS];rfl
 have sj:ei (CG W ab (n+1)) (.keys (.var 1)) (sT v (.aq (DQ R) (DR R)) (JM (ks.foldl GQ [])) (bz hk g) none none) m=some (⟨(R.map (·.1)).map .str,none⟩,m):=by
  rw[<-CF];rfl
 rcases Ek (W:=W) (n:=n) (m:=m) (g:=g) (v:=v) H fv B hR hW (ys:=(R.map (·.1)).map .str) (R.map (·.1)) none none (λa h=>h) with ⟨y4,y5,e1,e2⟩ | ⟨a,ws,t,ha,ht,hw,lq,e1⟩
 .exact .inl ⟨CV (n:=n+1) H.trail rfl rfl (QZ (b:=dU) (w:=⟨(R.map λp:Str×D=>p.1).map D.str,none⟩) (m1:=m) sj e1 (CP rfl)),e2⟩
 .refine .inr ⟨a,ws,t,ha,ht,hw,lq,CV (n:=n+1) H.trail rfl (pK ws t) ?_⟩
  show (ex (CG W ab (n+1)) W (.fr (.nm 4) (.keys (.var 1)) dU) (sT v (.aq (DQ R) (DR R)) (JM (ks.foldl GQ [])) (bz hk g) none none) m).bind _=_;rw[AY,sj,bu];show (forL _ _ _ _ _ m).bind _=_;rw[e1];rfl
end
theorem AS:∀t:Tm Str,iL t+1<=2 ^ (t.dep+1)
 | .num _=>by simp[iL,Tm.dep]
 | .ee _=>by simp[iL,Tm.dep]
 | .bin _ a b=>by
  have h1:=AS a;have h2:=AS b;have h3:2 ^ (a.dep+1)<=2 ^ (max a.dep b.dep+1):=Nat.pow_le_pow_right (by lia) (by lia);have h4:2 ^ (b.dep+1)<=2 ^ (max a.dep b.dep+1):=Nat.pow_le_pow_right (by lia) (by lia);simp only[iL,Tm.dep];rw[Nat.pow_succ 2 (max a.dep b.dep+1)];lia
theorem uE{t:Tm Str}(h:t.dep<=4):iL t<=31:=by
 have h1:=AS t;have h2:2 ^ (t.dep+1)<=2 ^ 5:=Nat.pow_le_pow_right (by lia) (by lia);lia
mutual
theorem Sg:∀d:Dd Str,d.dep<=4->k8 d<=32*d.size
 | .put x e,h=>by
  have h1:=uE (t:=e) h;simp only[k8,Dd.size];lia
 | .cv k e,h=>by
  have h1:=uE (t:=e) h;simp only[k8,Dd.size];lia
 | .ite e b c,h=>by
  simp only[Dd.dep]at h;have h1:=uE (t:=e) (by lia);have h5:=pY b (by lia);have h6:=pY c (by lia);simp only[k8,Dd.size];lia
 | .bo e b,h=>by
  simp only[Dd.dep]at h;have h1:=uE (t:=e) (by lia);have h5:=pY b (by lia);simp only[k8,Dd.size];lia
theorem pY:∀b:Bl Str,b.dep<=4->ny b<=32*b.size
 | .nil,_=>eS _
 | .cons d b,h=>by
  simp only[Bl.dep]at h;have h1:=Sg d (by lia);have h2:=pY b (by lia);simp only[ny,Bl.size];lia
end
section
variable{nk:List Str}
theorem Y8:∀{t:Tm Str},t.Ok P->(∀x∈t.names,x∈nk)->t.Ok (·∈nk)
 | .num _,h,_=>h
 | .ee x,_,h=>h x b0
 | .bin _ a b,ho,h=>⟨Y8 ho.1 λx hx=>h x (iu _ hx),Y8 ho.2 λx hx=>h x (hJ _ hx)⟩
mutual
theorem Qw:∀{d:Dd Str},d.Ok P->(∀x∈kf d,x∈nk)->d.Ok (·∈nk)
 | .put y e,ho,h=>⟨h y b0,Y8 ho.2 λx hx=>h x (b7 _ hx)⟩
 | .cv l e,ho,h=>⟨ho.1,Y8 ho.2 h⟩
 | .ite e b c,ho,h=>⟨Y8 ho.1 λx hx=>h x (iu _ (iu _ hx)),dX ho.2.1 λx hx=>h x (iu _ (hJ _ hx)),dX ho.2.2 λx hx=>h x (hJ _ hx)⟩
 | .bo e b,ho,h=>⟨Y8 ho.1 λx hx=>h x (iu _ hx),dX ho.2 λx hx=>h x (hJ _ hx)⟩
theorem dX:∀{b:Bl Str},b.Ok P->(∀x∈ja b,x∈nk)->b.Ok (·∈nk)
 | .nil,_,_=>trivial
 | .cons d b,ho,h=>⟨Qw ho.1 λx hx=>h x (iu _ hx),dX ho.2 λx hx=>h x (hJ _ hx)⟩
end
mutual
theorem Gd:∀{d:Dd Str},d.Ok P->∀x∈kf d,P x
 | .put y e,h,x,hx=>by
  rcases ck hx with rfl | hx
  .exact h.1
  .exact h.2.names x hx
 | .cv l e,h,x,hx=>h.2.names x hx
 | .ite e b c,h,x,hx=>by
  rcases cz hx with hx | hx
  .rcases cz hx with hx | hx
   .exact h.1.names x hx
   .exact iY h.2.1 x hx
  .exact iY h.2.2 x hx
 | .bo e b,h,x,hx=>by
  rcases cz hx with hx | hx
  .exact h.1.names x hx
  .exact iY h.2 x hx
theorem iY:∀{b:Bl Str},b.Ok P->∀x∈ja b,P x
 | .nil,_,x,hx=>nomatch hx
 | .cons d b,h,x,hx=>by
  rcases cz hx with hx | hx
  .exact Gd h.1 x hx
  .exact iY h.2 x hx
end
end
theorem TY(h:k∈univ nm):(∃j:Int,0<=j/\k.2=(MJ,.inl j))\/∃b,b∈nm/\k.2=(J2,.inr b):=by
 obtain⟨y,_,h⟩:=List.mem_flatMap.mp h;rcases cz h with h | h
 .simp only[List.mem_cons,List.not_mem_nil,or_false]at h
  rcases h with rfl | rfl | rfl
  .exact .inl ⟨0,by decide,rfl⟩
  .exact .inl ⟨1,by decide,rfl⟩
  .exact .inl ⟨2,by decide,rfl⟩
 .obtain⟨x,hx,rfl⟩:=cw h
  exact .inr ⟨x,hx,rfl⟩
theorem zE(g:iO):(JM g).clean=true:=by
 have h1:∀t:List (Str×Key),D.clean.cy (t.map λt=>D.tup [.str t.1,dE t.2])=true:=λt=>by
  induction t with
  | nil=>rfl
  | cons a r ih=>
   show ((D.clean (dE a.2)&&true)&&_)=true;rw[ih];rcases a.2 with z | z<;>rfl
 show D.clean.cy (g.map λp=>D.lst (p.2.map λt=>.tup [.str t.1,dE t.2]))=true
 induction g with
 | nil=>rfl
 | cons a r ih=>
  show (D.clean.cy (a.2.map λt=>D.tup [.str t.1,dE t.2])&&_)=true;rw[h1,ih];rfl
theorem zJ(H:fB ab){ks:List FK}(hl:ks.length<=1000):CG W ab (n+1) "targets_by_name" [.tup (ks.map fD)] m=some (JM (ks.foldl GQ []),m):=by
 refine CV H.targets rfl (zE _) (CP (GC (d:=.tup (ks.map fD)) rfl ?_));show ((T6 (ks.map fD)).bind λks=>if ks.length<=1000 then some (JM (ks.foldl GQ []),m) else none)=_;rw[sV,bu,ag hl]
theorem Qs{a b:Ex}{i:Nat}{ks iE:List Key}{iN:List D}(h1:ev C a σ m=some (.ao i,m))(hm:m[i]?=some (.aq iE iN))(h2:ev C b σ m=some (.aq ks vs,m))(hc:D.clean.cy vs=true)(hl:iE.length+ks.length<=1000):ev C (.upd a b) σ m=some (.au,m.set i (.aq (FT iE iN ks vs).1 (FT iE iN ks vs).2)):=by
 show (ev C a σ m).bind _=_;rw[h1,bu];show (HN (.ao i) m).bind _=_;rw[vX hm,bu];show (ev C b σ m).bind _=_;rw[h2,bu];show (match m[i]? with
   | some (.aq iE iN)=>if D.clean.cy vs&&decide (iE.length+ks.length<=1000) then some (D.au,m.set i (.aq (FT iE iN ks vs).1 (FT iE iN ks vs).2)) else none
   | _=>none)=_
 rw[hm];show (if (D.clean.cy vs&&decide (iE.length+ks.length<=1000))=true then _ else _)=_;rw[hc,dm hl];rfl
theorem yW(l:List Str)(f:Str->Int):D.clean.cy (GF l f)=true:=by
 induction l with
 | nil=>rfl
 | cons a r ih=>exact ih
noncomputable def sS(b:Nat)(pd hs tl on:D)(x5 x6 x7 x8 x9:Option D):DS:=[some pd,some hs,some tl,some on,some (.ao b),x5,x6,x7,x8,x9]
noncomputable def mS(m0:Mem)(l:List Str)(f:Str->Int):Mem:=m0++[.aq (DW l) (GF l f)]
theorem Av:(mS m0 l f)[m0.length]?=some (.aq (DW l) (GF l f)):=by simp[mS]
theorem WC:(mS m0 l f).set m0.length (.aq (DW gv) (GF gv f'))=mS m0 gv f':=by simp[mS]
noncomputable def ZJ:bg:=ub (KY 4 QV)
noncomputable def Bh:bg:=ub (KY 4 ZJ)
noncomputable def mx(v x:Int):Int:=if x > v then x else v
theorem A6(v x:Int):v<=mx v x/\x<=mx v x/\(mx v x=x\/mx v x=v):=by
 unfold mx;split<;>lia
theorem zY{pd hs tl on:D}{v:Int}{x6 x7 x8:Option D}{l:List Str}{ys:List D}(CM:l.length<=1000):∀(as:List Str) (f:Str->Int) (x9:Option D),(∀a∈as,a∈l)->∃y9,forL ⟨ys,none⟩ (.nm 9) (λ σ m=>aI C W Bh σ m) (as.map .str) (sS m0.length pd hs tl on (some (.int v)) x6 x7 x8 x9) (mS m0 l f)=some (.nx (sS m0.length pd hs tl on (some (.int v)) x6 x7 x8 y9),mS m0 l λa=>if a∈as then mx v (f a) else f a)
 | [],f,x9,_=>⟨x9,QS rfl⟩
 | a::as,f,x9,ib=>by
  have ha:=ib a b0;obtain⟨y9,e⟩:=zY (pd:=pd) (hs:=hs) (tl:=tl) (on:=on) (v:=v) (x6:=x6) (x7:=x7) (x8:=x8) (ys:=ys) CM as (MF f a (mx v (f a))) (some (.str a)) λb hb=>ib b (b7 _ hb)
  have ef:(λb=>if b∈as then mx v (MF f a (mx v (f a)) b) else MF f a (mx v (f a)) b)=λb=>if b∈a::as then mx v (f b) else f b:=by
   funext b;unfold MF
   by_cases h2:b=a
   .subst h2
    rw[ag rfl,ag (show b∈b::as from b0)];have:mx v (mx v (f b))=mx v (f b):=by unfold mx;by_cases q:f b > v<;>simp[q]
    split
    .exact this
    .rfl
   .rw[ak h2]
    by_cases h1:b∈as
    .rw[ag h1,ag (b7 _ h1)]
    .rw[ak h1,ak λq=>(ck q).elim h2 h1]
  rw[ef]at e;refine⟨y9,?_⟩;have hv:ev C (.max2 (.var 5) (.sF (.var 4) (.var 9))) (sS m0.length pd hs tl on (some (.int v)) x6 x7 x8 (some (.str a))) (mS m0 l f)=some (.int (mx v (f a)),mS m0 l f):=
   vN (C:=C) (e:=.var 5) (σ:=sS m0.length pd hs tl on (some (.int v)) x6 x7 x8 (some (.str a))) (m:=mS m0 l f) (i:=v) (j:=f a) rfl (Fc (a:=.var 4) (b:=.var 9) (x:=.ao m0.length) (y:=.str a) rfl rfl (vX Av) rfl (U5 ha))
  have step:aI C W Bh (sS m0.length pd hs tl on (some (.int v)) x6 x7 x8 (some (.str a))) (mS m0 l f)=some (.nx (sS m0.length pd hs tl on (some (.int v)) x6 x7 x8 (some (.str a))),mS m0 l (MF f a (mx v (f a)))):=by
   refine jE (z:=.int (mx v (f a))) (y:=.str a) (i:=m0.length) hv rfl rfl Av rfl rfl (by unfold DW;rw[a8];lia) (N7 ?_);rw[EK ha,WC]
  exact IW rfl rfl step e
theorem rE(ps:List (Str×Int)):(JH ps).map (·.1)=CN (ps.map (·.1)):=
 List.Perm.eq_of_pairwise (le:=λa b=>FQ a b=true) (λa b _ _ h1 h2=>T.vg h1 h2)
  (List.pairwise_map.mpr (List.pairwise_mergeSort (le:=λp q:Str×Int=>FQ p.1 q.1) (λa b c h1 h2=>nF h1 h2) (λa b=>gD _ _) ps)) (K6 _)
  (((fb ps _).map (·.1)).trans (fb _ _).symm)
theorem W7(l:List Str)(f:Str->Int):(JH (l.map λa=>(a,f a))).map K4=DK (CN l) f:=by
 have hm:(l.map λa=>(a,f a)).map (·.1)=l:=by rw[bS];exact List.map_id'' (λ_=>rfl) l
 have:=rE (l.map λa=>(a,f a));rw[hm]at this;unfold DK;rw[<-this,bS];refine ke λp Ae=>?_
 obtain⟨a,_,rfl⟩:=cw ((fb _ _).mem_iff.mp Ae);rfl
theorem jK(h4:nm.length=4)(hS:eC nm l f):de (.D3 false) (.ao m0.length) (mS m0 l f)=some (.lst (DK (CN l) f),mS m0 l f):=by
 have xg:l.length<=4:=by rw[<-h4];exact hS.nd.length_le_of_subset hS.sub
 have hz:∀l:List Str,l.zip (l.map f)=l.map λa=>(a,f a):=λl=>by
  induction l with
  | nil=>rfl
  | cons a r ih=>rw[cn,List.zip_cons_cons,ih];rfl
 have e1:(DW l).map de.kD=l.map .str:=by simp[DW,de.kD]
 have e2:GF l f=(l.map f).map .int:=by unfold GF;rw[bS];rfl
 show ((HN (.ao m0.length) (mS m0 l f)).bind λq=>(strsOf (q.1.map de.kD)).bind λss=>(intsOf q.2).bind λns=>if ss.length<=4/\ss.Nodup then some (bw false ((JH (ss.zip ns)).map K4) (mS m0 l f)) else none)=_;rw[vX Av,bu];show ((strsOf ((DW l).map de.kD)).bind λss=>(intsOf (GF l f)).bind λns=>if ss.length<=4/\ss.Nodup then some (bw false ((JH (ss.zip ns)).map K4) (mS m0 l f)) else none)=_;rw[e1,aG,bu,e2,ints_of,bu,ag ⟨xg,hS.nd⟩,hz,W7];rfl
theorem xZ(qs:List (Str×Int)):KQ (qs.map K4)=some qs:=by
 induction qs with
 | nil=>rfl
 | cons a r ih=>simp only[cn,K4,KQ]at ih ⊢;rw[show KQ (r.map K4)=some r from ih];rfl
theorem gH(hn:l.Nodup)(h4:l.length<=4)(m:Mem):de (.sorted false) (.lst ((l.map λa=>(a,f a)).map K4)) m=some (.lst (DK (CN l) f),m):=by
 show ((KQ ((l.map λa=>(a,f a)).map K4)).bind λqs=>if ((l.map λa=>(a,f a)).map K4).length<=4/\(qs.map (·.1)).Nodup then some (bw false ((JH qs).map K4) m) else none)=_;rw[xZ,bu,ag ⟨by simpa using h4,by rw[bS];show (l.map id).Nodup;rw[List.map_id];exact hn⟩,W7];rfl
noncomputable def gy(nm:List Str)(sd:Int)(ks:List Str):List Str:=CN (ks.map (a6 nm sd))
theorem pE:y∈gy nm sd ks↔∃x∈ks,a6 nm sd x=y:=by
 unfold gy CN;rw[(fb _ _).mem_iff,List.mem_map]
theorem QK{nm:List Str}{sd:Int}(h4:nm.length=4):∀{ks:List Str},ks.Nodup->(∀x∈ks,x∈nm)->(ks.map (a6 nm sd)).Nodup
 | [],_,_=>mq
 | a::r,hn,hs=>by
  rw[List.nodup_cons]at hn;refine List.nodup_cons.mpr ⟨λq=>?_,QK h4 hn.2 λx hx=>hs x (b7 _ hx)⟩;obtain⟨x,hx,e⟩:=cw q;exact hn.1 (O1 h4 (hs x (b7 _ hx)) (hs a b0) e▸hx)
noncomputable def eg(nm:List Str)(sd:Int)(f:Str->Int)(y:Str):Int:=((nm.find? λx=>decide (a6 nm sd x=y)).map f).getD 0
theorem LK(h4:nm.length=4)(hx:x∈nm):eg nm sd f (a6 nm sd x)=f x:=by
 unfold eg;cases h:nm.find? (λz=>decide (a6 nm sd z=a6 nm sd x)) with
 | none=>exact absurd (List.find?_eq_none.mp h x hx) (by simp)
 | some z=>
  have h1:=List.find?_some h;have h2:=List.mem_of_find?_eq_some h;rw[O1 h4 h2 hx (f7 h1)];rfl
theorem EC(h:∀x∈nm,a6 nm sd x≠y):eg nm sd f y=0:=by
 unfold eg;rw[List.find?_eq_none.mpr λx hx=>by simp[h x hx]];rfl
theorem nZ(h4:nm.length=4)(hS:eC nm ks f):eC (nm.map (a6 nm sd)) (gy nm sd ks) (eg nm sd f) where
 nd:=(fb _ _).nodup_iff.mpr (QK h4 hS.nd hS.sub)
 sub:=λy hy=>by
  obtain⟨x,hx,rfl⟩:=pE.mp hy;exact gh (hS.sub x hx)
 zero:=λy hy=>by
  by_cases h:∃x∈nm,a6 nm sd x=y
  .obtain⟨x,hx,rfl⟩:=h
   rw[LK h4 hx];exact hS.zero x λq=>hy (pE.mpr ⟨x,q,rfl⟩)
  .exact EC λx hx e=>h ⟨x,hx,e⟩
theorem m9(H:qN ab)(h4:nm.length=4)(hs:0<=sd)(hn:ks.Nodup)(hk:∀x∈ks,x∈nm)(m:Mem):CG W ab (n+2) "_law_pairs_else" [.lst (nm.map .str),.int sd,.tup (DK ks f)] m=some (.tup (DK (gy nm sd ks) (eg nm sd f)),m):=by
 have hl:ks.length<=4:=by rw[<-h4];exact hn.length_le_of_subset hk
 have Ai:=QK (sd:=sd) h4 hn hk;have comp:ev (CG W ab (n+1)) (.comp false 2 (.tp [(.nm 3),(.nm 4)]) (.seq (.var 2)) .tt (.tup (.cons (.call "_law_else" (.cons (.var 0) (.cons (.var 1) (.cons (.var 3) .nil)))) (.cons (.var 4) .nil)))) [some (.lst (nm.map .str)),some (.int sd),some (.tup (DK ks f))] m=some (.lst ((ks.map λx=>(a6 nm sd x,f x)).map K4),m):=by
  rw[JW (xs:=ks) (dd:=λx=>.tup [.str x,.int (f x)]) (h:=λx=>some (K4 (a6 nm sd x,f x))) rfl rfl (by lia) λx hx=>?_]
  .rw[ki,bS];rfl
  .exact⟨[some (.lst (nm.map .str)),some (.int sd),some (.tup (DK ks f)),some (.str x),some (.int (f x))],true,rfl,rfl,by rw[ag rfl];exact⟨rfl,G6 (BR (BX (dO H h4 hs (hk x hx)) rfl) (BR rfl rfl)) (di rfl)⟩⟩
 have hf:(ks.map λx=>(a6 nm sd x,f x))=(ks.map (a6 nm sd)).map λy=>(y,eg nm sd f y):=by
  rw[bS];exact ke λx hx=>by show _=(a6 nm sd x,eg nm sd f (a6 nm sd x));rw[LK h4 (hk x hx)]
 have so:=gH (f:=eg nm sd f) Ai (by rw[a8];exact hl) m;rw[hf]at comp;have cl:D.clean.cy (DK (gy nm sd ks) (eg nm sd f))=true:=K1 _ _;exact CV H.pairs rfl cl (CP (GC (GC comp so) rfl))
theorem kZ{k:Nat}(h:(PyData.str x).canLay0=true):b6 k (.str x)=true:=by cases k<;>exact h
theorem SX{k:Nat}(h:(PyData.str (Str.ofString s)).canLay0=true:=by decide +kernel):b6 k (.str (Str.ofString s))=true:=kZ h
theorem yD(hy:∀x∈nm,(PyData.str x).canLay0=true):∀{t:Tm Str} {k:Nat},t.Ok (·∈nm)->t.dep<k->b6 k (dT t)=true
 | .num j,k+1,_,_=>by
  show (b6 k (.str "number")&&(b6 k (.int j)&&true))=true;rw[SX];cases k<;>rfl
 | .ee x,k+1,h,_=>by
  show (b6 k (.str "name")&&(b6 k (.str x)&&true))=true;rw[SX,kZ (hy x h)];rfl
 | .bin o a b,k+1,h,hd=>by
  simp only[Tm.dep]at hd;show (b6 k (.str (Str.ofString (m5 o)))&&(b6 k (dT a)&&(b6 k (dT b)&&true)))=true;rw[SX (by cases o<;>decide +kernel),yD hy h.1 (by lia),yD hy h.2 (by lia)];rfl
mutual
theorem Sx(hy:∀x∈nm,(PyData.str x).canLay0=true):∀{d:Dd Str} {k:Nat},d.Ok (·∈nm)->2*d.dep+1<k->b6 k (dD d)=true
 | .put x e,k+1,h,hd=>by
  simp only[Dd.dep]at hd;show (b6 k (.str "put")&&(b6 k (.str x)&&(b6 k (dT e)&&true)))=true;rw[SX,kZ (hy x h.1),yD hy h.2 (by lia)];rfl
 | .cv j e,k+1,h,hd=>by
  simp only[Dd.dep]at hd;show (b6 k (.str "show")&&(b6 k (.int j)&&(b6 k (dT e)&&true)))=true;rw[SX,yD hy h.2 (by lia)];cases k<;>rfl
 | .ite e b c,k+1,h,hd=>by
  simp only[Dd.dep]at hd;show (b6 k (.str "if")&&(b6 k (dT e)&&(b6 k (.tup (dB b))&&(b6 k (.tup (dB c))&&true))))=true;rw[SX,yD hy h.1 (by lia),vm hy h.2.1 (by lia),vm hy h.2.2 (by lia)];rfl
 | .bo e b,k+1,h,hd=>by
  simp only[Dd.dep]at hd;show (b6 k (.str "while")&&(b6 k (dT e)&&(b6 k (.tup (dB b))&&true)))=true;rw[SX,yD hy h.1 (by lia),vm hy h.2 (by lia)];rfl
theorem vm(hy:∀x∈nm,(PyData.str x).canLay0=true):∀{b:Bl Str} {k:Nat},b.Ok (·∈nm)->2*b.dep+2<k->b6 k (.tup (dB b))=true
 | .nil,k+1,_,_=>rfl
 | .cons d b,k+1,h,hd=>by
  simp only[Bl.dep]at hd;show (b6 k (dD d)&&b6 (k+1) (.tup (dB b)))=true;rw[Sx hy h.1 (by lia),vm hy h.2 (by lia)];rfl
end
theorem Lp{k:Nat}(h:∀x∈ks,(PyData.str x).canLay0=true):b6 (k+2) (.tup (DK ks f))=true:=by
 show (DK ks f).all (b6 (k+1))=true;rw[rX];intro d hd;obtain⟨x,hx,rfl⟩:=cw hd;show (b6 k (.str x)&&(b6 k (.int (f x))&&true))=true;rw[kZ (h x hx)];cases k<;>rfl
theorem NB(x:Str):(PyData.str (a6 nm sd x)).canLay0=true:=by
 have h:∀c∈(a6 nm sd x).cps.toList,c<=122:=λc hc=>by
  have hc:c∈[122-((7*(lI nm x:Int)+sd) % 26).toNat]++oP sd:=by
   have:(a6 nm sd x).cps.toList=[122-((7*(lI nm x:Int)+sd) % 26).toNat]++oP sd:=by
    show (#[122-((7*(lI nm x:Int)+sd) % 26).toNat]++(oP sd).toArray:Array Nat).toList=_;simp
   rw[<-this];exact hc
  rcases cz hc with hc | hc
  .rw[eR hc];lia
  .have:=List.mem_of_mem_take hc
   simp at this;lia
 simp only[PyData.canLay0,PyData.strOk,Array.all_eq_true_iff_forall_mem];intro c hc;have:=h c (by simpa using hc);simp;lia
theorem zX:∀(a:List Str) (b:List Int),ZR (a.map .str) (b.map .int)=(a.zip b).map K4
 | [],_=>by simp[ZR]
 | _::_,[]=>by simp[ZR]
 | x::a,y::b=>by simp[ZR,zX a b,K4]
theorem rB{G:Str->Int}(hn:l.Nodup)(hs:∀x∈l,x∈nm):eC nm (CN l) (λx=>if x∈l then G x else 0)/\DK (CN l) G=DK (CN l) λx=>if x∈l then G x else 0:=by
 have hp:(CN l).Perm l:=fb _ _;exact⟨⟨hp.nodup_iff.mpr hn,λx hx=>hs x (hp.mem_iff.mp hx),λx hx=>ak λq=>hx (hp.mem_iff.mpr q)⟩,ke λx hx=>by simp only[ag (hp.mem_iff.mp hx)]⟩
theorem zW:∀(a:List Str) (b:List Int),a.Nodup->a.length=b.length->∃G:Str->Int,a.zip b=a.map (λx=>(x,G x))/\∀x∈a,G x∈b
 | [],_,_,_=>⟨λ_=>0,by simp,by simp⟩
 | x::a,y::b,hn,hl=>by
  obtain⟨hx,hn⟩:=k0 hn;obtain⟨G,e,h⟩:=zW a b hn (Nat.succ.inj hl);refine⟨λz=>if z=x then y else G z,?_,λz hz=>?_⟩
  .rw[List.zip_cons_cons,cn,e]
   simp only[if_true];congr 1;exact ke λz hz=>by simp only[ak λq:z=x=>hx (q▸hz)]
  .by_cases q:z=x
   .simp only[ag q];exact b0
   .simp only[ak q];exact b7 _ (h z ((ck hz).resolve_left q))
theorem Oz(H:HasP ab)(Hh:ab "_law_house" = some fH)(m:Mem):∃(hk:List Str) (g:Str->Int),eC (JK (DY ns 0)) hk g/\(∀x,0<=g x/\g x<=2)/\CG W ab (n+10) "_law_house" [.bP ns] m=some (.tup (DK hk g),m):=by
 have hc:=YJ (W:=W) (n:=n+8) (m:=m) H.cell (ns:=ns) (k:=1);have hn:=aU (W:=W) (n:=n+6) (m:=m) H.mix H.cell H.name H.names (ns:=ns);have hl:=pR (W:=W) (n:=n+7) (m:=m) H.mix H.cell H.levels (ns:=ns);have cE:=names_nodup (DY ns 0);have IC:=oX (DY ns 1);have aaC:(JK (DY ns 0)).length=4:=rfl;obtain⟨G,e,hG⟩:=zW _ (O4 (DY ns 1)) cE rfl;have hz:=zX (JK (DY ns 0)) (O4 (DY ns 1));rw[e]at hz;have hG:∀x∈JK (DY ns 0),0<=G x/\G x<=2:=λx hx=>by have:=IC _ (hG x hx);lia
 generalize JK (DY ns 0)=nm at *;have lz:ev (CG W ab (n+9)) (.DC false (.call "_law_names" (.cons (.var 0) .nil)) (.call "_law_levels" (.cons (.var 0) .nil))) [some (.bP ns),none] m=some (.lst ((nm.map λx=>(x,G x)).map K4),m):=by
  rw[<-hz];show (ev (CG W ab (n+9)) (.call "_law_names" (.cons (.var 0) .nil)) [some (.bP ns),none] m).bind _=_;rw[BX hn rfl,bu];show (ev (CG W ab (n+9)) (.call "_law_levels" (.cons (.var 0) .nil)) [some (.bP ns),none] m).bind _=_;rw[BX hl rfl,bu];show (if (nm.map D.str).length<=1000 then some (bw false (ZR (nm.map .str) ((O4 (DY ns 1)).map .int)) m) else none)=_;rw[ag (by rw[a8];lia)];rfl
 have fin:∀l:List Str,l.Sublist nm->(aI (CG W ab (n+9)) W (KY 2 dY) [some (.bP ns),some (.lst ((l.map λx=>(x,G x)).map K4))] m=aI (CG W ab (n+9)) W dY [some (.bP ns),none] m)->∃(hk:List Str) (g:Str->Int),eC nm hk g/\(∀x,0<=g x/\g x<=2)/\CG W ab (n+10) "_law_house" [.bP ns] m=some (.tup (DK hk g),m):=λl hs e=>by
  have xp:=rB (G:=G) (hs.nodup cE) λx hx=>hs.subset hx
  refine⟨_,_,xp.1,λx=>?_,CV (n:=n+9) Hh rfl (K1 _ _) ?_⟩
  .by_cases q:x∈l
   .simp only[ag q];exact hG x (hs.subset q)
   .simp only[ak q];lia
  .refine e.symm.trans (CP (GC (GC rfl (gH (hs.nodup cE) (by have:=hs.length_le;lia) m)) ?_))
   rw[xp.2];rfl
 by_cases h3:DY ns 1 % 3=0
 .refine fin (nm.filter λx=>decide (0<G x)) List.filter_sublist (Eq.symm (CJ lz (JG (J5 (p:=DY ns 1 % 3=0) (GD (HJ (FJ (BX hc rfl) rfl (K3 (by decide))) rfl rfl) rfl) h3) (CJ ?_ rfl) rfl)))
  rw[JW (xs:=nm) (dd:=λx=>K4 (x,G x)) (h:=λx=>if 0<G x then some (K4 (x,G x)) else none) rfl (R8 (by rw[bS];rfl)) (by lia)]
  .rw[bS,<-ki,List.filterMap_filter]
   simp only[decide_eq_true_eq];rfl
  .intro x _
   refine⟨_,decide (0<G x),rfl,rfl,?_⟩
   by_cases h:0<G x
   .rw[ag (dm h),ag h];exact⟨rfl,rfl⟩
   .rw[dn h,ak (by decide),ak h]
 .exact fin nm (List.Sublist.refl _) (Eq.symm (CJ lz (EY (G7 (p:=DY ns 1 % 3=0) (GD (HJ (FJ (BX hc rfl) rfl (K3 (by decide))) rfl rfl) rfl) h3) rfl)))
noncomputable def lD(hk:List Str)(f:Str->Int):D:=.tup [.str "house",.tup (DK hk f)]
theorem pL(hk:List Str)(f:Str->Int):(lD hk f).clean=true:=by
 show (D.clean.cy (DK hk f)&&true)=true;rw[show D.clean.cy (DK hk f)=true from K1 hk f];rfl
theorem uX{nm:List Str}{g:Str->Int}:∀(hk l:List Str) (f:Str->Int),eC nm l f->hk.Nodup->(∀x∈hk,x∈nm)->∃gv f',FT (DW l) (GF l f) (DW hk) (GF hk g)=(DW gv,GF gv f')/\eC nm gv f'/\(∀a,a∈gv↔a∈l\/a∈hk)/\∀a,f' a=if a∈hk then g a else f a
 | [],l,f,hS,_,_=>⟨l,f,rfl,hS,λa=>by simp,λa=>rfl⟩
 | x::r,l,f,hS,hn,hs=>by
  obtain⟨hx,hn⟩:=k0 hn;obtain⟨l1,e,r8⟩:=uY hS (hs x b0) (g x);have hm:∀a,a∈l1↔a∈l\/a=x:=λa=>by
   have hk:∀l:List Str,(.inr a:Key)∈DW l↔a∈l:=λl=>by simp[DW]
   have e1:(putD (DW l) (GF l f) (.inr x) (.int (g x))).1=DW l1:=by rw[e]
   rw[<-hk l1,<-e1];unfold putD
   by_cases q:x∈l
   .rw[ag (mL q)]
    show (.inr a:Key)∈DW l↔_;rw[hk];exact⟨.inl,λz=>z.elim id λz=>z▸q⟩
   .rw[mO q]
    show (.inr a:Key)∈DW l++[.inr x]↔_;rw[List.mem_append,hk];simp
  obtain⟨gv,f',e2,ui,m2,v2⟩:=uX r l1 (MF f x (g x)) r8 hn λy hy=>hs y (b7 _ hy)
  refine⟨gv,f',?_,ui,λa=>by rw[m2,hm,List.mem_cons];exact or_assoc,λa=>?_⟩
  .show FT (putD (DW l) (GF l f) (.inr x) (.int (g x))).1 (putD (DW l) (GF l f) (.inr x) (.int (g x))).2 (DW r) (GF r g)=_
   rw[e];exact e2
  .rw[v2]
   unfold MF
   by_cases h1:a∈r
   .rw[ag h1,ag (b7 _ h1)]
   .rw[ak h1]
    by_cases h2:a=x
    .rw[ag h2,ag (by rw[h2];exact b0),h2]
    .rw[ak h2,ak λq=>(ck q).elim h2 h1]
theorem Rp(HT:fB ab)(HW:HasW ab)(h4:nm.length=4)(hW:2100<W)(ho:p.Ok (·∈nm))(hd:p.dep<=4)(hz:p.size<=63):∃(ks:List FK) (l0:List Str),(∀k,k∈ks↔k∈dk [] p)/\ks.length<=28/\eC nm l0 (λ_=>0)/\(∀x,x∈l0↔x∈ja p)/\∀{hk:List Str} {g:Str->Int} {X},hk.Nodup->hk.length<=4->aI (CG W ab (n+13)) W (KY 4 QV) (sS m.length (.tup (dB p)) (.tup (DK hk g)) (bz hk g) (JM (ks.foldl GQ [])) none none none none none) (m++[.aq (FT (DW l0) (GF l0 λ_=>0) (DW hk) (GF hk g)).1 (FT (DW l0) (GF l0 λ_=>0) (DW hk) (GF hk g)).2])=X->aI (CG W ab (n+13)) W QV [some (.tup (dB p)),some (.tup (DK hk g)),none,none,none,none,none,none,none,none] m=X:=by
 obtain⟨fs,a1,a2,a3,a4⟩:=aV (W:=W) (n:=n) (m:=m) HW h4 (by lia) ho (by lia);have hw:=pY p hd;obtain⟨nk,k1,k2,k3⟩:=VN (W:=W) (n:=n+11) (m0:=m) HW.parts HW.names (nm:=nm) (by lia) (ps:=p.list.map .dd) (by rw[aK];lia) (by rw[aK];lia) (λpt xm x hx=>by
  obtain⟨d,d6,rfl⟩:=cw xm;exact Gd (ho.mem d d6) x hx)
 rw[LO]at k3;have IH:∀x,x∈nk↔x∈ja p:=λx=>by rw[k2,mD]
 have hp:=fb nk FQ;have hp:(CN nk).Perm nk:=hp;generalize CN nk=l0 at k3 hp;have jl:∀x∈l0,x∈nm:=λx hx=>iY ho x ((IH x).mp (hp.mem_iff.mp hx))
 have cE:l0.Nodup:=hp.nodup_iff.mpr k1;have Vm:l0.length<=4:=by rw[<-h4];exact cE.length_le_of_subset jl
 have C8:(G8 fs).Perm fs:=fb _ _;generalize G8 fs=ks at a4 C8;have xf:ks.length<=28:=by rw[C8.length_eq];exact a3
 refine⟨ks,l0,λk=>by rw[C8.mem_iff,a2],xf,⟨cE,jl,λ_ _=>rfl⟩,λx=>by rw[hp.mem_iff,IH],λ {hk g X} h1 h2 h3=>?_⟩;have Im:=zJ (W:=W) (n:=n+12) (m:=m) HT (ks:=ks) (by lia);have Cs:de (.dict false) (.tup (DK hk g)) m=some (bz hk g,m):=aQ h1 (by lia) false m;have comp:ev (CG W ab (n+13)) (.comp false 1 (.nm 10) (.seq (.call "names_of" (.cons (.var 0) .nil))) .tt (.tup (.cons (.var 10) (.cons (.con (.int 0)) .nil)))) [some (.tup (dB p)),some (.tup (DK hk g)),some (bz hk g),some (JM (ks.foldl GQ [])),none,none,none,none,none,none] m=some (.lst (l0.map λa=>.tup [.str a,.int 0]),m):=by
  rw[JW (xs:=l0) (dd:=.str) (h:=λa=>some (.tup [.str a,.int 0])) rfl (aP (BX k3 rfl)) (by lia)]
  .rw[ki]
  .intro a _
   refine⟨[some (.tup (dB p)),some (.tup (DK hk g)),some (bz hk g),some (JM (ks.foldl GQ [])),none,none,none,none,none,none,some (.str a)],true,rfl,rfl,?_⟩;rw[ag rfl];exact⟨rfl,rfl⟩
 have e1:DQ (l0.map λa=>(a,D.int 0))=DW l0:=by unfold DQ DW;rw[bS];rfl
 have e2:DR (l0.map λa=>(a,D.int 0))=GF l0 λ_=>0:=by unfold DR GF;rw[bS];rfl
 have xb:=pD (z:=.int 0) cE (by lia) true m;rw[e1,e2]at xb;refine CJ (GC rfl Cs) (CJ (BX Im (BR (BX a4 rfl) rfl)) (CJ (d:=.ao m.length) (m1:=mS m l0 λ_=>0) (GC comp xb) ?_));refine HX (Qs (i:=m.length) (ks:=DW hk) (vs:=GF hk g) rfl Av rfl (yW hk g) (by unfold DW;rw[a8,a8];lia)) ?_;have:∀q:List Key×List D,(mS m l0 λ_=>0).set m.length (.aq q.1 q.2)=m++[.aq q.1 q.2]:=λq=>by simp[mS]
 rw[this];exact h3
noncomputable def n9(hk:List Str)(g:Str->Int)(v:Int):List Str:=hk.filter λx=>decide (g x=v)
abbrev LR (ks:List FK) (hk:List Str) (g:Str->Int) (v:Int) (a:Str):Prop:=nq ks hk (n9 hk g v) a
noncomputable abbrev sH (m:Mem) (pd:D) (hk:List Str) (g:Str->Int) (ks:List FK) (x5 x6 x7 x8 x9:Option D):DS:=sS m.length pd (.tup (DK hk g)) (bz hk g) (JM (ks.foldl GQ [])) x5 x6 x7 x8 x9
theorem E3(HT:fB ab){nm hk:List Str}{g:Str->Int}{ks:List FK}{l:List Str}{pd:D}(h4:nm.length=4)(ie:∀k∈ks,k∈univ nm)(xf:ks.length<=28)(hn:hk.Nodup)(hs:∀x∈hk,x∈nm)(hW:2100<W)(cE:l.Nodup)(hl:∀x∈l,x∈nm)(ib:∀v a,LR ks hk g v a->a∈l){ys:List D}:∀(vs:List Int) (f:Str->Int) (x5 x6 x7 x8 x9:Option D),
  (∃f' y5 y6 y7 y8 y9,forL ⟨ys,none⟩ (.nm 5) (λ σ m=>aI (CG W ab (n+13)) W ZJ σ m) (vs.map .int) (sH m pd hk g ks x5 x6 x7 x8 x9) (mS m l f)=some (.nx (sH m pd hk g ks y5 y6 y7 y8 y9),mS m l f')/\(∀a,f a<=f' a)/\(∀v∈vs,∀a,LR ks hk g v a->v<=f' a)/\(∀a,f' a=f a\/LR ks hk g (f' a) a)/\∀v∈vs,∀a t,LR ks hk g v a->(a,t)∈ks->VP hk g v t=false)\/
  ∃f' v a ws t,Way ks (n9 hk g v) a ws/\LR ks hk g v a/\(a,t)∈ks/\VP hk g v t=true/\forL ⟨ys,none⟩ (.nm 5) (λ σ m=>aI (CG W ab (n+13)) W ZJ σ m) (vs.map .int) (sH m pd hk g ks x5 x6 x7 x8 x9) (mS m l f)=some (.rt (pV ws t),mS m l f')
 | [],f,x5,x6,x7,x8,x9=>.inl ⟨f,x5,x6,x7,x8,x9,QS rfl,λ_=>Int.le_refl _,λv hv=>(nomatch hv),λ_=>.inl rfl,λv hv=>(nomatch hv)⟩
 | v::vs,f,x5,x6,x7,x8,x9=>by
  have IB:hk.length<=4:=by rw[<-h4];exact hn.length_le_of_subset hs
  have xg:l.length<=4:=by rw[<-h4];exact cE.length_le_of_subset hl
  have ec:ev (CG W ab (n+13)) (.comp false 2 (.tp [(.nm 10),(.nm 11)]) (.seq (.var 1)) (.val (.cmp .eq (.var 11) (.var 5))) (.var 10)) (sH m pd hk g ks (some (.int v)) x6 x7 x8 x9) (mS m l f)=some (.lst ((n9 hk g v).map .str),mS m l f):=by
   rw[JW (xs:=hk) (dd:=λx=>.tup [.str x,.int (g x)]) (h:=λx=>if g x=v then some (.str x) else none) rfl rfl (by lia)]
   .unfold n9
    rw[<-ki,List.filterMap_filter];simp only[decide_eq_true_eq]
   .intro x _
    refine⟨sH m pd hk g ks (some (.int v)) x6 x7 x8 x9++[some (.str x),some (.int (g x))],decide (g x=v),rfl,rfl,?_⟩
    by_cases h:g x=v
    .rw[ag (dm h),ag h];exact⟨rfl,rfl⟩
    .rw[dn h,ak (by decide),ak h]
  obtain⟨R,B,er⟩:=zK (W:=W) (n:=n+12) (hk:=hk) (g:=g) HT h4 ie (by lia) (s0:=n9 hk g v) (hn.filter _) (λa ha=>hs a (j3 ha).1) (by lia) (mS m l f);have Ic:R.length<=4:=by
   have:=B.nd.length_le_of_subset B.sub;rw[a8]at this;lia
  have CF:(DQ R).map dE=(R.map (·.1)).map .str:=by
   unfold DQ;rw[bS,bS];rfl
  rcases Ou (W:=W) (n:=n+11) (v:=v) (g:=g) (m:=mS m l f) HT (λk hk=>W5 k (ie k hk)) B Ic (by lia) with ⟨BS,C3⟩ | ⟨a,ws,t,ha,ht,hw,lq,BS⟩
  .obtain⟨y9,ez⟩:=zY (C:=CG W ab (n+13)) (W:=W) (m0:=m) (pd:=pd) (hs:=.tup (DK hk g)) (tl:=bz hk g) (on:=JM (ks.foldl GQ [])) (v:=v) (x6:=some (.lst ((n9 hk g v).map .str))) (x7:=some (.aq (DQ R) (DR R))) (x8:=some .au) (ys:=(R.map (·.1)).map .str) (l:=l) (by lia) (R.map (·.1)) f x9 λa ha=>ib v a (B.iff.mp ha)
   have sj:ei (CG W ab (n+13)) (.keys (.var 7)) (sH m pd hk g ks (some (.int v)) (some (.lst ((n9 hk g v).map .str))) (some (.aq (DQ R) (DR R))) (some .au) x9) (mS m l f)=some (⟨(R.map (·.1)).map .str,none⟩,mS m l f):=by
    rw[<-CF];rfl
   have lj:aI (CG W ab (n+13)) W ZJ (sH m pd hk g ks (some (.int v)) x6 x7 x8 x9) (mS m l f)=some (.nx (sH m pd hk g ks (some (.int v)) (some (.lst ((n9 hk g v).map .str))) (some (.aq (DQ R) (DR R))) (some .au) y9),mS m l λa=>if a∈R.map (·.1) then mx v (f a) else f a):=CJ ec (CJ (BX er rfl) (CJ (BX BS rfl) (EY (GD rfl rfl) (QZ (b:=Bh) (w:=⟨(R.map λp:Str×D=>p.1).map D.str,none⟩) (m1:=mS m l f) sj ez rfl))));have up:∀a,f a<=(if a∈R.map (·.1) then mx v (f a) else f a):=λa=>by
    split
    .exact(A6 v (f a)).2.1
    .exact Int.le_refl _
   rcases E3 HT h4 ie xf hn hs hW cE hl ib (ys:=ys) vs (λa=>if a∈R.map (·.1) then mx v (f a) else f a) (some (.int v)) (some (.lst ((n9 hk g v).map .str))) (some (.aq (DQ R) (DR R))) (some .au) y9 with ⟨f',y5,y6,y7,y8,z9,e,q1,q2,q3,q4⟩ | ⟨f',u,a,ws,t,q1,q2,q3,q4,e⟩
   .refine .inl ⟨f',y5,y6,y7,y8,z9,IW rfl rfl lj e,λa=>Int.le_trans (up a) (q1 a),λu hu a ha=>?_,λa=>?_,λu hu a t ha ht=>?_⟩
    .rcases ck hu with rfl | hu
     .have:=q1 a
      rw[ag (B.iff.mpr ha)]at this;exact Int.le_trans (A6 u (f a)).1 this
     .exact q2 u hu a ha
    .rcases q3 a with q | q
     .by_cases ha:a∈R.map (·.1)
      .rw[ag ha]at q
       rcases(A6 v (f a)).2.2 with z | z
       .exact .inl (q.trans z)
       .exact .inr (by rw[q,z];exact B.iff.mp ha)
      .rw[ak ha]at q;exact .inl q
     .exact .inr q
    .rcases ck hu with rfl | hu
     .exact C3 a (B.iff.mpr ha) t (oi.mpr ht)
     .exact q4 u hu a t ha ht
   .exact .inr ⟨f',u,a,ws,t,q1,q2,q3,q4,IW rfl rfl lj e⟩
  .refine .inr ⟨f,v,a,ws,t,hw,B.iff.mp ha,oi.mp ht,lq,?_⟩
   have lj:aI (CG W ab (n+13)) W ZJ (sH m pd hk g ks (some (.int v)) x6 x7 x8 x9) (mS m l f)=some (.rt (pV ws t),mS m l f):=CJ ec (CJ (BX er rfl) (CJ (BX BS rfl) (FZ (GD rfl rfl) (CP rfl))));rw[cn,forL,ag (show Walk.ok ⟨ys,none⟩ (mS m l f)=true from rfl)];show (aI (CG W ab (n+13)) W ZJ (sH m pd hk g ks (some (.int v)) x6 x7 x8 x9) (mS m l f)).bind _=_;rw[lj];rfl
section
variable{ks bj:List FK}
theorem nq.mono(h:∀k∈ks,k∈bj)(r:nq ks hk s0 a):nq bj hk s0 a:=by
 induction r with
 | st q=>exact .st q
 | go _ e n ih=>exact .go ih (h _ e) n
theorem Way.mono(h:∀k∈ks,k∈bj)(r:Way ks s0 a ws):Way bj s0 a ws:=by
 induction r with
 | st q=>exact .st q
 | go _ e ih=>exact .go ih (h _ e)
theorem nq.WB(r:LR ks hk g v a):∃x∈hk,g x=v:=by
 induction r with
 | st q=>exact⟨_,(j3 q).1,f7 (j3 q).2⟩
 | go _ _ _ ih=>exact ih
end
structure BC(ks:List FK)(hk:List Str)(g f:Str->Int):Prop where
 lo:∀a,(if a∈hk then g a else 0)<=f a
 up:∀v a,LR ks hk g v a->v<=f a
 is:∀a,f a=(if a∈hk then g a else 0)\/LR ks hk g (f a) a
theorem F7(ho:p.Ok P)(hk:k∈dk [] p)(hb:k.2.2=.inr b):b∈ja p:=by
 rcases TY (JX (nm:=ja p) (dX ho λx hx=>hx) (by simp) k hk) with ⟨j,_,e⟩ | ⟨c,hc,e⟩
 .rw[e]at hb;cases hb
 .rw[e]at hb;cases hb;exact hc
theorem iV(HT:fB ab)(HW:HasW ab)(h4:nm.length=4)(hW:2100<W)(ho:p.Ok (·∈nm))(hd:p.dep<=4)(hz:p.size<=63)(hn:hk.Nodup)(hs:∀x∈hk,x∈nm)(hg:∀x∈hk,0<=g x/\g x<=2):
  (∃l f,eC nm l f/\(∀x,x∈l↔x∈ja p\/x∈hk)/\BC (dk [] p) hk g f/\(∀v a t,LR (dk [] p) hk g v a->(a,t)∈dk [] p->VP hk g v t=false)/\CG W ab (n+14) "settled" [.tup (dB p),.tup (DK hk g)] m=some (lD (CN l) f,m))\/
  ∃v a ws t,Way (dk [] p) (n9 hk g v) a ws/\LR (dk [] p) hk g v a/\(a,t)∈dk [] p/\VP hk g v t=true/\CG W ab (n+14) "settled" [.tup (dB p),.tup (DK hk g)] m=some (pV ws t,m):=by
 obtain⟨ks,l0,a1,a2,hS,a3,pre⟩:=Rp (W:=W) (n:=n) (m:=m) HT HW h4 hW ho hd hz;have to:∀k∈ks,k∈dk [] p:=λk=>(a1 k).mp
 have un:∀k∈dk [] p,k∈ks:=λk=>(a1 k).mpr
 have IB:hk.length<=4:=by rw[<-h4];exact hn.length_le_of_subset hs
 obtain⟨l,f,e1,r8,m1,v1⟩:=uX (g:=g) hk l0 _ hS hn hs;have pre:=pre (hk:=hk) (g:=g) (X:=aI (CG W ab (n+13)) W (KY 4 QV) (sH m (.tup (dB p)) hk g ks none none none none none) (mS m l f)) hn IB (by rw[e1];rfl);have ib:∀v a,LR ks hk g v a->a∈l:=λv a r=>by
  cases r with
  | st q=>exact(m1 a).mpr (.inr (j3 q).1)
  | go _ e _=>exact(m1 a).mpr (.inl ((a3 a).mpr (F7 ho (to _ e) rfl)))
 have ec:ev (CG W ab (n+13)) (.comp false 2 (.tp [(.nm 10),(.nm 11)]) (.seq (.var 1)) .tt (.var 11)) (sH m (.tup (dB p)) hk g ks none none none none none) (mS m l f)=some (.lst ((hk.map g).map .int),mS m l f):=by
  rw[JW (xs:=hk) (dd:=λx=>.tup [.str x,.int (g x)]) (h:=λx=>some (.int (g x))) rfl rfl (by lia)]
  .rw[ki,bS];rfl
  .exact λx _=>⟨sH m (.tup (dB p)) hk g ks none none none none none++[some (.str x),some (.int (g x))],true,rfl,rfl,by rw[ag rfl];exact⟨rfl,rfl⟩⟩
 have es:de (.yi false) (.lst ((hk.map g).map .int)) (mS m l f)=some (.lst ((([0,1,2]:List Int).filter λv=>decide (v∈hk.map g)).map .int),mS m l f):=by
  show ((intsOf ((hk.map g).map .int)).bind λns=>if ns.length<=4000/\ns.all (λn=>decide (0<=n/\n<=2))=true then some (bw false ((([0,1,2]:List Int).filter λv=>decide (v∈ns)).map .int) (mS m l f)) else none)=_;rw[ints_of,bu,ag ⟨by rw[a8];lia,List.all_eq_true.mpr λy hy=>by
   obtain⟨x,hx,rfl⟩:=cw hy;exact dm (hg x hx)⟩]
  rfl
 have lv:∀{v a},LR ks hk g v a->v∈([0,1,2]:List Int).filter λv=>decide (v∈hk.map g):=λr=>by
  obtain⟨x,hx,rfl⟩:=r.WB;have:=hg x hx;exact List.mem_filter.mpr ⟨by simp;lia,dm (gh hx)⟩
 have sj:=R8 (GC ec es);rcases E3 (W:=W) (n:=n) (m:=m) HT h4 (λk q=>JX ho (by simp) k (to k q)) a2 hn hs hW r8.nd r8.sub ib (pd:=.tup (dB p)) (ys:=(([0,1,2]:List Int).filter λv=>decide (v∈hk.map g)).map .int) (([0,1,2]:List Int).filter λv=>decide (v∈hk.map g)) f none none none none none with ⟨f',y5,y6,y7,y8,y9,e,q1,q2,q3,q4⟩ | ⟨f',v,a,ws,t,q1,q2,q3,q4,e⟩
 .have lh:eC nm l f':=⟨r8.nd,r8.sub,λa ha=>by
   rcases q3 a with q | q
   .rw[q];exact r8.zero a ha
   .exact absurd (ib _ a q) ha⟩
  refine .inl ⟨l,f',lh,λx=>by rw[m1,a3],⟨λa=>by rw[<-v1];exact q1 a,λv a r=>q2 v (lv (r.mono un)) a (r.mono un),λa=>by rw[<-v1];exact(q3 a).imp_right λr=>r.mono to⟩,λv a t r ht=>q4 v (lv (r.mono un)) a t (r.mono un) (un _ ht),K8 (q:=[.aq (DW l) (GF l f')]) (n:=n+13) HT.settled rfl (pL _ _) (pre.trans ?_)⟩;exact QZ (b:=ZJ) sj e (CP (G6 (BR rfl (BR (GC (GC rfl (jK h4 lh)) rfl) rfl)) (di rfl)))
 .refine .inr ⟨v,a,ws,t,q1.mono to,q2.mono to,to _ q3,q4,K8 (q:=[.aq (DW l) (GF l f')]) (n:=n+13) HT.settled rfl (pK ws t) (pre.trans ?_)⟩
  show (ex (CG W ab (n+13)) W (.fr (.nm 5) (.seq (.b1 (.yi false) (.comp false 2 (.tp [(.nm 10),(.nm 11)]) (.seq (.var 1)) .tt (.var 11)))) ZJ) _ _).bind _=_;rw[AY,sj,bu];show (forL _ _ _ _ _ _).bind _=_;rw[e];rfl
mutual
theorem Qx{ρ:Str->Str}:∀d:Dd Str,kf (d.rn ρ)=(kf d).map ρ
 | .put _ e=>by simp only[Dd.rn,kf,Tm.nc,cn]
 | .cv _ e=>by simp only[Dd.rn,kf,Tm.nc]
 | .ite e b c=>by simp only[Dd.rn,kf,Tm.nc,mF,dt]
 | .bo e b=>by simp only[Dd.rn,kf,Tm.nc,mF,dt]
theorem mF{ρ:Str->Str}:∀b:Bl Str,ja (b.rn ρ)=(ja b).map ρ
 | .nil=>rfl
 | .cons d b=>by simp only[Bl.rn,ja,Qx,mF,dt]
end
theorem ro:k∈dk [] (p.rn ρ)↔∃x∈dk [] p,i0 ρ x=k:=by
 have:=lJ (ρ:=ρ) (b:=p) (cs:=[]);rw[List.map_nil]at this;rw[this,List.mem_map]
theorem S5(h:k∈univ nm):k.1∈nm:=by
 obtain⟨y,hy,h⟩:=List.mem_flatMap.mp h;rcases cz h with h | h
 .simp only[List.mem_cons,List.not_mem_nil,or_false]at h
  rcases h with rfl | rfl | rfl<;>exact hy
 .obtain⟨x,_,rfl⟩:=cw h
  exact hy
section
theorem NW(h4:nm.length=4){l:FK}(hk:k∈univ nm)(hl:l∈univ nm)(e:i0 (a6 nm sd) k=i0 (a6 nm sd) l):k=l:=by
 have e1:=O1 h4 (S5 hk) (S5 hl) (congrArg (·.1) e);obtain⟨a,t⟩:=k;obtain⟨b,u⟩:=l;obtain rfl:a=b:=e1;rcases TY hk with ⟨i,_,e2⟩ | ⟨x,hx,e2⟩<;>rcases TY hl with ⟨j,_,e3⟩ | ⟨y,hy,e3⟩<;>(obtain rfl:t=_:=e2;obtain rfl:u=_:=e3)
 .have:(Sum.inl i:Key)=.inl j:=congrArg (·.2.2) e
  rw[Sum.inl.inj this]
 .exact nomatch (congrArg (·.2.2) e:(Sum.inl i:Key)=.inr _)
 .exact nomatch (congrArg (·.2.2) e:(Sum.inr _:Key)=.inl j)
 .have:(Sum.inr (a6 nm sd x):Key)=.inr (a6 nm sd y):=congrArg (·.2.2) e
  rw[O1 h4 hx hy (iw this)]
theorem oM(h4:nm.length=4)(hn:ks.Nodup)(hs:∀x∈ks,x∈nm)(lu:bj.Nodup)(hp:bj.Pairwise λa b=>FQ a b=true)(hm:∀y,y∈bj↔∃x∈ks,a6 nm sd x=y)(hf:∀x∈ks,f' (a6 nm sd x)=f x):DK (gy nm sd ks) (eg nm sd f)=DK bj f':=by
 have e:bj=gy nm sd ks:=List.Perm.eq_of_pairwise (le:=λa b=>FQ a b=true) (λa b _ _ h1 h2=>T.vg h1 h2) hp (K6 _) ((zq lu ((fb _ _).nodup_iff.mpr (QK h4 hn hs))).mpr λy=>by rw[hm];exact pE.symm);subst e;refine ke λy hy=>?_
 obtain⟨x,hx,rfl⟩:=pE.mp hy;rw[LK h4 (hs x hx),hf x hx]
variable{p:Bl Str}
theorem R0(h4:nm.length=4)(hs:∀x∈hk,x∈nm)(hb:b∈nm):a6 nm sd b∈gy nm sd hk↔b∈hk:=by
 rw[pE];exact⟨λ⟨x,hx,e⟩=>O1 h4 (hs x hx) hb e▸hx,λh=>⟨b,h,rfl⟩⟩
theorem EF(h4:nm.length=4)(ho:p.Ok (·∈nm))(hs:∀x∈hk,x∈nm)(r:LR (dk [] p) hk g v a):LR (dk [] (p.rn (a6 nm sd))) (gy nm sd hk) (eg nm sd g) v (a6 nm sd a):=by
 induction r with
 | @st a q=>
  obtain⟨q1,q2⟩:=j3 q;exact .st (List.mem_filter.mpr ⟨(R0 h4 hs (hs a q1)).mpr q1,by rw[LK h4 (hs a q1)];exact q2⟩)
 | @go a b _ e n ih=>
  have hb:b∈nm:=iY ho b (F7 ho e rfl);exact .go ih ((ro (k:=(a6 nm sd a,J2,.inr (a6 nm sd b)))).mpr ⟨_,e,rfl⟩) λq=>n ((R0 h4 hs hb).mp q)
theorem EE(h4:nm.length=4)(ho:p.Ok (·∈nm))(hs:∀x∈hk,x∈nm)(r:LR (dk [] (p.rn (a6 nm sd))) (gy nm sd hk) (eg nm sd g) v y):∃a∈nm,a6 nm sd a=y/\LR (dk [] p) hk g v a:=by
 induction r with
 | @st y q=>
  obtain⟨q1,q2⟩:=j3 q;obtain⟨x,hx,rfl⟩:=pE.mp q1;rw[LK h4 (hs x hx)]at q2;exact⟨x,hs x hx,rfl,.st (List.mem_filter.mpr ⟨hx,q2⟩)⟩
 | @go y z _ e n ih=>
  obtain⟨a,ha,rfl,ih⟩:=ih;obtain⟨k,ic,e⟩:=ro.mp e;have hu:=JX ho (by simp) k ic;have e1:=O1 h4 (S5 hu) ha (congrArg (·.1) e);obtain⟨c,t⟩:=k;obtain rfl:c=a:=e1;rcases TY hu with ⟨j,_,e2⟩ | ⟨b,hb,e2⟩<;>obtain rfl:t=_:=e2
  .exact nomatch (congrArg (·.2.2) e:(Sum.inl j:Key)=.inr z)
  .have e3:a6 nm sd b=z:=iw (congrArg (·.2.2) e)
   exact⟨b,hb,e3,.go ih ic λq=>n (by rw[<-e3];exact(R0 h4 hs hb).mpr q)⟩
theorem Pu(h4:nm.length=4)(ho:p.Ok (·∈nm))(hs:∀x∈hk,x∈nm)(ha:a∈nm)(r:LR (dk [] (p.rn (a6 nm sd))) (gy nm sd hk) (eg nm sd g) v (a6 nm sd a)):LR (dk [] p) hk g v a:=by
 obtain⟨b,hb,e,r⟩:=EE h4 ho hs r;exact O1 h4 hb ha e▸r
theorem Qe(h4:nm.length=4)(ho:p.Ok (·∈nm))(hs:∀x∈hk,x∈nm)(L:BC (dk [] p) hk g f)(hE:BC (dk [] (p.rn (a6 nm sd))) (gy nm sd hk) (eg nm sd g) f')(ha:a∈nm):f' (a6 nm sd a)=f a:=by
 have b:(if a6 nm sd a∈gy nm sd hk then eg nm sd g (a6 nm sd a) else 0)=if a∈hk then g a else 0:=by
  rw[LK h4 ha]
  by_cases q:a∈hk
  .rw[ag q,ag ((R0 h4 hs ha).mpr q)]
  .rw[ak q,ak λz=>q ((R0 h4 hs ha).mp z)]
 have gv:=hE.lo (a6 nm sd a);have Jj:=hE.is (a6 nm sd a);rw[b]at gv Jj;refine Int.le_antisymm ?_ ?_
 .rcases Jj with e | r
  .rw[e];exact L.lo a
  .exact L.up _ a (Pu h4 ho hs ha r)
 .rcases L.is a with e | r
  .rw[e];exact gv
  .exact hE.up _ _ (EF h4 ho hs r)
theorem Fw(h4:nm.length=4)(hs:∀x∈hk,x∈nm)(h:k∈univ nm):VP (gy nm sd hk) (eg nm sd g) v (i0 (a6 nm sd) k).2=VP hk g v k.2:=by
 obtain⟨a,t⟩:=k;rcases TY h with ⟨j,_,e⟩ | ⟨b,hb,e⟩<;>obtain rfl:t=_:=e
 .rfl
 .show decide ((if a6 nm sd b∈gy nm sd hk then eg nm sd g (a6 nm sd b) else v)<v)=decide ((if b∈hk then g b else v)<v)
  rw[LK h4 hb]
  by_cases q:b∈hk
  .rw[ag q,ag ((R0 h4 hs hb).mpr q)]
  .rw[ak q,ak λz=>q ((R0 h4 hs hb).mp z)]
theorem Ej(h4:nm.length=4)(h:k∈univ nm):eg nm sd g (i0 (a6 nm sd) k).1<=pS (eg nm sd g) (i0 (a6 nm sd) k)↔g k.1<=pS g k:=by
 have h1:eg nm sd g (i0 (a6 nm sd) k).1=g k.1:=LK h4 (S5 h);rw[h1];obtain⟨a,t⟩:=k;rcases TY h with ⟨j,_,e⟩ | ⟨b,hb,e⟩<;>obtain rfl:t=_:=e
 .show g a<=j↔g a<=j
  rfl
 .show g a<=eg nm sd g (a6 nm sd b)↔g a<=g b
  rw[LK h4 hb]
end
theorem ne_self{a:D}(h:kH a a=some true):N5 .ne a a=some false:=by
 rw[Fp,h];rfl
theorem rQ(hk:List Str)(g:Str->Int):ng (.tup (DK hk g)) none (some 2)=some (.tup (DK (hk.take 2) g)):=by
 show some (D.tup (((DK hk g).drop 0).take (HT.bt (DK hk g).length (DK hk g).length (some ((2:Nat):Int))-0)))=_;rw[HT.Kl,List.drop_zero];unfold DK;rw[List.map_take,a8];congr 2;rw[List.take_eq_take_iff];simp
theorem ND(HG:G1 ab)(HR:G0 ab)(HF:Bw ab)(HT:fB ab)(HC:zU ab)(HE:qN ab)(Hh:ab "_law_house" = some fH)(HL:ab "law" = some tT)(hW:2500<=W):CG W ab (n+20) "law" [.bP ns] []=some (.bl true,[]):=by
 refine CV (n:=n+19) HL rfl rfl ?_;obtain⟨p,ho,hd,hz,e1⟩:=zL (W:=W) HG.toHasP (ns:=ns) (k:=2);have e1:=e1 (n+9) [];have e2:=aU (W:=W) (n:=n+16) (m:=[]) HG.mix HG.cell HG.name HG.names (ns:=ns);obtain⟨hk,g,hS,hg,e3⟩:=Oz (W:=W) (n:=n+9) HG.toHasP Hh (ns:=ns) [];have e4:=Ov (W:=W) (n:=n+9) HG (ns:=ns) (k:=5);have e5:=NT (W:=W) (n:=n+18) (m:=[]) HG.mix (c:=DY ns 6) (p:=9749) (k:=100) (by decide) (by decide);have ec:=YJ (W:=W) (n:=n+18) (m:=[]) HG.cell (ns:=ns) (k:=6);have hs:=(JL (DY ns 6) 9749 (k:=100) (by decide)).1;generalize GJ (DY ns 6) 9749 100=sd at e5 hs;have du:=names_nodup (DY ns 0);generalize hq:DY ns 0=q at *;have h4:(JK q).length=4:=rfl;have hp:=Mp q (DY ns 5)
 let f0:Str->Int:=λx=>if x∈lS q (DY ns 5) then gL q (DY ns 5) x else 0
 have hf:∀x,0<=f0 x/\f0 x<997:=λx=>by
  by_cases h:x∈lS q (DY ns 5)
  .simp only[f0,ag h];exact SI q _ x
  .simp only[f0,ak h];lia
 have VI:DK (lS q (DY ns 5)) (gL q (DY ns 5))=DK (lS q (DY ns 5)) f0:=ke λx hx=>by simp only[f0,ag hx]
 rw[VI]at e4;have uh:eC (JK q) (lS q (DY ns 5)) f0:=⟨hp.nodup_iff.mpr du,λx hx=>hp.mem_iff.mp hx,λx hx=>ak hx⟩
 generalize f0=f at e4 uh hf;generalize lS q (DY ns 5)=ks at e4 uh;generalize JK q=nm at *;have Ai:=QK (sd:=sd) h4 du λx hx=>hx
 have qg:(nm.map (a6 nm sd)).length=4:=by rw[a8,h4]
 have xh:∀y∈nm.map (a6 nm sd),(PyData.str y).canLay0=true:=λy hy=>by
  obtain⟨x,_,rfl⟩:=cw hy;exact NB x
 have gV:(p.rn (a6 nm sd)).Ok (·∈nm.map (a6 nm sd)):=Bl.jI (λx hx=>gh hx) ho;obtain⟨d6,qw⟩:=Bl.ig (a6 nm sd) p;have e6:=X5 (W:=W) HE h4 hs 4 (n+18) p (by lia) ho hd (by lia) [];have pe:∀{ks:List Str} {f:Str->Int},ks.Nodup->(∀x∈ks,x∈nm)->CG W ab (n+19) "_law_pairs_else" [.lst (nm.map .str),.int sd,.tup (DK ks f)] []=some (.tup (DK (gy nm sd ks) (eg nm sd f)),[]):=λh1 h2=>m9 (n:=n+17) HE h4 hs h1 h2 []
 obtain⟨fs,a1,a2,a3,a4⟩:=aV (W:=W) (n:=n+6) (m:=[]) HF.toHasW h4 (by lia) ho (by lia);obtain⟨ud,b1,b2,b3,b4⟩:=aV (W:=W) (n:=n+6) (m:=[]) HF.toHasW qg (by lia) gV (by lia);have ie:∀k∈G8 fs,k∈univ nm:=λk hk=>JX ho (by simp) k ((a2 k).mp (((aJ fs).2 k).mp hk))
 have sk:=(aJ fs).1;have xi:((G8 fs).map (i0 (a6 nm sd))).Nodup:=by
  have:∀l:List FK,l.Nodup->(∀k∈l,k∈univ nm)->(l.map (i0 (a6 nm sd))).Nodup:=λl=>by
   induction l with
   | nil=>exact λ_ _=>mq
   | cons k r ih=>
    intro h1 h2;obtain⟨h0,h1⟩:=k0 h1;refine List.nodup_cons.mpr ⟨λz=>?_,ih h1 λx hx=>h2 x (b7 _ hx)⟩;obtain⟨x,hx,e⟩:=cw z;exact h0 (NW h4 (h2 x (b7 _ hx)) (h2 k b0) e▸hx)
  exact this _ ((O9 fs).nodup_iff.mpr a1) ie
 have I0:G8 ((G8 fs).map (i0 (a6 nm sd)))=G8 ud:=La ((zq xi b1).mpr λk=>by
  rw[b2,ro,List.mem_map];exact exists_congr λx=>and_congr_left λ_=>by rw[(aJ fs).2,a2])
 have Jd:∀k∈G8 ud,k∈univ (nm.map (a6 nm sd)):=λk hk=>JX gV (by simp) k ((b2 k).mp (((aJ ud).2 k).mp hk))
 have q1:∀x3 x4 x7 x8 x9 p3 p9,et (CG W ab (n+19)) (.val (.cmp .ne (.b1 (.AD false) (.comp false 1 (.nm 12) (.seq (.call "flows" (.cons (.var 1) .nil))) .tt (.call "_law_flow_else" (.cons (.var 2) (.cons (.var 5) (.cons (.var 12) .nil)))))) (.b1 (.list false) (.call "flows" (.cons (.var 6) .nil))))) [some (.bP ns),some (.tup (dB p)),some (.lst (nm.map .str)),x3,x4,some (.int sd),some (.tup (dB (p.rn (a6 nm sd)))),x7,x8,x9,p3,p9] []=some (false,[]):=λx3 x4 x7 x8 x9 p3 p9=>by
  have comp:ev (CG W ab (n+19)) (.comp false 1 (.nm 12) (.seq (.call "flows" (.cons (.var 1) .nil))) .tt (.call "_law_flow_else" (.cons (.var 2) (.cons (.var 5) (.cons (.var 12) .nil))))) [some (.bP ns),some (.tup (dB p)),some (.lst (nm.map .str)),x3,x4,some (.int sd),some (.tup (dB (p.rn (a6 nm sd)))),x7,x8,x9,p3,p9] []=some (.lst (((G8 fs).map (i0 (a6 nm sd))).map fD),[]):=by
   rw[JW (xs:=G8 fs) (dd:=fD) (h:=λk=>some (fD (i0 (a6 nm sd) k))) rfl (aP (BX a4 rfl)) (by lia)]
   .rw[ki,bS];rfl
   .exact λk hk=>⟨_,true,rfl,rfl,by rw[ag rfl];exact⟨rfl,BX (pU (n:=n+17) HE h4 hs (ie k hk)) rfl⟩⟩
  have so:de (.AD false) (.lst (((G8 fs).map (i0 (a6 nm sd))).map fD)) []=some (.lst ((G8 ud).map fD),[]):=by
   show ((T6 (((G8 fs).map (i0 (a6 nm sd))).map fD)).bind λks=>if ks.length<64/\ks.Nodup/\ks.all PB=true then some (bw false ((G8 ks).map fD) []) else none)=_;rw[sV,bu,ag ⟨by rw[a8];lia,xi,List.all_eq_true.mpr λk hk=>W5 (nm:=nm.map (a6 nm sd)) k (Jd k (by rw[<-I0];exact(O9 _).mem_iff.mpr hk))⟩,I0];rfl
  exact GD (HJ (GC comp so) (GC (BX b4 rfl) rfl) (ne_self (LD xh Jd))) rfl
 have lh:=nZ (sd:=sd) h4 uh;have UY:∀y,0<=eg nm sd f y/\eg nm sd f y<997:=λy=>by
  by_cases h:∃x∈nm,a6 nm sd x=y
  .obtain⟨x,hx,rfl⟩:=h
   rw[LK h4 hx];exact hf x
  .rw[EC λx hx e=>h ⟨x,hx,e⟩];lia
 have ID:((5:Int)-0).toNat*63=315:=rfl;obtain⟨r,pj,r1,aa9,_,_,r5⟩:=z_run (W:=W) (n:=n+17) (m0:=[]) HR du (by lia) (K:=4) (M:=63) (by lia) (most:=5) (pg:=p) uh ⟨mC ho hd hz,hf⟩ (by simp only[gx,J1];lia) (by simp only[gx,J1];lia);obtain⟨t,sM,t1,abb,_,_,t5⟩:=z_run (W:=W) (n:=n+17) (m0:=[]) HR Ai (by lia) (K:=4) (M:=63) (by lia) (most:=5) (pg:=p.rn (a6 nm sd)) lh ⟨mC gV (by lia) (by lia),UY⟩ (by simp only[gx,J1];lia) (by simp only[gx,J1];lia);obtain⟨t',d1,d2,d3,d4⟩:=r1.rn (P:=(·∈nm)) (ρ:=a6 nm sd) (λx y hx hy=>O1 h4 hx hy) (f':=eg nm sd f) (λd hd=>ho.mem d hd) λx hx=>LK h4 hx
 have d1:Runs 5 ⟨(p.rn (a6 nm sd)).list,eg nm sd f,[],0⟩ t':=by rw[Bl.u7];exact d1
 obtain rfl:=t1.det d1;have kN:DK (gy nm sd ((CN nm).filter λx=>r.f x≠0)) (eg nm sd r.f)=LC (nm.map (a6 nm sd)) t.f:=by
  have p1:(CN nm).Perm nm:=fb _ _;have p2:(CN (nm.map (a6 nm sd))).Perm (nm.map (a6 nm sd)):=fb _ _;refine oM h4 ((p1.nodup_iff.mpr du).filter _) (λx hx=>p1.mem_iff.mp (j3 hx).1) ((p2.nodup_iff.mpr Ai).filter _) ((K6 _).filter _) (λy=>?_) λx hx=>d4 x (p1.mem_iff.mp (j3 hx).1)
  rw[List.mem_filter,p2.mem_iff,List.mem_map];constructor
  .rintro ⟨⟨x,hx,rfl⟩,h⟩
   exact⟨x,List.mem_filter.mpr ⟨p1.mem_iff.mpr hx,by rw[d4 x hx]at h;exact h⟩,rfl⟩
  .rintro ⟨x,hx,rfl⟩
   obtain⟨hx,h⟩:=j3 hx;have hx:=p1.mem_iff.mp hx;exact⟨⟨x,hx,rfl⟩,by rw[d4 x hx];exact h⟩
 have p1:(CN nm).Perm nm:=fb _ _;have e7:=pe (ks:=(CN nm).filter λx=>r.f x≠0) (f:=r.f) ((p1.nodup_iff.mpr du).filter _) λx hx=>p1.mem_iff.mp (j3 hx).1
 rw[kN]at e7;have q2:N5 .ne (.tup [gB r.t,.tup (LC (nm.map (a6 nm sd)) t.f),.tup [.tup ((je r.sh 0).map .int),.tup ((je r.sh 1).map .int),.tup ((je r.sh 2).map .int)]]) (rN (nm.map (a6 nm sd)) t)=some false:=by
  rw[<-d2,<-d3];exact ne_self (eq_self (P9 xh))
 have hR:=nZ (sd:=sd) h4 hS;obtain⟨v,v1,v2,v3⟩:=Fq (W:=W) (n:=n+5) (m:=[]) HF h4 (by lia) hS ho (by lia);obtain⟨w,w1,w2,w3⟩:=Fq (W:=W) (n:=n+5) (m:=[]) HF qg (by lia) hR gV (by lia);have hu:∀k∈dk [] p,k∈univ nm:=λk hk=>JX ho (by simp) k hk
 have Wm:v=w:=by
  cases v with
  | true=>
   cases w with
   | true=>rfl
   | false=>
    obtain⟨k,hk,h⟩:=w2 rfl;obtain⟨x,hx,rfl⟩:=ro.mp hk;exact absurd ((Ej h4 (hu x hx)).mpr (v1 rfl x hx)) h
  | false=>
   cases w with
   | false=>rfl
   | true=>
    obtain⟨k,hk,h⟩:=v2 rfl;exact absurd ((Ej h4 (hu k hk)).mp (w1 rfl _ (ro.mpr ⟨k,hk,rfl⟩))) h
 subst Wm;have e9:=pe (ks:=hk) (f:=g) hS.nd hS.sub;have c1:=Gg (W:=W) HC (by lia) hS (by lia) (K:=4) (n:=n+17) (l:=1) (by lia) (by lia) ho hd (by lia) [];obtain⟨o1,o2,o3⟩:=dM (g:=g) (l:=1) p ho;have c2:=X5 (W:=W) HE h4 hs 4 (n+18) (fm g 1 p) (by lia) o1 (by lia) (by lia) [];have c3:=Gg (W:=W) HC (by lia) hR (by lia) (K:=4) (n:=n+17) (l:=1) (by lia) (by lia) gV (by lia) (by lia) [];rw[dJ (P:=(·∈nm)) (λx hx=>LK h4 hx) ho]at c3;have q4:N5 .ne (.tup (dB ((fm g 1 p).rn (a6 nm sd)))) (.tup (dB ((fm g 1 p).rn (a6 nm sd))))=some false:=by
  have:=(Bl.ig (a6 nm sd) (fm g 1 p)).1;exact ne_self (eq_self (vm xh (Bl.jI (λx hx=>gh hx) o1) (by lia)))
 have tn:(hk.take 2).Nodup:=hS.nd.sublist (List.take_sublist 2 hk);have ts:∀x∈hk.take 2,x∈nm:=λx hx=>hS.sub x (List.mem_of_mem_take hx)
 have TB:=pe (ks:=hk.take 2) (f:=g) tn ts;have YN:(gy nm sd (hk.take 2)).Nodup:=(fb _ _).nodup_iff.mpr (QK h4 tn ts);have Vc:∀y∈gy nm sd (hk.take 2),0<=eg nm sd g y/\eg nm sd g y<=2:=λy hy=>by
  obtain⟨x,hx,rfl⟩:=pE.mp hy;rw[LK h4 (ts x hx)];exact hg x
 have YR:∀y∈gy nm sd (hk.take 2),y∈nm.map (a6 nm sd):=λy hy=>by
  obtain⟨x,hx,rfl⟩:=pE.mp hy;exact gh (ts x hx)
 have sl:∀{σ:DS},σ[3]?=some (some (.tup (DK hk g)))->ev (CG W ab (n+19)) (.sl (.var 3) .no (.pt (.con (.int 2)))) σ []=some (.tup (DK (hk.take 2) g),[]):=λ {σ} h=>iJ (x:=.tup (DK hk g)) (by show (match σ[3]? with | some (some d)=>some (d,[]) | _=>none)=_;rw[h]) rfl rfl (rQ hk g)
 have all:∀{d d':D},CG W ab (n+19) "settled" [.tup (dB p),.tup (DK (hk.take 2) g)] []=some (d,[])->CG W ab (n+19) "settled" [.tup (dB (p.rn (a6 nm sd))),.tup (DK (gy nm sd (hk.take 2)) (eg nm sd g))] []=some (d',[])->aI (CG W ab (n+19)) W (KY 15 Gj) [some (.bP ns),some (.tup (dB p)),some (.lst (nm.map .str)),some (.tup (DK hk g)),some (.tup (DK ks f)),some (.int sd),some (.tup (dB (p.rn (a6 nm sd)))),some (rN nm r),some (rN (nm.map (a6 nm sd)) t),some (.tup (DK (gy nm sd hk) (eg nm sd g))),some d,some d'] []=some (.rt (.bl true),[])->aI (CG W ab (n+19)) W tT.body ([D.bP ns].map some++List.replicate (tT.ns-tT.ps) none) []=some (.rt (.bl true),[]):=λ {d d'} s1 s2 s3=>
  CJ (BX e1 rfl) (CJ (BX e2 rfl) (CJ (BX e3 rfl) (CJ (BX e4 rfl) (CJ (BX e5 (BR (BX ec rfl) rfl)) (CJ (BX e6 rfl) (EY (q1 _ _ _ _ _ _ _) (CJ (BX r5 rfl) (CJ (BX t5 (BR rfl (BR (BX (pe uh.nd uh.sub) rfl) rfl))) (EY (GD (HJ (G6 (BR rfl (BR (BX e7 rfl) rfl)) (di rfl)) rfl q2) rfl) (CJ (BX e9 rfl) (EY (GD (HJ (BX v3 rfl) (BX w3 rfl) (ne_self (eq_self rfl))) rfl) (EY (GD (HJ (BX c2 (BR rfl (BR rfl (BR (BX c1 rfl) rfl)))) (BX c3 rfl) q4) rfl) (CJ (BX s1 (BR rfl (BR (sl rfl) rfl))) (CJ (BX s2 (BR rfl (BR (BX TB (BR rfl (BR rfl (BR (sl rfl) rfl)))) rfl))) s3))))))))))))))
 rcases iV (W:=W) (n:=n+5) (m:=[]) HT HF.toHasW h4 (by lia) ho hd hz (g:=g) tn ts (λx _=>hg x) with ⟨l,h,k1,k2,k3,k4,k5⟩ | ⟨u,a,ws,b,k1,k2,k3,k4,k5⟩<;>rcases iV (W:=W) (n:=n+5) (m:=[]) HT HF.toHasW qg (by lia) gV (by lia) (by lia) (g:=eg nm sd g) YN YR Vc with ⟨gv,h',Dr,Dt,Du,Dv,Dw⟩ | ⟨g9,i9,abc,mf,Dr,Dt,Du,Dv,Dw⟩
 .have p1:(CN l).Perm l:=fb _ _
  have p2:(CN gv).Perm gv:=fb _ _;have ls:∀x∈CN l,x∈nm:=λx hx=>k1.sub x (p1.mem_iff.mp hx)
  have Hv:=pe (ks:=CN l) (f:=h) (p1.nodup_iff.mpr k1.nd) ls;rw[oM h4 (p1.nodup_iff.mpr k1.nd) ls (p2.nodup_iff.mpr Dr.nd) (K6 _) (λy=>by
   rw[p2.mem_iff,Dt,mF,List.mem_map,pE];constructor
   .rintro (⟨x,hx,e⟩ | ⟨x,hx,e⟩)
    .exact⟨x,p1.mem_iff.mpr ((k2 x).mpr (.inl hx)),e⟩
    .exact⟨x,p1.mem_iff.mpr ((k2 x).mpr (.inr hx)),e⟩
   .rintro ⟨x,hx,e⟩
    exact((k2 x).mp (p1.mem_iff.mp hx)).imp (λq=>⟨x,q,e⟩) λq=>⟨x,q,e⟩) λx hx=>Qe h4 ho ts k3 Du (ls x hx)]at Hv
  refine all k5 Dw (EY (G7 (p:=("house":Str)="trail") rfl (cK (by decide))) (CP (HJ rfl (G6 (BR rfl (BR (BX Hv rfl) rfl)) (di rfl)) (show R7 (lD (CN gv) h') (lD (CN gv) h')=some true from eq_self ?_))));show (b6 59 (.str "house")&&(b6 59 (.tup (DK (CN gv) h'))&&true))=true;rw[SX,Lp λy hy=>xh y (Dr.sub y (p2.mem_iff.mp hy))];rfl
 .obtain⟨x,hx,r⟩:=EE h4 ho ts Dt
  obtain⟨k,ic,e⟩:=ro.mp Du;have e1:=O1 h4 (S5 (hu k ic)) hx ((congrArg (·.1) e).trans r.1.symm);have:=k4 _ k.1 k.2 (e1▸r.2) ic;rw[<-Fw (nm:=nm) (sd:=sd) h4 ts (hu k ic),e]at this;exact absurd (Dv.symm.trans this) (by decide)
 .have:=Dv _ _ (i0 (a6 nm sd) (a,b)).2 (EF h4 ho ts k2) (ro.mpr ⟨_,k3,rfl⟩)
  rw[Fw h4 ts (hu _ k3)]at this;exact absurd (k4.symm.trans this) (by decide)
 .exact all k5 Dw (FZ (J5 (p:=("trail":Str)="trail") rfl rfl) (CP (HJ (d:=.str "trail") (d2:=.str "trail") rfl rfl (by rw[QA,Oa,dm rfl]))))
end T
end
section
namespace T
open PySem L2 WL PySem.Spec PyProof.Rows
theorem law_true:∀ns:List Int,ns.length<=63->CG 100000 ab 60 "law" [.bP ns] []=some (.bl true,[]):=λns _=>ND (n:=40) ⟨⟨rfl,rfl,rfl,rfl,rfl,rfl,rfl,rfl,rfl,rfl⟩,rfl⟩ ⟨rfl,rfl,rfl,rfl,rfl⟩ ⟨⟨rfl,rfl,rfl,rfl,rfl,rfl⟩,rfl,rfl⟩ ⟨rfl,rfl,rfl,rfl,rfl,rfl⟩ ⟨rfl,rfl,rfl,rfl,rfl,rfl,rfl⟩ ⟨rfl,rfl,rfl,rfl,rfl⟩ rfl rfl (by lia)
theorem yf:TX (zd ab) rm:=by
 refine⟨?_,?_,?_,?_,?_,?_,?_,?_,?_,?_,?_,?_,?_,?_,?_,?_,?_,?_,?_,?_,?_,?_,?_,?_,?_,?_,?_,?_,?_,?_,?_,?_,?_,?_,?_,?_,?_,?_,?_,?_,?_,trivial⟩
 all_goals refine⟨⟨rfl,rfl,rfl,by decide +kernel,rfl,by decide +kernel,by decide +kernel⟩,rfl,rfl,rfl,λ_ _ _ _ _ _ us hl=>?_⟩
 all_goals first | (obtain⟨_,rfl⟩:=Jo hl;rfl) | (obtain⟨_,_,rfl⟩:=Jp hl;rfl) | (obtain⟨_,_,_,rfl⟩:=GH hl;rfl) | (obtain⟨_,_,_,_,rfl⟩:=SG hl;rfl)
theorem ds{w:World}{K:p4}{mg:Str->Option Value}{base:Heap}{W:Nat}(T:Tp K mg)(H:TX (vE K mg) rm):∀n,Ds P w K mg base W n
 | 0=>Gb H
 | _+1=>Ga H yf (DL T (ds T H _) yf qs)
noncomputable def kC(f:Str)(a t l n u:Nat)(b:Bool):PySem.Obj:={ cls:=.type "code",data:=.fields #[.str f t,.str f (t+1),.str "/claim/cut.py" (t+2),.int l 0,.int n 0,.int 0 0,.int 0 0,.int 3 0,.ref (a-cond b 5 3),.bool true,.int 181 0,.ref (a-cond b 4 2),.none,cond b (.ref (a-3)) .none,cond b (.ref (a-2)) .none,.ref (a-1),.int u 0,.int l 0,.str "/claim/cut.py" (u+1)] }
noncomputable def kF(f:Str)(st:Stmt)(m:Value)(c:Nat):PySem.Obj:={ cls:=.type "function",data:=.func (PySem.W.fnOf f f (O6 st) (JZ st) (HD st) .none .none .none m none (.ref c) .none) }
noncomputable def kG(P:Params)(k:Str)(t:Nat)(v:Value):DictEntry:=⟨PyData.keyHash P k,.str k t,v⟩
noncomputable def Dy:Value:=.str "whisperwall.things" 187
noncomputable def xD:Value:=.str "whisperwall.flowing" 222
noncomputable def Aq:Value:=.str "whisperwall.cutting" 268
noncomputable def xE:Value:=.str "whisperwall.running" 301
noncomputable def uC:Value:=.str "whisperwall.settling" 347
noncomputable def i3:Value:=.str "law_whisperwall_k13_whole_other_names" 402
noncomputable def KK(P:Params):PySem.W.Frag:=[(3,{ cls:=.type "dict",data:=.dict #[kG P "__name__" 165 (.str "law_whisperwall_k13_whole_other_names" 402),kG P "__doc__" 166 (.none),kG P "__package__" 167 (.none),kG P "__loader__" 168 (.builtin "__main__.__loader__#opaque"),kG P "__spec__" 169 (.none),kG P "__annotations__" 170 (.ref 6),kG P "__builtins__" 171 (.ref 4),kG P "__file__" 173 (.str "/claim/cut.py" 172),kG P "__cached__" 174 (.none),kG P "NUMBERS" 190 (.int 997 189),kG P "LEVELS" 192 (.int 3 191),kG P "PAIRING" 196 (.ref 15),kG P "names_of" 206 (.ref 22),kG P "names_in_term" 213 (.ref 29),kG P "parts_of" 221 (.ref 36),kG P "flows" 231 (.ref 43),kG P "lets" 237 (.ref 48),kG P "gather_flows" 249 (.ref 55),kG P "add_flows" 259 (.ref 62),kG P "level_of" 267 (.ref 69),kG P "cut" 278 (.ref 76),kG P "cut_block" 284 (.ref 81),kG P "stays" 290 (.ref 86),kG P "cut_deed" 300 (.ref 93),kG P "run" 308 (.ref 98),kG P "number_of" 319 (.ref 105),kG P "do_deeds" 334 (.ref 112),kG P "page_of" 340 (.ref 117),kG P "store_of" 346 (.ref 122),kG P "settled" 354 (.ref 127),kG P "targets_by_name" 364 (.ref 134),kG P "names_reached" 370 (.ref 139),kG P "trail_down" 382 (.ref 146),kG P "is_below" 391 (.ref 153),kG P "way_to" 401 (.ref 160),kG P "_law_cell" 411 (.ref 167),kG P "_law_mix" 420 (.ref 174),kG P "_law_name" 426 (.ref 179),kG P "_law_names" 432 (.ref 184),kG P "_law_levels" 439 (.ref 191),kG P "_law_house" 445 (.ref 196),kG P "_law_term" 456 (.ref 203),kG P "_law_names_in" 463 (.ref 210),kG P "_law_deed" 469 (.ref 215),kG P "_law_block" 475 (.ref 220),kG P "_law_program" 481 (.ref 225),kG P "_law_store" 493 (.ref 232),kG P "_law_else" 503 (.ref 239),kG P "_law_term_else" 512 (.ref 246),kG P "_law_block_else" 518 (.ref 251),kG P "_law_pairs_else" 524 (.ref 256),kG P "_law_flow_else" 535 (.ref 263),kG P "law" 541 (.ref 268)] 53 }),(15,{ cls:=.type "tuple",data:=.seq #[.str "sum" 193,.str "times" 194,.str "less" 195] }),(21,kC "names_of" 21 197 5 1 204 true),(22,kF "names_of" (top 4) Dy 21),(28,kC "names_in_term" 28 207 14 1 211 true),(29,kF "names_in_term" (top 5) Dy 28),(35,kC "parts_of" 35 214 16 1 219 true),(36,kF "parts_of" (top 6) Dy 35),(42,kC "flows" 42 224 28 1 229 true),(43,kF "flows" (top 8) xD 42),(47,kC "lets" 47 232 32 2 235 false),(48,kF "lets" (top 9) xD 47),(54,kC "gather_flows" 54 238 35 3 247 true),(55,kF "gather_flows" (top 10) xD 54),(61,kC "add_flows" 61 250 49 3 257 true),(62,kF "add_flows" (top 11) xD 61),(68,kC "level_of" 68 260 52 2 265 true),(69,kF "level_of" (top 12) xD 68),(75,kC "cut" 75 270 57 3 276 true),(76,kF "cut" (top 14) Aq 75),(80,kC "cut_block" 80 279 59 3 282 false),(81,kF "cut_block" (top 15) Aq 80),(85,kC "stays" 85 285 61 3 288 false),(86,kF "stays" (top 16) Aq 85),(92,kC "cut_deed" 92 291 70 3 298 true),(93,kF "cut_deed" (top 17) Aq 92),(97,kC "run" 97 303 78 3 306 false),(98,kF "run" (top 19) xE 97),(104,kC "number_of" 104 309 84 2 317 true),(105,kF "number_of" (top 20) xE 104),(111,kC "do_deeds" 111 320 97 4 332 true),(112,kF "do_deeds" (top 21) xE 111),(116,kC "page_of" 116 335 117 2 338 false),(117,kF "page_of" (top 22) xE 116),(121,kC "store_of" 121 341 119 1 344 false),(122,kF "store_of" (top 23) xE 121),(126,kC "settled" 126 349 122 2 352 false),(127,kF "settled" (top 25) uC 126),(133,kC "targets_by_name" 133 355 136 1 362 true),(134,kF "targets_by_name" (top 26) uC 133),(138,kC "names_reached" 138 365 143 3 368 false),(139,kF "names_reached" (top 27) uC 138),(145,kC "trail_down" 145 371 153 4 380 true),(146,kF "trail_down" (top 28) uC 145),(152,kC "is_below" 152 383 159 3 389 true),(153,kF "is_below" (top 29) uC 152),(159,kC "way_to" 159 392 163 2 399 true),(160,kF "way_to" (top 30) uC 159),(166,kC "_law_cell" 166 404 171 2 409 true),(167,kF "_law_cell" (top 32) i3 166),(173,kC "_law_mix" 173 412 175 3 418 true),(174,kF "_law_mix" (top 33) i3 173),(178,kC "_law_name" 178 421 177 2 424 false),(179,kF "_law_name" (top 34) i3 178),(183,kC "_law_names" 183 427 184 1 430 false),(184,kF "_law_names" (top 35) i3 183),(190,kC "_law_levels" 190 433 186 1 437 true),(191,kF "_law_levels" (top 36) i3 190),(195,kC "_law_house" 195 440 188 1 443 false),(196,kF "_law_house" (top 37) i3 195),(202,kC "_law_term" 202 446 193 3 454 true),(203,kF "_law_term" (top 38) i3 202),(209,kC "_law_names_in" 209 457 201 1 461 true),(210,kF "_law_names_in" (top 39) i3 209),(214,kC "_law_deed" 214 464 207 4 467 false),(215,kF "_law_deed" (top 40) i3 214),(219,kC "_law_block" 219 470 225 4 473 false),(220,kF "_law_block" (top 41) i3 219),(224,kC "_law_program" 224 476 228 2 479 false),(225,kF "_law_program" (top 42) i3 224),(231,kC "_law_store" 231 482 233 2 491 true),(232,kF "_law_store" (top 43) i3 231),(238,kC "_law_else" 238 494 241 3 501 true),(239,kF "_law_else" (top 44) i3 238),(245,kC "_law_term_else" 245 504 244 3 510 true),(246,kF "_law_term_else" (top 45) i3 245),(250,kC "_law_block_else" 250 513 250 3 516 false),(251,kF "_law_block_else" (top 46) i3 250),(255,kC "_law_pairs_else" 255 519 261 3 522 false),(256,kF "_law_pairs_else" (top 47) i3 255),(262,kC "_law_flow_else" 262 525 263 3 533 true),(263,kF "_law_flow_else" (top 48) i3 262),(267,kC "law" 267 536 268 1 539 false),(268,kF "law" (top 49) i3 267)]
noncomputable def kA:List Addr:=[3,15,21,22,28,29,35,36,42,43,47,48,54,55,61,62,68,69,75,76,80,81,85,86,92,93,97,98,104,105,111,112,116,117,121,122,126,127,133,134,138,139,145,146,152,153,159,160,166,167,173,174,178,179,183,184,190,191,195,196,202,203,209,210,214,215,219,220,224,225,231,232,238,239,245,246,250,251,255,256,262,263,267,268]
theorem fk{K:p4}{f:Str}{st:Stmt}{x c:Nat}{m:Value}{a t l n u:Nat}(h:PySem.W.nsIn K mainGlobals f=some (some (.ref x)))(e:K.lookup x=some (kF f st m c))(d:K.lookup c=some (kC f a t l n u b)):FA K f st:=
 T2 h e (by unfold PySem.W.codeIn;dsimp only;rw[d];exact beq_self_eq_true f) (by unfold PySem.W.keepIn;dsimp only;rw[e];rfl)
theorem fas(P:Params):TX (λe=>FA (KK P) (Str.ofString e.f) e.st) rm:=⟨fk (x:=22) (c:=21) (by kernel_rfl) rfl rfl,fk (x:=29) (c:=28) (by kernel_rfl) rfl rfl,fk (x:=36) (c:=35) (by kernel_rfl) rfl rfl,fk (x:=43) (c:=42) (by kernel_rfl) rfl rfl,fk (x:=48) (c:=47) (by kernel_rfl) rfl rfl,fk (x:=55) (c:=54) (by kernel_rfl) rfl rfl,fk (x:=62) (c:=61) (by kernel_rfl) rfl rfl,fk (x:=69) (c:=68) (by kernel_rfl) rfl rfl,fk (x:=76) (c:=75) (by kernel_rfl) rfl rfl,fk (x:=81) (c:=80) (by kernel_rfl) rfl rfl,fk (x:=86) (c:=85) (by kernel_rfl) rfl rfl,fk (x:=93) (c:=92) (by kernel_rfl) rfl rfl,fk (x:=98) (c:=97) (by kernel_rfl) rfl rfl,fk (x:=105) (c:=104) (by kernel_rfl) rfl rfl,fk (x:=112) (c:=111) (by kernel_rfl) rfl rfl,fk (x:=117) (c:=116) (by kernel_rfl) rfl rfl,fk (x:=122) (c:=121) (by kernel_rfl) rfl rfl,fk (x:=127) (c:=126) (by kernel_rfl) rfl rfl,fk (x:=134) (c:=133) (by kernel_rfl) rfl rfl,fk (x:=139) (c:=138) (by kernel_rfl) rfl rfl,fk (x:=146) (c:=145) (by kernel_rfl) rfl rfl,fk (x:=153) (c:=152) (by kernel_rfl) rfl rfl,fk (x:=160) (c:=159) (by kernel_rfl) rfl rfl,fk (x:=167) (c:=166) (by kernel_rfl) rfl rfl,fk (x:=174) (c:=173) (by kernel_rfl) rfl rfl,fk (x:=179) (c:=178) (by kernel_rfl) rfl rfl,fk (x:=184) (c:=183) (by kernel_rfl) rfl rfl,fk (x:=191) (c:=190) (by kernel_rfl) rfl rfl,fk (x:=196) (c:=195) (by kernel_rfl) rfl rfl,fk (x:=203) (c:=202) (by kernel_rfl) rfl rfl,fk (x:=210) (c:=209) (by kernel_rfl) rfl rfl,fk (x:=215) (c:=214) (by kernel_rfl) rfl rfl,fk (x:=220) (c:=219) (by kernel_rfl) rfl rfl,fk (x:=225) (c:=224) (by kernel_rfl) rfl rfl,fk (x:=232) (c:=231) (by kernel_rfl) rfl rfl,fk (x:=239) (c:=238) (by kernel_rfl) rfl rfl,fk (x:=246) (c:=245) (by kernel_rfl) rfl rfl,fk (x:=251) (c:=250) (by kernel_rfl) rfl rfl,fk (x:=256) (c:=255) (by kernel_rfl) rfl rfl,fk (x:=263) (c:=262) (by kernel_rfl) rfl rfl,fk (x:=268) (c:=267) (by kernel_rfl) rfl rfl,trivial⟩
set_option maxHeartbeats 0 in
theorem all_mk{l:PySem.W.OpenLaw}{w:World}{K:p4}{h:Heap}{mg:Str->Option Value}{fa:Addr}(Vn:∀ns:List Int,ns.length<=63->CG 100000 ab 60 "law" [.bP ns] []=some (.bl true,[]))(X:K.In h)(G:h.Ns mainGlobals mg)(UZ:mg "law" = some (.ref fa)){tk0:Tok}{tk1:Tok}{ga2:Addr}{Uk:Nat}{Ul:Tok}{Um:Tok}{Uo:Tok}(fs:TX (λe=>FA K (Str.ofString e.f) e.st) rm)(z0:PySem.W.nsIn K mainGlobals "all" = some none)(z1:PySem.W.nsIn K mainGlobals "dict" = some none)(z2:PySem.W.nsIn K mainGlobals "enumerate" = some none)(z3:PySem.W.nsIn K mainGlobals "int" = some none)(z4:PySem.W.nsIn K mainGlobals "len" = some none)(z5:PySem.W.nsIn K mainGlobals "list" = some none)(z6:PySem.W.nsIn K mainGlobals "max" = some none)(z7:PySem.W.nsIn K mainGlobals "range" = some none)(z8:PySem.W.nsIn K mainGlobals "reversed" = some none)(z9:PySem.W.nsIn K mainGlobals "set" = some none)(Y3:PySem.W.nsIn K mainGlobals "sorted" = some none)(Za:PySem.W.nsIn K mainGlobals "tuple" = some none)(Zb:PySem.W.nsIn K mainGlobals "zip" = some none)(Ue:PySem.W.nsIn K mainGlobals "NUMBERS" = some (some (.int 997 tk0)))(Ug:PySem.W.nsIn K mainGlobals "LEVELS" = some (some (.int 3 tk1)))(Uh:PySem.W.nsIn K mainGlobals "PAIRING" = some (some (.ref ga2)))(Uj:K.lookup ga2=some { cls:=.type "tuple",data:=.seq #[.str "sum" Ul,.str "times" Um,.str "less" Uo] Uk })
  : ∃fd:FuncData,(∀(s:Shared) (v:Value),BindsTo s fd ⟨[v],[]⟩ [("_law_script",v)])/\∀base:Heap,K.In base->base.Ns mainGlobals mg->i6 l.prog w K mg base jS 60 fa fd ["_law_script"] (uH K):=by
 have T:Tp K mg:=⟨PySem.W.mg_none_of X G z0,PySem.W.mg_none_of X G z1,PySem.W.mg_none_of X G z2,PySem.W.mg_none_of X G z3,PySem.W.mg_none_of X G z4,PySem.W.mg_none_of X G z5,PySem.W.mg_none_of X G z6,PySem.W.mg_none_of X G z7,PySem.W.mg_none_of X G z8,PySem.W.mg_none_of X G z9,PySem.W.mg_none_of X G Y3,PySem.W.mg_none_of X G Za,PySem.W.mg_none_of X G Zb,.int (PySem.W.mg_of X G Ue),.int (PySem.W.mg_of X G Ug),kU.strs (PySem.W.mg_of X G Uh) Uj rfl⟩
 have H:TX (vE K mg) rm:=Ku X G fs yf;obtain⟨x,oc,od,an,sl,kV,dc,pm,cd,ct,a,l,c,k⟩:=fs.2.2.2.2.2.2.2.2.2.2.2.2.2.2.2.2.2.2.2.2.2.2.2.2.2.2.2.2.2.2.2.2.2.2.2.2.2.2.2.2.1;have e:=UZ.symm.trans (PySem.W.mg_of X G a);cases e;refine⟨PySem.W.fnOf "law" "law" (O6 (top 49)) (JZ (top 49)) (HD (top 49)) .none kV dc pm an cd ct,λs v=>.of_eq rfl,λbase _ _=>?_⟩;exact NC (p7 (sO l c k) yf.2.2.2.2.2.2.2.2.2.2.2.2.2.2.2.2.2.2.2.2.2.2.2.2.2.2.2.2.2.2.2.2.2.2.2.2.2.2.2.2.1.1 (F:=tT) rfl rfl rfl (λdr A outer s Hh E hr=>(DL T (ds (W:=100000) T H 59) yf qs).2.2.2.2.2.2.2.2.2.2.2.2.2.2.2.2.2.2.2.2.2.2.2.2.2.2.2.2.2.2.2.2.2.2.2.2.2.2.2.2.1 hr)) Vn
noncomputable def qv:Program:={ PySem.Challenge.pw_whisperwall_k13_whole_other_names with main:={ PySem.Challenge.pw_whisperwall_k13_whole_other_names.main with body:=[top 1,top 2,top 3,top 4,top 5,top 6,top 8,top 9,top 10,top 11,top 12,top 14,top 15,top 16,top 17,top 19,top 20,top 21,top 22,top 23,top 25,top 26,top 27,top 28,top 29,top 30,top 32,top 33,top 34,top 35,top 36,top 37,top 38,top 39,top 40,top 41,top 42,top 43,top 44,top 45,top 46,top 47,top 48,top 49] } }
noncomputable def hk:PySem.W.Hook:=PySem.W.kHook KK kA (λ_=>by kernel_rfl)
noncomputable def xt(s:Shared):Bool:=PySem.W.xlAt qv [] s&&PySem.W.recOk (PySem.W.RowW.records (PySem.W.OpenRow.toRowW (PySem.W.OpenLaw.row PySem.Challenge.rw_whisperwall_k13_whole_other_names))) s
noncomputable def bl(w:World):=(PySem.W.openEnds treeTable PySem.Challenge.pw_whisperwall_k13_whole_other_names w 2702).map λs=>(PySem.W.openSeen qv [] (importedModules PySem.Challenge.pw_whisperwall_k13_whole_other_names.main.body) xt true s,kA.map s.heap.get?)
noncomputable def br(w:World):=some (PySem.W.openGood qv [],(KK w.params).map λp=>some p.2)
theorem bl_r:bl=bl:=rfl
theorem br_r:br=br:=rfl
name_quick ql for bl by bl_r
name_quick qr for br by br_r
theorem left(w:World):bl w=br w:=(congrFun PySem.W.Fast.ql_eq w).trans (Eq.trans (by kernel_rfl) (congrFun PySem.W.Fast.qr_eq w).symm)
end T
open PySem PySem.W PyProof.Rows
set_option maxRecDepth 100000 in
set_option maxHeartbeats 0 in
theorem PySem.Challenge.cw_whisperwall_k13_whole_other_names_holds : PySem.Challenge.rw_whisperwall_k13_whole_other_names.Holds := by
 w_on;o_law
 refine PySem.W.holds_open (q:=T.qv) (loose:=[]) (Xt:=T.xt) (XP:=PySem.W.XL T.qv []) (Yf:=T.hk.obs) (Ya:=T.hk.val) (YP:=T.hk.says) (N:=2702) T.left T.hk.of T.hk.keeps (λs e=>xl_of s (Bool.and_eq_true_iff.mp e).1) XL.keeps (by rfl) (by rfl) (by rfl)
  (λs e=>recFacts_of (Bool.and_eq_true_iff.mp e).2) (by rfl) (by assumption) (by decide +kernel) ⟨rfl,rfl,rfl,rfl,rfl,by decide +kernel⟩ ?hw ?hc
 (case hw=>w_witness2)
 refine WL.walk_law (l:=PySem.Challenge.rw_whisperwall_k13_whole_other_names) rfl rfl (λw h Y=>PySem.W.kIn_of Y) ?F
 case F=>
  intro w mg fa h KX G hmg;exact T.all_mk (tk0:=189) (tk1:=191) (ga2:=15) T.law_true KX G hmg (T.fas _) (by kernel_rfl) (by kernel_rfl) (by kernel_rfl) (by kernel_rfl) (by kernel_rfl) (by kernel_rfl) (by kernel_rfl) (by kernel_rfl) (by kernel_rfl) (by kernel_rfl) (by kernel_rfl) (by kernel_rfl) (by kernel_rfl) (by kernel_rfl) (by kernel_rfl) (by kernel_rfl) rfl
end
