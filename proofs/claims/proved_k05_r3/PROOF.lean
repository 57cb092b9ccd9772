import PyProof.Rows.All
import Wide.All
import OpenK.AllK
import Wide.FinOn
import Lean
import PyProof.EqAt
import PyProof.EqKinds
import PyProof.TupleCall
import PyProof.CompFree
import PyProof.CompUse
import PyProof.P3Eq
import PyProof.NeData
import PyProof.ZipIter
import PyProof.WalksMore
import KE.LcSums
import KE.KMinKey
import PyProof.Rows.CallKwBuiltin
import PyProof.SetRoads
import PyProof.Rows.SetFrom
import KE.KDictSum
import PyProof.StrWalks
import PyProof.Draws
import PyProof.EnumMake
import PySem.Challenge.RW_whisperwall_k05_what_is_let
set_option Elab.async false
set_option linter.all false
set_option maxRecDepth 100000
set_option maxHeartbeats 4000000
set_option genSizeOfSpec false
section
namespace L2
open PySem PySem.Spec PyProof.Rows
noncomputable abbrev Key:=Sum Int Str
noncomputable def keyIs:Key→Value→Bool
 | .inl k,v=>Value.isInt k v
 | .inr x,v=>Value.isStrOf x v
noncomputable def keyH(w:World):Key→Int
 | .inl k=>hashInt k
 | .inr x=>hashStr w x
theorem DW:∀{k:Key} {v:Value},keyIs k v=true→(∃i t,k=Sum.inl i∧v=Value.int i t)∨(∃x t,k=Sum.inr x∧v=Value.str x t)
 | .inl i,v,h=>by
  obtain⟨t,e⟩:=Value.isInt_shape (k:=i) (v:=v) h
  exact .inl ⟨i,t,rfl,e⟩
 | .inr x,v,h=>by
  obtain⟨t,e⟩:=Value.isStrOf_shape (x:=x) (v:=v) h
  exact .inr ⟨x,t,rfl,e⟩
theorem g8(i:Int)(t:Tok):keyIs (.inl i) (.int i t)=true:=by simp[keyIs,Value.isInt]
theorem fZ(x:Str)(t:Tok):keyIs (.inr x) (.str x t)=true:=by simp[keyIs,Value.isStrOf]
theorem vY(a b:Int):decide ((Sum.inl a:Key)=Sum.inl b)=(a==b):=by
 by_cases e:a=b
 ·subst e;simp
 ·have h:¬(Sum.inl a:Key)=Sum.inl b:=fun q=>e (Sum.inl.inj q)
  rw[decide_eq_false h]
  exact(beq_eq_false_iff_ne.mpr e).symm
theorem vV(a b:Str):decide ((Sum.inr a:Key)=Sum.inr b)=decide (a=b):=by
 by_cases e:a=b
 ·subst e;simp
 ·have h:¬(Sum.inr a:Key)=Sum.inr b:=fun q=>e (Sum.inr.inj q)
  rw[decide_eq_false h,decide_eq_false e]
theorem vX(a:Int)(b:Str):decide ((Sum.inl a:Key)=Sum.inr b)=false:=decide_eq_false (fun q=>nomatch q)
theorem vW(a:Str)(b:Int):decide ((Sum.inr a:Key)=Sum.inl b)=false:=decide_eq_false (fun q=>nomatch q)
noncomputable def mixKind(prog:Program)(w:World):PySem.KeyKind prog w Key where
 is:=keyIs
 hash:=keyH w
 inj:=fun v a b ha hb=>by
  rcases DW ha with ⟨i,t,rfl,rfl⟩ | ⟨x,t,rfl,rfl⟩
  ·rcases DW hb with ⟨j,u,rfl,e⟩ | ⟨y,u,rfl,e⟩
   ·injection e with e1 _;rw[e1]
   ·exact nomatch e
  ·rcases DW hb with ⟨j,u,rfl,e⟩ | ⟨y,u,rfl,e⟩
   ·exact nomatch e
   ·injection e with e1 _;rw[e1]
 byValue:=fun k v h=>by
  rcases DW h with ⟨i,t,rfl,rfl⟩ | ⟨x,t,rfl,rfl⟩<;>rfl
 pyHash:=fun hv h=>by
  rcases DW hv with ⟨i,t,rfl,rfl⟩ | ⟨x,t,rfl,rfl⟩
  ·exact wpAny_pyHash_int h
  ·exact wpAny_pyHash_str h
 eqBool:=fun hu hv h=>by
  rcases DW hu with ⟨i,t,rfl,rfl⟩ | ⟨x,t,rfl,rfl⟩
  ·rcases DW hv with ⟨j,u,rfl,rfl⟩ | ⟨y,u,rfl,rfl⟩
   ·rw[vY]at h;exact wpAny_eqBool_int h
   ·rw[vX]at h;exact SeqAt.EqAt.int_str i t y u _ _ _ _ h
  ·rcases DW hv with ⟨j,u,rfl,rfl⟩ | ⟨y,u,rfl,rfl⟩
   ·rw[vW]at h;exact SeqAt.EqAt.str_int x t j u _ _ _ _ h
   ·rw[vV]at h;exact wpAny_eqBool_str h
 «strs»:=fun k x t v h=>by
  rcases DW h with ⟨i,u,rfl,e⟩ | ⟨y,u,rfl,e⟩
  ·exact nomatch e
  ·injection e with e1 _
   subst e1
   cases v<;>rfl
theorem YG(prog:Program)(w:World)(i:Int)(t:Tok):(mixKind prog w).is (.inl i) (.int i t)=true:=g8 i t
theorem YF(prog:Program)(w:World)(x:Str)(t:Tok):(mixKind prog w).is (.inr x) (.str x t)=true:=fZ x t
end L2
namespace L2
open PySem PySem.Spec PyProof.Rows
inductive V where
 | non | bl (b:Bool) | int (i:Int) | str (x:Str) | byt (b:Array UInt8) | flt (b:UInt64) | ref (a:Addr) | ty (n:String)
 deriving DecidableEq
def RelV:V→Value→Prop
 | .non,u=>u=Value.none
 | .bl b,u=>u=Value.bool b
 | .int i,u=>∃t,u=Value.int i t
 | .str x,u=>∃t,u=Value.str x t
 | .byt b,u=>∃t,u=Value.bytes b t
 | .flt b,u=>∃t,u=Value.float b t
 | .ref a,u=>u=Value.ref a
 | .ty n,u=>u=Value.type n
noncomputable abbrev Vals:List V→List Value→Prop:=Paired RelV
theorem Vals.length{xs:List V}{us:List Value}(r:Vals xs us):xs.length=us.length:=Paired.length r
theorem Vals.get:∀{xs:List V} {us:List Value} {i:Nat} {x:V},Vals xs us→xs[i]?=some x→∃u,us[i]?=some u∧RelV x u
 | _,_,_,_,.nil,e=>by simp at e
 | _,_,0,_,.cons r _,e=>by simp at e;subst e;exact⟨_,rfl,r⟩
 | _,_,i+1,x,.cons _ t,e=>by
  obtain⟨u,h1,h2⟩:=Vals.get (i:=i) (x:=x) t (by simpa using e)
  exact⟨u,by simpa using h1,h2⟩
theorem Vals.append{xs ys:List V}{us ws:List Value}(h:Vals xs us)(g:Vals ys ws):Vals (xs++ys) (us++ws):=by
 induction h with
 | nil=>exact g
 | cons r t ih=>exact .cons r ih
theorem Vals.take:∀{xs:List V} {us:List Value} (n:Nat),Vals xs us→Vals (xs.take n) (us.take n)
 | _,_,0,_=>.nil
 | _,_,_+1,.nil=>.nil
 | _,_,n+1,.cons r t=>.cons r (Vals.take n t)
theorem Vals.drop:∀{xs:List V} {us:List Value} (n:Nat),Vals xs us→Vals (xs.drop n) (us.drop n)
 | _,_,0,r=>r
 | _,_,_+1,.nil=>.nil
 | _,_,n+1,.cons _ t=>Vals.drop n t
def RelO:Option V→Option Value→Prop
 | some v,some u=>RelV v u
 | none,none=>True
 | _,_=>False
def KV{κ:Type}:List (κ×V)→List (κ×Value)→Prop:=Paired fun(p:κ×V) (q:κ×Value)=>p.1=q.1∧RelV p.2 q.2
noncomputable def kV:Key→V
 | .inl i=>.int i
 | .inr x=>.str x
end L2
namespace PySem
open Sem (wp)
open L2
noncomputable abbrev FK:=Str×Str×(Int ⊕ Str)
noncomputable def fk2(k:FK):List (Int ⊕ Str):=[.inr k.2.1,k.2.2]
section
variable{prog:Program}{w:World}
def IsFlow(prog:Program)(w:World)(h:Heap)(k:FK)(a:Addr):Prop:=∃o items n t b,h.get? a=some o∧o.cls=.type "tuple"∧o.data=.seq items n∧items.toList=[.str k.1 t,.ref b]∧IsTupleKey (mixKind prog w) h (fk2 k) b
theorem IsFlow.typeIs{s:Shared}{k:FK}{a:Addr}(x:IsFlow prog w s.heap k a):s.TypeIs (.ref a) "tuple":=by
 obtain⟨o,_,_,_,_,ho,hc,_⟩:=x
 exact⟨o,ho,hc⟩
theorem lJ{x y:FK}(h1:x.1=y.1)(h2:fk2 x=fk2 y):x=y:=by
 obtain⟨a,b,c⟩:=x
 obtain⟨a',b',c'⟩:=y
 simp only[fk2,List.cons.injEq,Sum.inr.injEq,and_true]at h1 h2
 rw[h1,h2.1,h2.2]
theorem IsFlow.inj{h:Heap}{a:Addr}{x y:FK}(hx:IsFlow prog w h x a)(hy:IsFlow prog w h y a):x=y:=by
 obtain⟨o,items,n,t,b,ho,_,hd,hi,hb⟩:=hx
 obtain⟨o',items',n',t',b',ho',_,hd',hi',hb'⟩:=hy
 obtain rfl:o=o':=Option.some.inj (ho.symm.trans ho')
 rw[hd]at hd'
 injection hd' with h1 _
 subst h1
 rw[hi]at hi'
 simp only[List.cons.injEq,Value.str.injEq,Value.ref.injEq,and_true]at hi'
 obtain⟨⟨e1,_⟩,rfl⟩:=hi'
 exact lJ e1 (hb.inj hb')
theorem IsFlow.keeps{h h':Heap}{k:FK}{a d:Addr}{o:Obj}{es ep}(x:IsFlow prog w h k a)(ho:h.get? d=some o)(hd:o.data=.dict es ep)(hs:Heap.SameBut d h h'):IsFlow prog w h' k a:=by
 obtain⟨o',items,n,t,b,ho',hc,hd',hi,hb⟩:=x
 have hne:a≠d:=by
  rintro rfl
  obtain rfl:o'=o:=Option.some.inj (ho'.symm.trans ho)
  rw[hd]at hd';exact nomatch hd'
 exact⟨o',items,n,t,b,(hs.2 a hne).trans ho',hc,hd',hi,hb.keeps ho hd hs⟩
noncomputable def flowHash(prog:Program)(w:World)(k:FK):Int:=reduceHash (Builtin.Tuple.tupleHashOf [(mixKind prog w).hash (.inr k.1),tupleKeyHash (mixKind prog w) (fk2 k)])
variable{A:Around}{E:Value→Shared→Prop}{s:Shared}
theorem K6{x:Str}{t:Tok}:(mixKind prog w).is (.inr x) (.str x t)=true:=by
 show keyIs (.inr x) (.str x t)=true
 simp[keyIs,Value.isStrOf]
theorem J8{k:FK}{a:Addr}{Q:Int→Shared→Prop}(hu:A.units+10<cLine)(hk:IsFlow prog w s.heap k a)(h:Q (flowHash prog w k) { s with toks:=s.toks+5 }):
  wpAny (model prog w) A (pyHash (.ref a)) Q E s:=by
 have hT:=hk.typeIs
 obtain⟨o,items,n,t,b,ho,_,hd,hi,hb⟩:=hk
 unfold pyHash
 first | unfold pyHashByItsType | skip
 first | refine wpAny_bind (wpAny_cRoomFor_or (.inr (by lia)) ?_) | skip
 refine wpAny_bind (wpAny_specialOf hT F.slot_tuple_hash.lookup ?_)
 show wpAny _ _ (if (some (Value.builtin "tuple.__hash__")==some Value.none)=true then _ else _) Q E s
 rw[if_neg (by rw[beq_builtin_none];exact Bool.false_ne_true)]
 refine wpAny_bind (wpAny_specialOf hT F.slot_tuple_hash.lookup ?_)
 show wpAny _ _ (callSpecialIfBoundUnlessNone? (.ref a) "__hash__" _ >>= _) Q E s
 refine wpAny_bind (wpAny_callSpecialIfBoundUnlessNone?_slot hT F.slot_tuple_hash (wpAny_call_entry F.slot_tuple_hash hT F.entry_tuple_hash ?_ (F.args_tuple_hash_1 _)))
 show wpAny _ _ (Builtin.Tuple.tupleItemsOf (.ref a) >>= _) _ _ s
 refine wpAny_bind (wpAny_tupleItemsOf ho hd ?_)
 refine wpAny_bind ?_
 rw[←Array.forIn_toList,hi]
 rw[List.forIn_cons]
 refine wpAny_bind ?_
 refine wpAny_bind ((mixKind prog w).pyHash (k:=.inr k.1) K6 ?_)
 refine wpAny_pure ?_
 show wpAny _ _ (forIn [Value.ref b] _ _) _ _ _
 rw[List.forIn_cons]
 refine wpAny_bind ?_
 refine wpAny_bind (wpAny_pyHash_tuple (ks:=fk2 k) (show A.units+1<cLine by lia) hb ?_)
 refine wpAny_pure ?_
 show wpAny _ _ (forIn ([]:List Value) _ _) _ _ _
 rw[List.forIn_nil]
 refine wpAny_pure ?_
 show wpAny _ _ (retInt (Builtin.Tuple.tupleHashOf [(mixKind prog w).hash (.inr k.1),tupleKeyHash (mixKind prog w) (fk2 k)])) _ _ _
 refine wpAny_ret_mkInt ?_
 show wpAny _ _ (if (decide (-(2:Int) ^ 63≤Builtin.Tuple.tupleHashOf [(mixKind prog w).hash (.inr k.1),tupleKeyHash (mixKind prog w) (fk2 k)])&&decide (Builtin.Tuple.tupleHashOf [(mixKind prog w).hash (.inr k.1),tupleKeyHash (mixKind prog w) (fk2 k)]<2 ^ 63))=true then _ else _) Q E _
 unfold flowHash reduceHash at h
 by_cases hr:(decide (-(2:Int) ^ 63≤Builtin.Tuple.tupleHashOf [(mixKind prog w).hash (.inr k.1),tupleKeyHash (mixKind prog w) (fk2 k)])&&decide (Builtin.Tuple.tupleHashOf [(mixKind prog w).hash (.inr k.1),tupleKeyHash (mixKind prog w) (fk2 k)]<2 ^ 63))=true
 ·rw[if_pos hr]
  rw[if_pos hr]at h
  exact wpAny_pure (by simpa[Nat.add_assoc,fk2] using h)
 ·rw[if_neg hr]
  rw[if_neg hr]at h
  exact wpAny_bind (wpAny_rule (wpAny_pure (by simpa[Nat.add_assoc,fk2] using h)))
theorem VG{x y:FK}{a b:Addr}{P:Fin→Shared→Prop}(hu:A.units+5<cLine)(hx:IsFlow prog w s.heap x a)(hy:IsFlow prog w s.heap y b)(h:P (.done (.ret (.bool (decide (x=y))))) s):
  wpAny (model prog w) A (Builtin.«tuple.__eq__» ⟨[.ref a,.ref b],[]⟩) P E s:=by
 have hTb:=hy.typeIs
 obtain⟨oa,xs,na,ta,ba,hoa,_,hda,hia,hka⟩:=hx
 obtain⟨ob,ys,nb,tb,bb,hob,_,hdb,hib,hkb⟩:=hy
 show wpAny _ _ (isInstance (.ref b) (.type "tuple") >>= _) _ _ s
 refine wpAny_bind (wpAny_isInstance hTb isSubtype_tuple_tuple ?_)
 simp only[Bool.not_true,Bool.false_eq_true,if_false]
 refine wpAny_bind (wpAny_tupleItemsOf hoa hda ?_)
 refine wpAny_bind (wpAny_tupleItemsOf hob hdb ?_)
 refine wpAny_bind ?_
 have hsz:xs.size==ys.size:=by
  have h1:xs.size=2:=by rw[←Array.length_toList,hia];rfl
  have h2:ys.size=2:=by rw[←Array.length_toList,hib];rfl
  simp[h1,h2]
 rw[hia,hib]
 show wpAny _ _ (forIn [(Value.str x.1 ta,Value.str y.1 tb),(Value.ref ba,Value.ref bb)] _ _) _ _ _
 rw[List.forIn_cons]
 refine wpAny_bind ?_
 refine wpAny_bind ((mixKind prog w).eqBool (a:=.inr x.1) (b:=.inr y.1) K6 K6 ?_)
 by_cases h1:x.1=y.1
 ·rw[decide_eq_true (show (Sum.inr x.1:Key)=.inr y.1 by rw[h1])]
  simp only[Bool.not_true,Bool.false_eq_true,if_false]
  refine wpAny_pure ?_
  show wpAny _ _ (forIn [(Value.ref ba,Value.ref bb)] _ _) _ _ _
  rw[List.forIn_cons]
  refine wpAny_bind ?_
  refine wpAny_bind (wpAny_eqBool_tuple (x:=fk2 x) (y:=fk2 y) (by lia) hka hkb ?_)
  by_cases h2:fk2 x=fk2 y
  ·rw[decide_eq_true h2]
   simp only[Bool.not_true,Bool.false_eq_true,if_false]
   refine wpAny_pure ?_
   show wpAny _ _ (forIn ([]:List (Value×Value)) _ _) _ _ _
   rw[List.forIn_nil]
   refine wpAny_pure (wpAny_pure ?_)
   rw[decide_eq_true (lJ h1 h2)]at h
   show P (.done (.ret (.bool (xs.size==ys.size)))) s
   rw[hsz];exact h
  ·rw[decide_eq_false h2]
   simp only[Bool.not_false,if_true]
   rw[decide_eq_false fun e=>h2 (by rw[e])]at h
   exact wpAny_bind (wpAny_pure (wpAny_pure (wpAny_pure (wpAny_pure h))))
 ·rw[decide_eq_false (show ¬(Sum.inr x.1:Key)=.inr y.1 from fun e=>h1 (Sum.inr.inj e))]
  simp only[Bool.not_false,if_true]
  rw[decide_eq_false fun e=>h1 (by rw[e])]at h
  exact wpAny_bind (wpAny_pure (wpAny_pure (wpAny_pure (wpAny_pure h))))
theorem GR{x y:FK}{a b:Addr}{Q:Bool→Shared→Prop}(hu:A.units+10<cLine)(hx:IsFlow prog w s.heap x a)(hy:IsFlow prog w s.heap y b)(h:Q (decide (x=y)) s):
  wpAny (model prog w) A (eqBool (.ref a) (.ref b)) Q E s:=by
 unfold eqBool
 try with_reducible refine wpAny_holding ?_
 show wpAny _ _ (if (Value.ref a==Value.ref b)=true then _ else _) Q E s
 by_cases hab:(Value.ref a==Value.ref b)=true
 ·rw[if_pos hab]
  have e:a=b:=by have:=eq_of_beq hab;injection this
  subst e
  obtain rfl:=hx.inj hy
  exact wpAny_bind (wpAny_rule (wpAny_pure (by simpa using h)))
 ·rw[if_neg hab]
  exact wpAny_bind (wpAny_richCompare_same_room (op:=.Eq) hx.typeIs hy.typeIs F.slot_tuple_eq
   (wpAny_call_entry F.slot_tuple_eq hx.typeIs F.entry_tuple_eq (VG (by show A.units+1+5<cLine;lia) hx hy ⟨_,rfl,(fun e=>nomatch e),wpAny_truthy_bool h⟩) (F.args_tuple_eq_2 _ _)) (by lia))
theorem XS{ks:List Key}{a:Addr}{n:Nat}{Q:Bool→Shared→Prop}(hk:IsTupleKey (mixKind prog w) s.heap ks a)(h:Q true s):wpAny (model prog w) A (eqIsQuiet (n+1) (.ref a)) Q E s:=by
 have hT:=hk.typeIs
 obtain⟨o,items,n,ho,_,hd,hi⟩:=hk
 unfold eqIsQuiet
 refine wpAny_bind (wpAny_specialOf hT F.slot_tuple_eq.lookup ?_)
 show wpAny _ _ (isInstance (.ref a) (.type "tuple") >>= _) _ _ s
 refine wpAny_bind (wpAny_isInstance hT isSubtype_tuple_tuple ?_)
 simp only[Bool.not_true,Bool.false_eq_true,if_false]
 refine wpAny_bind (wpAny_seqItems ho hd ?_)
 refine wpAny_bind ?_
 show wpAny _ _ (forIn items _ _) _ _ s
 rw[←Array.forIn_toList]
 refine wpAny_forIn_list _ (fun rest r s'=>r.1=none∧s'=s∧∀v∈rest,carriedByValue v=true) _ ?_ ?_ _ _ ⟨rfl,rfl,hi.byValue⟩
 ·rintro v rest r s' ⟨hr,rfl,hall⟩
  rw[eqIsQuiet_byValue _ (hall v List.mem_cons_self)]
  refine wpAny_bind (wpAny_pure ?_)
  simp only[Bool.not_true,Bool.false_eq_true,if_false]
  exact wpAny_pure ⟨rfl,rfl,fun u hu'=>hall u (List.mem_cons_of_mem _ hu')⟩
 ·rintro ⟨r1,r2⟩ s' ⟨hr,rfl,_⟩
  simp only at hr
  subst hr
  exact wpAny_pure h
theorem GF{k:FK}{a:Addr}{Q:Bool→Shared→Prop}(hk:IsFlow prog w s.heap k a)(h:Q true s):wpAny (model prog w) A (eqIsQuiet 8 (.ref a)) Q E s:=by
 have hT:=hk.typeIs
 obtain⟨o,items,n,t,b,ho,_,hd,hi,hb⟩:=hk
 unfold eqIsQuiet
 refine wpAny_bind (wpAny_specialOf hT F.slot_tuple_eq.lookup ?_)
 show wpAny _ _ (isInstance (.ref a) (.type "tuple") >>= _) _ _ s
 refine wpAny_bind (wpAny_isInstance hT isSubtype_tuple_tuple ?_)
 simp only[Bool.not_true,Bool.false_eq_true,if_false]
 refine wpAny_bind (wpAny_seqItems ho hd ?_)
 refine wpAny_bind ?_
 show wpAny _ _ (forIn items _ _) _ _ s
 rw[←Array.forIn_toList,hi,List.forIn_cons]
 refine wpAny_bind ?_
 rw[eqIsQuiet_byValue _ rfl]
 refine wpAny_bind (wpAny_pure ?_)
 simp only[Bool.not_true,Bool.false_eq_true,if_false]
 refine wpAny_pure ?_
 show wpAny _ _ (forIn [Value.ref b] _ _) _ _ _
 rw[List.forIn_cons]
 refine wpAny_bind ?_
 refine wpAny_bind (XS (n:=6) hb ?_)
 simp only[Bool.not_true,Bool.false_eq_true,if_false]
 refine wpAny_pure ?_
 show wpAny _ _ (forIn ([]:List Value) _ _) _ _ _
 rw[List.forIn_nil]
 exact wpAny_pure (wpAny_pure h)
end
noncomputable def flowKind(prog:Program)(w:World):HeapKind prog w FK where
 is:=IsFlow prog w
 hash:=flowHash prog w
 draws:=fun _=>5
 room:=fun A=>A.units+10<cLine
 inj:=fun hx hy=>hx.inj hy
 keeps:=fun x ho hd hs=>x.keeps ho hd hs
 pyHash:=fun hu hk h=>J8 hu hk (by simpa using h)
 eqBool:=fun hu hx hy h=>GR hu hx hy h
 quiet:=fun hk h=>GF hk h
end PySem
namespace L2
open PySem PySem.Spec PyProof.Rows
inductive HO where
  | dF (xs:List (FK×Addr))
  | lst (xs:List V)
  | tup (xs:List V)
  | dK (kvs:List (Key×V)) | dT (kvs:List (List Key×V))
  | set (S:Int→Bool) (n:Nat)
  | ins (C dx:Addr) (fs:List (Str×V))
  | own (x:Addr)
  | xd (fs:List (Str×V))
  | met (f x:Addr)
  | rng (lo hi:Int)
  | frz (o:Obj) (u:HO)
  | tbl (ps:Array Value)
  | ext (φ:Heap→Prop)
noncomputable abbrev Hp:=Addr→Option HO
noncomputable def upd(H:Hp)(a:Addr)(o:HO):Hp:=fun b=>if b=a then some o else H b
theorem CV{H:Hp}{a:Addr}{o:HO}:upd H a o a=some o:=by unfold upd;rw[if_pos rfl]
theorem CJ{H:Hp}{a b:Addr}{o:HO}(h:b≠a):upd H a o b=H b:=by unfold upd;rw[if_neg h]
theorem bN{H:Hp}{a:Addr}{o u:HO}:upd (upd H a o) a u=upd H a u:=by
 funext b;unfold upd;split<;>rfl
theorem yG{H:Hp}{a b:Addr}{o u:HO}(h:H a=some o)(h':H b=some u)(d:o≠u):a≠b:=by
 intro e;subst e;rw[h]at h';exact d (Option.some.inj h')
theorem DR{H:Hp}{a b:Addr}{o:HO}(h:H a=some o)(h':H b=none):a≠b:=by
 intro e;subst e;rw[h]at h';cases h'
section
variable(P:Program)(w:World)
def ObjOk(H:Hp)(h:Heap)(a:Addr):HO→Prop
 | .lst xs=>xs.length≤sizeLine∧∃(its:List Value) (n:Nat),Vals xs its∧h.get? a=some { cls:=.type "list",data:=.seq its.toArray n }
 | .tup xs=>xs.length≤sizeLine∧∃its:List Value,Vals xs its∧IsTup h a its.toArray
 | .dK kvs=>kvs.length≤sizeLine∧(a==sysModules)=false∧∃vs,KV kvs vs∧h.DictOf (mixKind P w) a vs
 | .dT kvs=>kvs.length≤sizeLine∧(a==sysModules)=false∧∃xs:List (List Key×Addr×Value),
   Paired (fun(p:List Key×V) (q:List Key×Addr×Value)=>p.1=q.1∧H q.2.1=some (.tup (p.1.map kV))∧RelV p.2 q.2.2) kvs xs∧
   ∃o es ep,h.get? a=some o∧o.ExactDict∧o.data=.dict es ep∧es.toList=xs.map (entryOfKey (tupleKind (mixKind P w)))∧(xs.map (·.1)).Nodup
 | .dF xs=>xs.length≤sizeLine∧(a==sysModules)=false∧∃o es ep,h.get? a=some o∧o.ExactDict∧o.data=.dict es ep∧es.toList=xs.map (fun x=>entryOfKey (flowKind P w) (x.1,x.2,.bool true))∧(xs.map (·.1)).Nodup
 | .set S n=>h.SetOf (intKind P w) a S n
 | .ins C dx fs=>H dx=some (.own a)∧fs.length≤1000∧dx≠a∧h.get? a=some (PySem.W.instObj C dx)∧
   ∃mA,h.Ns1 dx mA∧(∀f,RelO (fs.lookup f) (mA f))∧PySem.Within mA (fs.map (·.1))
 | .own _=>∃o,h.get? a=some o
 | .xd fs=>∃mA,h.Ns1 a mA∧∀f,RelO (fs.lookup f) (mA f)
 | .rng lo hi=>∃t u v,h.get? a=some { cls:=.type "range",data:=.fields #[.int lo t,.int hi u,.int 1 v] }
 | .frz o u=>h.get? a=some o∧ObjOk H h a u
 | .tbl ps=>h.get? a=some { cls:=.none,data:=.fields ps }
 | .met f x=>h.get? a=some (PySem.W.methodObj (.ref f) (.ref x))
 | .ext φ=>φ h∧(∃o,h.get? a=some o)∧∀h1 h2:Heap,φ h1→(∀o,h1.get? a=some o→h2.get? a=some o)→φ h2
def HOk(H:Hp)(h:Heap):Prop:=∀a o,H a=some o→ObjOk P w H h a o
end
section
variable{P:Program}{w:World}{H H':Hp}{h h':Heap}{a:Addr}{o:HO}
theorem ObjOk.lt(x:ObjOk P w H h a o):a<h.objs.size:=by
 cases o with
 | lst xs=>obtain⟨_,_,_,_,e⟩:=x;exact Heap.lt_size e
 | tup xs=>obtain⟨_,_,_,p⟩:=x;exact p.lt
 | dK kvs=>obtain⟨_,_,_,_,o,_,_,e,_⟩:=x;exact Heap.lt_size e
 | dT kvs=>obtain⟨_,_,_,_,o,_,_,e,_⟩:=x;exact Heap.lt_size e
 | dF kvs=>obtain⟨_,_,o,_,_,e,_⟩:=x;exact Heap.lt_size e
 | set S n=>obtain⟨o,_,_,_,e,_⟩:=x;exact Heap.lt_size e
 | ins C dx fs=>obtain⟨_,_,_,e,_⟩:=x;exact Heap.lt_size e
 | own y=>obtain⟨_,e⟩:=x;exact Heap.lt_size e
 | xd fs=>obtain⟨_,⟨_,_,_,e,_⟩,_⟩:=x;exact Heap.lt_size e
 | rng lo hi=>obtain⟨_,_,_,e⟩:=x;exact Heap.lt_size e
 | frz ob u=>obtain⟨e,_⟩:=x;exact Heap.lt_size e
 | tbl ps=>exact Heap.lt_size (show h.get? a=some _ from x)
 | met f y=>exact Heap.lt_size (show h.get? a=some _ from x)
 | ext φ=>obtain⟨_,⟨_,e⟩,_⟩:=x;exact Heap.lt_size e
theorem Paired.mapP{α β:Type}{F G:α→β→Prop}{l₁:List α}{l₂:List β}(h:Paired F l₁ l₂)(f:∀a b,F a b→G a b):Paired G l₁ l₂:=by
 induction h with
 | nil=>exact .nil
 | cons r t ih=>exact .cons (f _ _ r) ih
theorem ObjOk.stay(x:ObjOk P w H h a o)(k:∀b u,(b=a∨H b=some (.own a))→h.get? b=some u→h'.get? b=some u)
  (ho:∀b,H b=some (.own a)→H' b=some (.own a)) (ht:∀b xs,H b=some (.tup xs)→H' b=some (.tup xs)):ObjOk P w H' h' a o:=by
 induction o with
 | lst xs=>obtain⟨z,its,n,r,e⟩:=x;exact⟨z,its,n,r,k _ _ (.inl rfl) e⟩
 | tup xs=>obtain⟨z,its,r,ob,e,c⟩:=x;exact⟨z,its,r,ob,k _ _ (.inl rfl) e,c⟩
 | dK kvs=>obtain⟨z,y,vs,r,ob,es,ep,e,c⟩:=x;exact⟨z,y,vs,r,ob,es,ep,k _ _ (.inl rfl) e,c⟩
 | dT kvs=>
  obtain⟨z,y,xs,r,ob,es,ep,e,c⟩:=x
  exact⟨z,y,xs,Paired.mapP r fun p q z=>⟨z.1,ht _ _ z.2.1,z.2.2⟩,ob,es,ep,k _ _ (.inl rfl) e,c⟩
 | dF kvs=>obtain⟨z,y,ob,es,ep,e,c⟩:=x;exact⟨z,y,ob,es,ep,k _ _ (.inl rfl) e,c⟩
 | set S n=>obtain⟨ob,es,ep,t,e,c⟩:=x;exact⟨ob,es,ep,t,k _ _ (.inl rfl) e,c⟩
 | ins C dx fs=>
  obtain⟨d,z,ne,e,mA,⟨od,es,ep,e2,c⟩,r⟩:=x
  exact⟨ho _ d,z,ne,k _ _ (.inl rfl) e,mA,⟨od,es,ep,k _ _ (.inr d) e2,c⟩,r⟩
 | own y=>obtain⟨ob,e⟩:=x;exact⟨ob,k _ _ (.inl rfl) e⟩
 | xd fs=>obtain⟨mA,⟨od,es,ep,e,c⟩,r⟩:=x;exact⟨mA,⟨od,es,ep,k _ _ (.inl rfl) e,c⟩,r⟩
 | rng lo hi=>obtain⟨t,u,v,e⟩:=x;exact⟨t,u,v,k _ _ (.inl rfl) e⟩
 | frz ob u ih=>obtain⟨e,q⟩:=x;exact⟨k _ _ (.inl rfl) e,ih q⟩
 | tbl ps=>
  have e:h.get? a=some { cls:=.none,data:=.fields ps }:=x
  show h'.get? a=some { cls:=.none,data:=.fields ps }
  exact k a _ (.inl rfl) e
 | met f y=>
  have e:h.get? a=some (PySem.W.methodObj (.ref f) (.ref y)):=x
  show h'.get? a=some (PySem.W.methodObj (.ref f) (.ref y))
  exact k a _ (.inl rfl) e
 | ext φ=>obtain⟨p,⟨o,e⟩,st⟩:=x;exact⟨st _ _ p fun o q=>k _ _ (.inl rfl) q,⟨o,k _ _ (.inl rfl) e⟩,st⟩
theorem HOk.lt(x:HOk P w H h)(e:H a=some o):a<h.objs.size:=(x a o e).lt
theorem HOk.fresh(x:HOk P w H h)(e:h.objs.size≤a):H a=none:=by
 cases q:H a with
 | none=>rfl
 | some u=>exact absurd (Nat.lt_of_lt_of_le (x.lt q) e) (Nat.lt_irrefl _)
theorem HOk.kept(x:HOk P w H h)(k:∀b u,h.get? b=some u→h'.get? b=some u):HOk P w H h':=fun a o e=>
 (x a o e).stay (fun b u _ q=>k b u q) (fun _ q=>q) fun _ _ q=>q
theorem HOk.laid(x:HOk P w H h)(k:∀b u,h.get? b=some u→h'.get? b=some u)(hp:h.objs.size≤a)(new:ObjOk P w (upd H a o) h' a o):HOk P w (upd H a o) h':=fun b u e=>by
 have hn:=x.fresh hp
 by_cases hb:b=a
 ·subst hb;rw[CV]at e;cases e;exact new
 ·rw[CJ hb]at e
  exact(x b u e).stay (fun c v _ q=>k c v q) (fun c q=>by rw[CJ (DR q hn)];exact q) fun c xs q=>by rw[CJ (DR q hn)];exact q
end
def Rd(H:Hp)(a:Addr)(u:HO):Prop:=H a=some u∨∃o,H a=some (.frz o u)
theorem Rd.ok{P:Program}{w:World}{H:Hp}{h:Heap}{a:Addr}{u:HO}(r:Rd H a u)(x:HOk P w H h):ObjOk P w H h a u:=by
 rcases r with r | ⟨o,r⟩
 ·exact x a u r
 ·obtain⟨_,q⟩:=x a _ r
  exact q
def Mut:Option HO→Prop
 | some (.lst _)=>True
 | some (.dK _)=>True
 | some (.dT _)=>True
 | some (.dF _)=>True
 | some (.set _ _)=>True
 | some (.ins _ _ _)=>True
 | some (.ext _)=>True
 | _=>False
section
variable{P:Program}{w:World}{H:Hp}{h h':Heap}{x e:Addr}{o':HO}
theorem HOk.write(ok:HOk P w H h)(mu:Mut (H x))(he:e=x∨H e=some (.own x))(k:∀b u,b≠e→h.get? b=some u→h'.get? b=some u)(heo:∃u,h'.get? e=some u)
  (new:ObjOk P w (upd H x o') h' x o'):HOk P w (upd H x o') h':=fun b u q=>by
 have nown:∀c y,H c=some (.own y)→c≠x:=fun c y r z=>by subst z;rw[r]at mu;exact mu
 have ntup:∀c xs,H c=some (.tup xs)→c≠x:=fun c xs r z=>by subst z;rw[r]at mu;exact mu
 by_cases hb:b=x
 ·subst hb;rw[CV]at q;cases q;exact new
 ·rw[CJ hb]at q
  by_cases hbe:b=e
  ·have q':H b=some (.own x):=by
    rcases he with z | z
    ·exact absurd (hbe.trans z) hb
    ·rw[hbe];exact z
   rw[q]at q';cases q'
   obtain⟨v,hv⟩:=heo
   exact⟨v,by rw[hbe];exact hv⟩
  ·refine(ok b u q).stay (fun c v hc r=>k c v ?_ r) (fun c r=>by rw[CJ (nown c b r)];exact r) fun c xs r=>by rw[CJ (ntup c xs r)];exact r
   rcases hc with rfl | hc
   ·exact hbe
   ·rintro rfl
    rcases he with z | z
    ·exact nown c b hc z
    ·rw[hc]at z;cases z;exact hb rfl
end
structure Un(fs ex:List Addr)(H H':Hp)(h h':Heap):Prop where
 keep:∀b o,h.get? b=some o→H b=none→b∉fs→b∉ex→h'.get? b=some o
 slot:∀b o,h.get? b=some o→H b=none→b∈fs→b∉ex→∃sl,h'.get? b=some { o with slots:=sl }
 free:∀b o,h.get? b=some o→H b=none→b∉ex→H' b=none
 there:∀b o,h.get? b=some o→b∉ex→∃o',h'.get? b=some o'
 tups:∀b xs,H b=some (.tup xs)→H' b=some (.tup xs)
 frzs:∀b o u,H b=some (.frz o u)→H' b=some (.frz o u)
 tbls:∀b ps,H b=some (.tbl ps)→∃more,H' b=some (.tbl (ps++more))
section
variable{fs fs' ex ex':List Addr}{H H1 H2:Hp}{h h1 h2 h':Heap}{a x e:Addr}{o:HO}
theorem Un.any(u:Un fs ex H H1 h h1){b:Addr}{ob:Obj}(q:h.get? b=some ob)(n:H b=none)(hx:b∉ex):∃sl,h1.get? b=some { ob with slots:=sl }:=by
 by_cases hb:b∈fs
 ·exact u.slot b ob q n hb hx
 ·exact⟨ob.slots,u.keep b ob q n hb hx⟩
theorem Un.kept(k:∀b u,h.get? b=some u→h'.get? b=some u):Un fs ex H H h h':=
 ⟨fun b ob q _ _ _=>k b ob q,fun b ob q _ _ _=>⟨ob.slots,k b ob q⟩,fun _ _ _ n _=>n,fun b ob q _=>⟨ob,k b ob q⟩,fun _ _ q=>q,fun _ _ _ q=>q,fun _ ps q=>⟨#[],by rw[q];simp⟩⟩
theorem Un.refl:Un fs ex H H h h:=Un.kept fun _ _ q=>q
theorem Un.laid(k:∀b u,h.get? b=some u→h'.get? b=some u)(hp:h.objs.size≤a)(hn:H a=none):Un fs ex H (upd H a o) h h' where
 keep:=fun b u q _ _ _=>k b u q
 slot:=fun b u q _ _ _=>⟨u.slots,k b u q⟩
 free:=fun b u q n _=>by rw[CJ (Nat.ne_of_lt (Nat.lt_of_lt_of_le (Heap.lt_size q) hp))];exact n
 there:=fun b u q _=>⟨u,k b u q⟩
 tups:=fun b xs q=>by rw[CJ (DR q hn)];exact q
 frzs:=fun b u xs q=>by rw[CJ (DR q hn)];exact q
 tbls:=fun b ps q=>⟨#[],by rw[CJ (DR q hn),q];simp⟩
theorem Un.write(mu:Mut (H x))(he:e=x∨H e=some (.own x))(k:∀b u,b≠e→h.get? b=some u→h'.get? b=some u)(heo:∃u,h'.get? e=some u):Un fs ex H (upd H x o) h h':=by
 have hx:∀b,H b=none→b≠x:=fun b n z=>by subst z;rw[n]at mu;exact mu
 have hb:∀b,H b=none→b≠e:=fun b n z=>by
  subst z
  rcases he with r | r
  ·exact hx b n r
  ·rw[n]at r;cases r
 have hm:∀b u,H b=some u→¬Mut (some u)→b≠x:=fun b u q nm z=>by subst z;rw[q]at mu;exact nm mu
 refine⟨fun b u q n _ _=>k b u (hb b n) q,fun b u q n _ _=>⟨u.slots,k b u (hb b n) q⟩,fun b u q n _=>by rw[CJ (hx b n)];exact n,fun b u q _=>?_,
  fun b xs q=>by rw[CJ (hm b _ q fun z=>z)];exact q,fun b u xs q=>by rw[CJ (hm b _ q fun z=>z)];exact q,fun b ps q=>⟨#[],by rw[CJ (hm b _ q fun z=>z),q];simp⟩⟩
 by_cases hbe:b=e
 ·subst hbe;exact heo
 ·exact⟨u,k b u hbe q⟩
end
noncomputable def trk(h:Heap)(H:Hp):List Addr:=(List.range h.objs.size).filter fun a=>(H a).isSome
noncomputable def hidT(h:Heap)(H:Hp):Heap:=PySem.W.hideAll h (trk h H)
theorem gB(h:Heap)(H:Hp):(hidT h H).objs.size=h.objs.size:=PySem.W.hideAll_size _ _
theorem lC{h:Heap}{H:Hp}{b:Addr}{o:Obj}(e:h.get? b=some o)(n:H b=none):(hidT h H).get? b=some o:=
 PySem.W.hideAll_get _ e fun hm=>by
  have q:(H b).isSome=true:=(List.mem_filter.mp hm).2
  rw[n]at q;simp at q
theorem qW{h:Heap}{H:Hp}{b:Addr}{o:Obj}(e:(hidT h H).get? b=some o):h.get? b=some o∧H b=none:=by
 have e':h.get? b=some o:=PySem.W.of_hideAll (trk h H) e
 refine⟨e',?_⟩
 cases q:H b with
 | none=>rfl
 | some x=>
  have hm:b∈trk h H:=List.mem_filter.mpr ⟨List.mem_range.mpr (Heap.lt_size e'),by simp[q]⟩
  have z:(hidT h H).get? b=none:=PySem.W.hideAll_none (trk h H) hm
  rw[z]at e;cases e
noncomputable def allNews(g h:Heap)(L:Addr):List (Addr×Obj):=(List.range h.objs.size).filterMap fun a=>if a=L∨(g.get? a).isSome=true then none else (h.get? a).map fun o=>(a,o)
theorem K7{g h:Heap}{L a:Addr}{o:Obj}(h1:a≠L)(h2:g.get? a=none)(h3:h.get? a=some o):(a,o)∈allNews g h L:=
 List.mem_filterMap.mpr ⟨a,List.mem_range.mpr (Heap.lt_size h3),by simp[h1,h2,h3]⟩
theorem R4{g h:Heap}{L:Addr}{p:Addr×Obj}(hp:p∈allNews g h L):p.1≠L∧g.get? p.1=none∧h.get? p.1=some p.2:=by
 obtain⟨b,_,e⟩:=List.mem_filterMap.mp hp
 split at e
 ·cases e
 ·rename_i hn
  cases q:h.get? b with
  | none=>rw[q]at e;simp at e
  | some u=>
   rw[q]at e
   simp only[Option.map_some,Option.some.injEq]at e
   subst e
   refine⟨fun z=>hn (.inl z),?_,q⟩
   show g.get? b=none
   cases r:g.get? b with
   | none=>rfl
   | some v=>exact(hn (.inr (by simp[r]))).elim
noncomputable def rest(g h:Heap)(L d:Addr):List (Addr×Obj):=(allNews g h L).filter fun p=>decide (p.1≠d)
theorem YC{g h:Heap}{L:Addr}:News g L h (allNews g h L):=fun p hp=>let ⟨a,b,c⟩:=R4 hp;⟨c,a,b⟩
end L2
namespace L2
open PySem PySem.Spec PyProof.Rows
structure Mod(K:PySem.W.Frag)(mg:Str→Option Value)(base:Heap):Prop where
 kin:K.In base
 glob:base.Ns mainGlobals mg
 blt:∃mb,base.Ns builtinsNs mb∧∀x:Str,x≠"__name__"→mb x=bootBuiltins x
 nolimit:base.NoLimit
structure Cx where
 prog:Program
 w:World
 K:PySem.W.Frag
 mg:Str→Option Value
 base:Heap
 A:Around
 N:List Str
 s₀:Shared
 H₀:Hp
 env:Env
 outer:List Env
 stack:List Env
 ex:List Addr
 fn:Str→Bool
 calm:Bool
 pn:List (Addr×Obj)
 xe:Value→Shared→Prop
noncomputable def frs(l:List Env):List Addr:=l.filterMap (·.frame)
noncomputable abbrev Cx.fs (X:Cx):List Addr:=frs X.outer
def Vis(sc:Scope)(x:Str):Prop:=sc.names.lookup x=some .local∨sc.names.lookup x=some .cell∨sc.names.lookup x=some .free
def Loc(sc:Scope)(x:Str):Prop:=sc.names.lookup x=some .local∨sc.names.lookup x=some .cell
def Look(env:Env)(h:Heap)(m:Str→Option Value)(x:Str)(u:Value):Prop:=
 (env.kindOf x=some .local∧m x=some u)∨((env.kindOf x=some .cell∨env.kindOf x=some .free)∧∃c,env.cells.lookup x=some c∧h.IsCell c (some u))
structure Cx.Ok(X:Cx):Prop where
 mod:Mod X.K X.mg X.base
 kind:X.env.scope.kind=.function
 glob:X.env.globals=mainGlobals
 blt:X.env.builtins=builtinsNs
 above:X.s₀.heap.objs.size≤X.env.locals
 inj:∀x y c,X.env.cells.lookup x=some c→X.env.cells.lookup y=some c→x=y
 has:∀x,(X.env.kindOf x=some .cell∨X.env.kindOf x=some .free)→∃c,X.env.cells.lookup x=some c
 cab:∀x c,X.fn x=true→X.env.cells.lookup x=some c→X.s₀.heap.objs.size≤c
 hd:X.calm=true→X.A.handled=none
 frames:X.A.frames=some X.stack
 stk:X.stack=X.outer∨(X.stack=X.env::X.outer∧X.env.frame=some X.env.locals)
 exf:∀b∈X.ex,b≠X.env.locals∧∀x c,X.env.cells.lookup x=some c→c≠b
 bs:∀b o,X.base.get? b=some o→X.s₀.heap.get? b=some o∧X.H₀ b=none
 bsz:X.base.objs.size≤X.s₀.heap.objs.size
 noex:∀b o,X.base.get? b=some o→b∉X.ex
 exfs:∀b∈X.ex,b∉X.fs
 funs:X.s₀.heap.FunFrames X.base X.outer
 frf:∀b∈X.fs,X.H₀ b=none
structure Inv(X:Cx)(pins:List (Addr×Obj))(σ:List (Option V))(H:Hp)(s:Shared):Prop where
 ok:X.Ok
 os:s.os=X.s₀.os
 bare:AllBare s.gens
 base:Un X.fs X.ex X.H₀ H X.s₀.heap s.heap
 loc:∃m,s.heap.Ns X.env.locals m∧∀(i:Nat) (x:Str) (v:V),X.N[i]?=some x→σ[i]?=some (some v)→Vis X.env.scope x→∃u,RelV v u∧Look X.env s.heap m x u
 cell:∀x c,X.env.cells.lookup x=some c→∃v,s.heap.IsCell c v
 free:H X.env.locals=none
 freeC:∀x c,X.env.cells.lookup x=some c→H c=none
 pin:∀p∈X.pn++pins,s.heap.get? p.1=some p.2∧H p.1=none∧p.1≠X.env.locals∧p.1∉X.fs∧∀v,p.2.data≠.cell v
 hok:HOk X.prog X.w H s.heap
 len:σ.length=X.N.length
section
variable{X:Cx}{pins:List (Addr×Obj)}{σ:List (Option V)}{H H':Hp}{s:Shared}{h':Heap}
theorem Cx.Ok.nofr(ok:X.Ok){b:Addr}{o:Obj}(e:X.base.get? b=some o):b∉X.fs:=fun hb=>by
 have:=(ok.funs.mem hb).1
 rw[e]at this;cases this
theorem Inv.bs(I:Inv X pins σ H s):∀b o,X.base.get? b=some o→s.heap.get? b=some o∧H b=none:=fun b o e=>
 ⟨I.base.keep b o (I.ok.bs b o e).1 (I.ok.bs b o e).2 (I.ok.nofr e) (I.ok.noex b o e),I.base.free b o (I.ok.bs b o e).1 (I.ok.bs b o e).2 (I.ok.noex b o e)⟩
theorem Inv.bk(I:Inv X pins σ H s):∀b o,X.base.get? b=some o→s.heap.get? b=some o:=fun b o e=>(I.bs b o e).1
theorem Inv.mod(I:Inv X pins σ H s):Mod X.K X.mg X.base:=I.ok.mod
theorem Inv.kIn(I:Inv X pins σ H s):X.K.In s.heap:=I.ok.mod.kin.keeps I.bk
theorem Inv.lt(I:Inv X pins σ H s):X.env.locals<s.heap.objs.size:=by
 obtain⟨_,hn,_⟩:=I.loc
 exact hn.lt
theorem Inv.sz(I:Inv X pins σ H s):X.s₀.heap.objs.size≤s.heap.objs.size:=Nat.le_trans I.ok.above (Nat.le_of_lt I.lt)
theorem Inv.nofs(I:Inv X pins σ H s){a:Addr}(h:s.heap.objs.size≤a):a∉X.fs:=fun hb=>by
 obtain⟨_,o,ho,_⟩:=I.ok.funs.mem hb
 exact absurd (Nat.lt_of_lt_of_le (Heap.lt_size ho) (Nat.le_trans I.sz h)) (Nat.lt_irrefl _)
theorem Inv.cne(I:Inv X pins σ H s):∀x c,X.env.cells.lookup x=some c→c≠X.env.locals:=fun x c e z=>by
 obtain⟨v,o,ho,hd⟩:=I.cell x c e
 obtain⟨m,⟨o',es,ep,ho',hd',_⟩,_⟩:=I.loc
 rw[z,ho']at ho;cases ho;rw[hd']at hd;cases hd
theorem Inv.funs(I:Inv X pins σ H s):s.heap.FunFrames X.base X.outer:=by
 have all:∀(l:List Env),(∀b∈frs l,b∈X.fs)→X.s₀.heap.FunFrames X.base l→s.heap.FunFrames X.base l:=by
  intro l
  induction l with
  | nil=>intro _ _;trivial
  | cons env r ih=>
   intro hs hl
   obtain⟨hk,⟨L,o,hf,hn,ho,hd⟩,hr⟩:=hl
   have hL:L∈X.fs:=hs L (by unfold frs;rw[List.filterMap_cons,hf];exact List.mem_cons_self)
   obtain⟨sl,e⟩:=I.base.slot L o ho (I.ok.frf L hL) hL fun z=>I.ok.exfs L z hL
   exact⟨hk,⟨L,_,hf,hn,e,hd⟩,ih (fun b hb=>hs b (by unfold frs;rw[List.filterMap_cons,hf];exact List.mem_cons_of_mem _ hb)) hr⟩
 exact all X.outer (fun _ hb=>hb) I.ok.funs
theorem Inv.stack(I:Inv X pins σ H s):s.heap.FunFrames X.base X.stack:=by
 rcases I.ok.stk with e | ⟨e,hf⟩
 ·rw[e];exact I.funs
 ·rw[e]
  obtain⟨m,hn,_⟩:=I.loc
  refine .cons (by rw[I.ok.kind];decide) hf hn ?_ I.funs
  exact Heap.get?_none_of_le (Nat.le_trans I.ok.bsz I.ok.above)
theorem Inv.stkSub(I:Inv X pins σ H s):∀b∈frs X.stack,b∈X.env.locals::X.fs:=fun b hb=>by
 rcases I.ok.stk with e | ⟨e,hf⟩
 ·rw[e]at hb;exact List.mem_cons_of_mem _ hb
 ·rw[e]at hb
  unfold frs at hb
  rw[List.filterMap_cons,hf]at hb
  exact hb
theorem Inv.stkFree(I:Inv X pins σ H s):∀b∈frs X.stack,H b=none:=fun b hb=>by
 rcases List.mem_cons.mp (I.stkSub b hb) with e | hb
 ·rw[e];exact I.free
 ·obtain⟨_,o,ho,_⟩:=I.ok.funs.mem hb
  exact I.base.free b o ho (I.ok.frf b hb) fun z=>I.ok.exfs b z hb
theorem Inv.step{g':Array GenState}{t':Nat}{d':Drawn}{ch:List Addr}(I:Inv X pins σ H s)
  (hch:∀b∈ch,(b∈X.ex∨X.s₀.heap.objs.size≤b)∧b≠X.env.locals∧(∀x c,X.env.cells.lookup x=some c→c≠b)∧∀p∈X.pn++pins,p.1≠b)
  (keep:∀b o,b≠X.env.locals→b∉X.fs→b∉ch→s.heap.get? b=some o→H b=none→h'.get? b=some o)
  (slot:∀b o,b≠X.env.locals→b∈X.fs→b∉ch→s.heap.get? b=some o→H b=none→∃sl,h'.get? b=some { o with slots:=sl }) (free:∀b o,b∉ch→s.heap.get? b=some o→H b=none→H' b=none)
  (there:∀b o,b∉ch→s.heap.get? b=some o→∃o',h'.get? b=some o')
  (tups:∀b xs,H b=some (.tup xs)→H' b=some (.tup xs)) (frzs:∀b o u,H b=some (.frz o u)→H' b=some (.frz o u)) (tbls:∀b ps,H b=some (.tbl ps)→∃more,H' b=some (.tbl (ps++more)))
  (ns:∀m,s.heap.Ns X.env.locals m→h'.Ns X.env.locals m) (hok:HOk X.prog X.w H' h') (hg:AllBare g') :
  Inv X pins σ H' { s with heap:=h',gens:=g',drawn:=d',toks:=t' }:=by
 have neL:∀b o,X.s₀.heap.get? b=some o→b≠X.env.locals:=fun b o e=>Nat.ne_of_lt (Nat.lt_of_lt_of_le (Heap.lt_size e) I.ok.above)
 have neC:∀b o,X.s₀.heap.get? b=some o→b∉X.ex→b∉ch:=fun b o e hx hb=>by
  rcases(hch b hb).1 with z | z
  ·exact hx z
  ·exact absurd (Nat.lt_of_lt_of_le (Heap.lt_size e) z) (Nat.lt_irrefl _)
 have cellK:∀x c,X.env.cells.lookup x=some c→∀v,s.heap.IsCell c v→h'.IsCell c v:=fun x c e v hq0=>by
  obtain⟨o,ho,hd⟩:=hq0
  have nch:c∉ch:=fun z=>(hch c z).2.2.1 x c e rfl
  by_cases hc:c∈X.fs
  ·obtain⟨sl,q⟩:=slot c o (I.cne x c e) hc nch ho (I.freeC x c e)
   exact⟨_,q,hd⟩
  ·exact⟨o,keep c o (I.cne x c e) hc nch ho (I.freeC x c e),hd⟩
 refine⟨I.ok,I.os,hg,⟨fun b o e n hb hx=>?_,fun b o e n hb hx=>?_,fun b o e n hx=>?_,fun b o e hx=>?_,fun b xs e=>tups b xs (I.base.tups b xs e),fun b o xs e=>frzs b o xs (I.base.frzs b o xs e),fun b ps e=>?_⟩,?_,fun x c e=>?_,?_,fun x c e=>?_,fun p hp=>?_,hok,I.len⟩
 ·exact keep b o (neL b o e) hb (neC b o e hx) (I.base.keep b o e n hb hx) (I.base.free b o e n hx)
 ·obtain⟨sl,e1⟩:=I.base.slot b o e n hb hx
  obtain⟨sl',e2⟩:=slot b _ (neL b o e) hb (neC b o e hx) e1 (I.base.free b o e n hx)
  exact⟨sl',e2⟩
 ·obtain⟨o',e1⟩:=I.base.there b o e hx
  exact free b o' (neC b o e hx) e1 (I.base.free b o e n hx)
 ·obtain⟨o',e1⟩:=I.base.there b o e hx
  exact there b o' (neC b o e hx) e1
 ·obtain⟨m1,e1⟩:=I.base.tbls b ps e
  obtain⟨m2,e2⟩:=tbls b _ e1
  exact⟨m1++m2,by rw[e2,Array.append_assoc]⟩
 ·obtain⟨m,hn,hl⟩:=I.loc
  refine⟨m,ns m hn,fun i x v e1 e2 e3=>?_⟩
  obtain⟨u,r,l⟩:=hl i x v e1 e2 e3
  refine⟨u,r,?_⟩
  rcases l with l | ⟨k,c,e,z⟩
  ·exact .inl l
  ·exact .inr ⟨k,c,e,cellK x c e _ z⟩
 ·obtain⟨v,z⟩:=I.cell x c e
  exact⟨v,cellK x c e v z⟩
 ·obtain⟨m,⟨o,_,_,ho,_⟩,_⟩:=I.loc
  exact free _ o (fun z=>(hch _ z).2.1 rfl) ho I.free
 ·obtain⟨v,o,ho,hd⟩:=I.cell x c e
  exact free c o (fun z=>(hch c z).2.2.1 x c e rfl) ho (I.freeC x c e)
 ·obtain⟨e,n,ne,nf,d⟩:=I.pin p hp
  have nch:p.1∉ch:=fun z=>(hch p.1 z).2.2.2 p hp rfl
  exact⟨keep p.1 p.2 ne nf nch e n,free p.1 p.2 nch e n,ne,nf,d⟩
theorem Inv.un{t':Nat}(I:Inv X pins σ H s)(u:Un X.fs [] H H' s.heap h')(hok:HOk X.prog X.w H' h'):Inv X pins σ H' { s with heap:=h',toks:=t' }:=by
 obtain⟨m,⟨o,es,ep,ho,r⟩,_⟩:=id I.loc
 obtain⟨sl,hL⟩:=u.any ho I.free (by simp)
 exact I.step (g':=s.gens) (d':=s.drawn) (ch:=[]) (fun _ z=>nomatch z) (fun b o _ hb _ e n=>u.keep b o e n hb (by simp)) (fun b o _ hb _ e n=>u.slot b o e n hb (by simp)) (fun b o _ e n=>u.free b o e n (by simp)) (fun b o _ e=>u.there b o e (by simp)) u.tups u.frzs u.tbls (fun m' hm=>by
  obtain⟨o',es',ep',ho',r'⟩:=hm
  rw[ho]at ho';cases ho'
  exact⟨_,es',ep',hL,r'⟩) hok I.bare
theorem Inv.call{g':Array GenState}{t':Nat}{d':Drawn}{ch:List Addr}(I:Inv X pins σ H s)(u:Un (frs X.stack) ch H H' s.heap h')(hok:HOk X.prog X.w H' h')(hg:AllBare g')
  (hch:∀b∈ch,(b∈X.ex∨X.s₀.heap.objs.size≤b)∧b≠X.env.locals∧(∀x c,X.env.cells.lookup x=some c→c≠b)∧∀p∈X.pn++pins,p.1≠b) :
  Inv X pins σ H' { s with heap:=h',gens:=g',drawn:=d',toks:=t' }:=by
 obtain⟨m,⟨o,es,ep,ho,r⟩,_⟩:=id I.loc
 obtain⟨sl,hL⟩:=u.any ho I.free fun z=>(hch _ z).2.1 rfl
 exact I.step (ch:=ch) hch (fun b o hL hb hc e n=>u.keep b o e n (fun z=>(List.mem_cons.mp (I.stkSub b z)).elim hL hb) hc) (fun b o _ _ hc e n=>u.any e n hc) (fun b o hc e n=>u.free b o e n hc) (fun b o hc e=>u.there b o e hc) u.tups u.frzs u.tbls (fun m' hm=>by
  obtain⟨o',es',ep',ho',r'⟩:=hm
  rw[ho]at ho';cases ho'
  exact⟨_,es',ep',hL,r'⟩) hok hg
theorem Inv.turned{t':Nat}{it:Addr}(I:Inv X pins σ H s)(k:∀b o,b≠it→s.heap.get? b=some o→h'.get? b=some o)(hn:H it=none)(hL:it≠X.env.locals)
  (h1:it∈X.ex∨X.s₀.heap.objs.size≤it) (h2:∀x c,X.env.cells.lookup x=some c→c≠it) (h3:∀p∈X.pn++pins,p.1≠it):Inv X pins σ H { s with heap:=h',toks:=t' }:=by
 have nit:∀b u,H b=some u→b≠it:=fun b u e z=>by rw[z,hn]at e;cases e
 refine I.step (g':=s.gens) (d':=s.drawn) (ch:=[it]) (fun b hb=>?_) (fun b o _ _ hc e _=>k b o (fun z=>hc (by simp[z])) e) (fun b o _ _ hc e _=>⟨o.slots,k b o (fun z=>hc (by simp[z])) e⟩) (fun _ _ _ _ n=>n)
  (fun b o hc e=>⟨o,k b o (fun z=>hc (by simp[z])) e⟩) (fun _ _ e=>e) (fun _ _ _ e=>e) (fun b ps e=>⟨#[],by rw[e];simp⟩) (fun m hm=>?_) (fun b u e=>?_) I.bare
 ·have e:b=it:=by simpa using hb
  subst e
  exact⟨h1,hL,h2,h3⟩
 ·obtain⟨o,es,ep,ho,r⟩:=hm
  exact⟨o,es,ep,k _ o (Ne.symm hL) ho,r⟩
 ·refine(I.hok b u e).stay (fun c v hc q=>k c v ?_ q) (fun _ q=>q) fun _ _ q=>q
  rcases hc with z | z
  ·rw[z];exact nit b u e
  ·exact nit c _ z
theorem Inv.tok(I:Inv X pins σ H s)(t:Nat):Inv X pins σ H { s with toks:=t }:=I.un (h':=s.heap) (t':=t) Un.refl I.hok
theorem Inv.kept{t':Nat}(I:Inv X pins σ H s)(k:∀b u,s.heap.get? b=some u→h'.get? b=some u):Inv X pins σ H { s with heap:=h',toks:=t' }:=I.un (Un.kept k) (I.hok.kept k)
theorem Inv.laid{a:Addr}{o:HO}{t':Nat}(I:Inv X pins σ H s)(k:∀b u,s.heap.get? b=some u→h'.get? b=some u)(hp:s.heap.objs.size≤a)(new:ObjOk X.prog X.w (upd H a o) h' a o):
  Inv X pins σ (upd H a o) { s with heap:=h',toks:=t' }:=I.un (Un.laid k hp (I.hok.fresh hp)) (I.hok.laid k hp new)
theorem Inv.write{x e:Addr}{o:HO}{t':Nat}(I:Inv X pins σ H s)(mu:Mut (H x))(he:e=x∨H e=some (.own x))(k:∀b u,b≠e→s.heap.get? b=some u→h'.get? b=some u)(heo:∃u,h'.get? e=some u)
  (new:ObjOk X.prog X.w (upd H x o) h' x o):Inv X pins σ (upd H x o) { s with heap:=h',toks:=t' }:=I.un (Un.write mu he k heo) (I.hok.write mu he k heo new)
theorem Inv.pins_of{pins':List (Addr×Obj)}(I:Inv X pins σ H s)(h:∀p∈pins',s.heap.get? p.1=some p.2∧H p.1=none∧p.1≠X.env.locals∧p.1∉X.fs∧∀v,p.2.data≠.cell v):Inv X pins' σ H s:=
 ⟨I.ok,I.os,I.bare,I.base,I.loc,I.cell,I.free,I.freeC,fun p hp=>(List.mem_append.mp hp).elim (fun z=>I.pin p (List.mem_append_left _ z)) (h p),I.hok,I.len⟩
theorem YB{N:List Str}(hN:N.Nodup){i j:Nat}{x:Str}(a:N[i]?=some x)(b:N[j]?=some x):i=j:=by
 obtain⟨h1,e1⟩:=List.getElem?_eq_some_iff.mp a
 obtain⟨h2,e2⟩:=List.getElem?_eq_some_iff.mp b
 exact(List.getElem_inj hN).mp (e1.trans e2.symm)
theorem S5{M:Model}{A:Around}{E:Value→Shared→Prop}{i:Nat}{x:Str}{v:V}{u:Value}{Q:Unit→Shared→Prop}(I:Inv X pins σ H s)(hN:X.N.Nodup)(hi:X.N[i]?=some x)(hx:Loc X.env.scope x)(r:RelV v u)
  (h:∀s',Inv X pins (σ.set i (some v)) H s'→(∃a,Heap.SameBut a s.heap s'.heap∧(a=X.env.locals∨X.env.cells.lookup x=some a))→Q () s') (hf:X.fn x=true∨X.env.scope.names.lookup x=some .local:=by first | exact .inl rfl | exact .inr rfl | assumption):wpAny M A (storeName X.env x u) Q E s:=by
 obtain⟨m,hn,hl⟩:=id I.loc
 have hcls:(X.env.scope.kind==.class||(X.env.scope.kind==.module&&X.env.locals != X.env.globals))=false:=by rw[I.ok.kind];rfl
 have hiσ:i<σ.length:=by rw[I.len];exact(List.getElem?_eq_some_iff.mp hi).1
 have cne:=I.cne
 have tracked:∀{a:Addr} {h':Heap},(∃o,s.heap.get? a=some o∧H a=none)→Heap.SameBut a s.heap h'→HOk X.prog X.w H h':=fun {a h'} ha hs b ob e=>by
  obtain⟨_,_,hfree⟩:=ha
  refine(I.hok b ob e).stay (fun c w' hc q=>(hs.2 c ?_).trans q) (fun _ q=>q) fun _ _ q=>q
  rintro rfl
  rcases hc with rfl | hc
  ·rw[hfree]at e;cases e
  ·rw[hfree]at hc;cases hc
 rcases hx with hk | hk
 ·refine wpAny_storeName_local hk hn (fun h' hn' hs=>?_) hcls
  obtain⟨oL,_,_,hoL,_⟩:=id hn
  refine h _ ⟨I.ok,I.os,I.bare,⟨fun b o e n hb hx=>?_,fun b o e n hb hx=>?_,I.base.free,fun b o e hx=>?_,I.base.tups,I.base.frzs,I.base.tbls⟩,⟨_,hn',fun j y v' e1 e2 e3=>?_⟩,fun y c e=>?_,I.free,I.freeC,fun p hp=>?_,tracked ⟨oL,hoL,I.free⟩ hs,by simpa using I.len⟩ ⟨_,hs,.inl rfl⟩
  ·exact(hs.2 b (Nat.ne_of_lt (Nat.lt_of_lt_of_le (Heap.lt_size e) I.ok.above))).trans (I.base.keep b o e n hb hx)
  ·obtain⟨sl,e1⟩:=I.base.slot b o e n hb hx
   exact⟨sl,(hs.2 b (Nat.ne_of_lt (Nat.lt_of_lt_of_le (Heap.lt_size e) I.ok.above))).trans e1⟩
  ·obtain⟨o',e1⟩:=I.base.there b o e hx
   exact⟨o',(hs.2 b (Nat.ne_of_lt (Nat.lt_of_lt_of_le (Heap.lt_size e) I.ok.above))).trans e1⟩
  ·by_cases hj:j=i
   ·subst hj
    rw[hi]at e1;cases e1
    rw[List.getElem?_set_self hiσ]at e2
    cases e2
    exact⟨u,r,.inl ⟨hk,by simp⟩⟩
   ·rw[List.getElem?_set_ne (Ne.symm hj)]at e2
    obtain⟨u',r',q⟩:=hl j y v' e1 e2 e3
    refine⟨u',r',?_⟩
    rcases q with ⟨k,e⟩ | ⟨k,c,e,z⟩
    ·refine .inl ⟨k,?_⟩
     have:y≠x:=fun e=>hj (YB hN e1 (e▸hi))
     simp[this,e]
    ·exact .inr ⟨k,c,e,z.sameBut hs (cne y c e)⟩
  ·obtain⟨w',z⟩:=I.cell y c e
   exact⟨w',z.sameBut hs (cne y c e)⟩
  ·obtain⟨e,n,ne,nf,d⟩:=I.pin p hp
   exact⟨(hs.2 p.1 ne).trans e,n,ne,nf,d⟩
 ·have hfn:X.fn x=true:=by
   rcases hf with z | z
   ·exact z
   ·rw[z]at hk;cases hk
  obtain⟨c,hc⟩:=I.ok.has x (.inl hk)
  obtain⟨w',z⟩:=I.cell x c hc
  refine wpAny_storeName_cell I.ok.kind hk hc z (fun h' hc' hs=>?_)
  obtain⟨oc,hoc,hocd⟩:=id z
  refine h { s with heap:=h' } ⟨I.ok,I.os,I.bare,⟨fun b o e n hb hx=>?_,fun b o e n hb hx=>?_,I.base.free,fun b o e hx=>?_,I.base.tups,I.base.frzs,I.base.tbls⟩,⟨m,hn.sameBut hs (Ne.symm (cne x c hc)),fun j y v' e1 e2 e3=>?_⟩,fun y c' e=>?_,I.free,I.freeC,fun p hp=>?_,tracked ⟨oc,hoc,I.freeC x c hc⟩ hs,by simpa using I.len⟩ ⟨c,hs,.inr hc⟩
  ·exact(hs.2 b (Nat.ne_of_lt (Nat.lt_of_lt_of_le (Heap.lt_size e) (I.ok.cab x c hfn hc)))).trans (I.base.keep b o e n hb hx)
  ·obtain⟨sl,e1⟩:=I.base.slot b o e n hb hx
   exact⟨sl,(hs.2 b (Nat.ne_of_lt (Nat.lt_of_lt_of_le (Heap.lt_size e) (I.ok.cab x c hfn hc)))).trans e1⟩
  ·obtain⟨o',e1⟩:=I.base.there b o e hx
   exact⟨o',(hs.2 b (Nat.ne_of_lt (Nat.lt_of_lt_of_le (Heap.lt_size e) (I.ok.cab x c hfn hc)))).trans e1⟩
  ·by_cases hj:j=i
   ·subst hj
    rw[hi]at e1;cases e1
    rw[List.getElem?_set_self hiσ]at e2
    cases e2
    exact⟨u,r,.inr ⟨.inl hk,c,hc,hc'⟩⟩
   ·rw[List.getElem?_set_ne (Ne.symm hj)]at e2
    obtain⟨u',r',q⟩:=hl j y v' e1 e2 e3
    refine⟨u',r',?_⟩
    rcases q with q | ⟨k,c',e,z'⟩
    ·exact .inl q
    ·refine .inr ⟨k,c',e,z'.sameBut hs ?_⟩
     rintro rfl
     exact hj (YB hN e1 (I.ok.inj _ _ _ e hc▸hi))
  ·by_cases hcc:c'=c
   ·subst hcc;exact⟨_,hc'⟩
   ·obtain⟨w2,z2⟩:=I.cell y c' e
    exact⟨w2,z2.sameBut hs hcc⟩
  ·obtain⟨e,n,ne,nf,d⟩:=I.pin p hp
   refine⟨(hs.2 p.1 ?_).trans e,n,ne,nf,d⟩
   intro q
   rw[q,hoc]at e
   have q':oc=p.2:=Option.some.inj e
   exact d w' (by rw[←q'];exact hocd)
theorem X4{M:Model}{A:Around}{E:Value→Shared→Prop}{i:Nat}{x:Str}{v:V}{u:Value}{Q:Unit→Shared→Prop}(I:Inv X pins σ H s)(hN:X.N.Nodup)(hi:X.N[i]?=some x)(hx:Loc X.env.scope x)(r:RelV v u)
  (h:∀s',Inv X pins (σ.set i (some v)) H s'→Q () s') (hf:X.fn x=true∨X.env.scope.names.lookup x=some .local:=by first | exact .inl rfl | exact .inr rfl | assumption):wpAny M A (storeName X.env x u) Q E s:=
 S5 I hN hi hx r (fun s' I' _=>h s' I') hf
theorem Inv.call'{s':Shared}{ch:List Addr}(I:Inv X pins σ H s)(ho:s'.os=s.os)(u:Un (frs X.stack) ch H H' s.heap s'.heap)(hok:HOk X.prog X.w H' s'.heap)(hg:AllBare s'.gens)
  (hch:∀b∈ch,(b∈X.ex∨X.s₀.heap.objs.size≤b)∧b≠X.env.locals∧(∀x c,X.env.cells.lookup x=some c→c≠b)∧∀p∈X.pn++pins,p.1≠b):Inv X pins σ H' s':=by
 obtain⟨h',g',d',t',o'⟩:=s'
 have e:o'=s.os:=ho
 subst e
 exact I.call (g':=g') (t':=t') (d':=d') u hok hg hch
end
noncomputable abbrev XK:=Value→Option Addr→Hp→Prop
noncomputable abbrev St:=List (Option V)
noncomputable abbrev VK:=V→Hp→Prop
noncomputable abbrev TE:=St→Hp→VK→Prop
noncomputable abbrev TT:=St→Hp→(Bool→Hp→Prop)→Prop
noncomputable abbrev TA:=St→Hp→(List V→Hp→Prop)→Prop
structure Ends where
 nx:St→Hp→Prop
 rt:VK
 bk:St→Hp→Prop:=fun _ _=>False
 ct:St→Hp→Prop:=fun _ _=>False
noncomputable abbrev TS:=Ends→St→Hp→Prop
def EP(X:Cx)(pins:List (Addr×Obj))(σ:St)(Q:VK)(u:Value)(s':Shared):Prop:=∃v H',Inv X pins σ H' s'∧RelV v u∧Q v H'
def TP(X:Cx)(pins:List (Addr×Obj))(σ:St)(Q:Bool→Hp→Prop)(b:Bool)(s':Shared):Prop:=∃H',Inv X pins σ H' s'∧Q b H'
def AP(X:Cx)(pins:List (Addr×Obj))(σ:St)(Q:List V→Hp→Prop)(us:List Value)(s':Shared):Prop:=∃vs H',Inv X pins σ H' s'∧Vals vs us∧Q vs H'
def SP(X:Cx)(pins:List (Addr×Obj))(D:Ends)(f:Flow)(s':Shared):Prop:=
 match f with
 | .next=>∃σ' H',Inv X pins σ' H' s'∧D.nx σ' H'
 | .brk=>∃σ' H',Inv X pins σ' H' s'∧D.bk σ' H'
 | .cont=>∃σ' H',Inv X pins σ' H' s'∧D.ct σ' H'
 | .ret u=>∃v σ' H',Inv X pins σ' H' s'∧RelV v u∧D.rt v H'
def PE(X:Cx)(e:Expr)(t:TE):Prop:=
 ∀(pins:List (Addr×Obj)) (s:Shared) (σ:St) (H:Hp) (Q:VK),Inv X pins σ H s→t σ H Q→wpAny (model X.prog X.w) X.A (eval e X.env) (EP X pins σ Q) X.xe s
def PT(X:Cx)(e:Expr)(t:TT):Prop:=
 ∀(pins:List (Addr×Obj)) (s:Shared) (σ:St) (H:Hp) (Q:Bool→Hp→Prop),Inv X pins σ H s→t σ H Q→wpAny (model X.prog X.w) X.A (isTrue e X.env (eval e X.env)) (TP X pins σ Q) X.xe s
def PW(X:Cx)(e:Expr)(t:TT):Prop:=
 ∀(whole:Sem Value) (pins:List (Addr×Obj)) (s:Shared) (σ:St) (H:Hp) (Q:Bool→Hp→Prop),Inv X pins σ H s→t σ H Q→wpAny (model X.prog X.w) X.A (isTrue e X.env whole) (TP X pins σ Q) X.xe s
theorem PW.pt{X:Cx}{e:Expr}{t:TT}(h:PW X e t):PT X e t:=h _
def PA(X:Cx)(es:List Expr)(t:TA):Prop:=
 ∀(pos:Pos) (pins:List (Addr×Obj)) (s:Shared) (σ:St) (H:Hp) (Q:List V→Hp→Prop),Inv X pins σ H s→t σ H Q→wpAny (model X.prog X.w) X.A (spliced (backTo pos (starEach es X.env))) (AP X pins σ Q) X.xe s
def PS(X:Cx)(st:Stmt)(t:TS):Prop:=
 ∀(pins:List (Addr×Obj)) (s:Shared) (σ:St) (H:Hp) (D:Ends),Inv X pins σ H s→t D σ H→wpAny (model X.prog X.w) X.A (exec st X.env) (SP X pins D) X.xe s
def PSs(X:Cx)(st:List Stmt)(t:TS):Prop:=
 ∀(pins:List (Addr×Obj)) (s:Shared) (σ:St) (H:Hp) (D:Ends),Inv X pins σ H s→t D σ H→wpAny (model X.prog X.w) X.A (execs st X.env) (SP X pins D) X.xe s
theorem thn{α:Type}{t:Sem α}{Q Q':α→Shared→Prop}{M:Model}{A:Around}{E:Value→Shared→Prop}{s:Shared}(h:wpAny M A t Q E s)(hQ:∀a s,Q a s→Q' a s):wpAny M A t Q' E s:=wpAny_mono h hQ fun _ _ x=>x
end L2
namespace L2
open PySem PySem.Spec PyProof.Rows
section
variable{X:Cx}
theorem bin{a b:Expr}{ta tb:TE}(ha:PE X a ta)(hb:PE X b tb){pins:List (Addr×Obj)}{s:Shared}{σ:St}{H:Hp}{R:V→V→Hp→Prop}(I:Inv X pins σ H s)(h:ta σ H fun x H1=>tb σ H1 fun y H2=>R x y H2)
  {α:Type} {Q:α→Shared→Prop} {f:Value→Value→Sem α}
  (hf:∀v u s2 x y H2,Inv X pins σ H2 s2→RelV x v→RelV y u→R x y H2→wpAny (model X.prog X.w) X.A (f v u) Q X.xe s2) :
  wpAny (model X.prog X.w) X.A (eval a X.env) (fun v s₁=>wpAny (model X.prog X.w) X.A (eval b X.env) (fun u s₂=>wpAny (model X.prog X.w) X.A (f v u) Q X.xe s₂) X.xe s₁) X.xe s:=by
 refine thn (ha pins s σ H _ I h) fun v s1 hq0=>?_
 obtain⟨x,H1,I1,r1,q1⟩:=hq0
 refine thn (hb pins s1 σ H1 _ I1 q1) fun u s2 hq0=>?_
 obtain⟨y,H2,I2,r2,q2⟩:=hq0
 exact hf v u s2 x y H2 I2 r1 r2 q2
noncomputable def tVar(i:Nat):TE:=fun σ H Q=>∃v,σ[i]?=some (some v)∧Q v H
noncomputable def tC(v:V):TE:=fun _ H Q=>Q v H
theorem jD{i:Nat}{x:Str}{pos:Pos}(hN:X.N[i]?=some x)(hv:Vis X.env.scope x)(hd:(x==("__debug__" : Str))=false:=by decide)(hcd:(x==("__classdict__" : Str))=false:=by decide):PE X (.Name x pos) (tVar i):=by
 intro pins s σ H Q I h
 obtain⟨v,e,h⟩:=h
 obtain⟨m,hn,hl⟩:=I.loc
 obtain⟨u,r,l⟩:=hl i x v hN e hv
 have fin:EP X pins σ Q u s:=⟨v,H,I,r,h⟩
 rcases l with ⟨hk,hm⟩ | ⟨hk,c,hc,hcell⟩
 ·exact wpAny_Name (wpAny_loadName_local I.ok.kind hk hn hm fin) hd
 ·rcases hk with hk | hk
  ·exact wpAny_Name (wpAny_loadName_cell I.ok.kind hk hc hcell fin) hd
  ·exact wpAny_Name (wpAny_loadName_free I.ok.kind hk hc hcell fin hcd) hd
theorem vK{i j pos}:PE X (.Constant (.int i) j pos) (tC (.int i)):=fun _ _ _ H _ I h=>wpAny_Constant_int ⟨.int i,H,I.tok _,⟨_,rfl⟩,h⟩
theorem tR{b j pos}:PE X (.Constant (.bool b) j pos) (tC (.bl b)):=fun _ _ _ H _ I h=>Constant_bool ⟨.bl b,H,I,rfl,h⟩
theorem vH{x j pos}:PE X (.Constant (.str x) j pos) (tC (.str x)):=fun _ _ _ H _ I h=>Calls.Constant_str ⟨.str x,H,I.tok _,⟨_,rfl⟩,h⟩
def Gl(X:Cx)(x:Str):Prop:=X.env.kindOf x=some .globalImplicit
theorem cQ{E:Value→Shared→Prop}{pins:List (Addr×Obj)}{s:Shared}{σ:St}{H:Hp}{x:Str}{u:Value}{pos:Pos}{Q:Value→Shared→Prop}(I:Inv X pins σ H s)(hg:Gl X x)(hm:X.mg x=some u)(h:Q u s)
  (hd:(x==("__debug__" : Str))=false:=by decide):wpAny (model X.prog X.w) X.A (eval (.Name x pos) X.env) Q E s:=
 Calls.Name_function_global I.ok.kind hg (Calls.loadGlobal_global (by rw[I.ok.glob];exact I.mod.glob.keeps I.bk) hm h) hd
theorem JC{E:Value→Shared→Prop}{pins:List (Addr×Obj)}{s:Shared}{σ:St}{H:Hp}{x:Str}{u:Value}{pos:Pos}{Q:Value→Shared→Prop}(I:Inv X pins σ H s)(hg:Gl X x)(hm:X.mg x=none)(hv:bootBuiltins x=some u)(h:Q u s)
  (hn:x≠"__name__":=by decide) (hd:(x==("__debug__" : Str))=false:=by decide):wpAny (model X.prog X.w) X.A (eval (.Name x pos) X.env) Q E s:=by
 obtain⟨mb,h1,h2⟩:=I.mod.blt
 exact Calls.Name_function_global I.ok.kind hg (Calls.loadGlobal_builtin (by rw[I.ok.glob];exact I.mod.glob.keeps I.bk) hm (by rw[I.ok.blt];exact h1.keeps I.bk) ((h2 x hn).trans hv) h) hd
theorem qD{x:Str}{v:V}{u:Value}{pos:Pos}(hg:Gl X x)(hm:X.mg x=some u)(r:RelV v u)(hd:(x==("__debug__" : Str))=false:=by decide):PE X (.Name x pos) (tC v):=
 fun _ _ _ H _ I h=>cQ I hg hm ⟨v,H,I,r,h⟩ hd
theorem qI{x:Str}{v:V}{u:Value}{pos:Pos}(hg:Gl X x)(hm:X.mg x=none)(hv:bootBuiltins x=some u)(r:RelV v u)(hn:x≠"__name__":=by decide)(hd:(x==("__debug__" : Str))=false:=by decide):PE X (.Name x pos) (tC v):=
 fun _ _ _ H _ I h=>JC I hg hm hv ⟨v,H,I,r,h⟩ hn hd
variable{a b:Expr}{ta tb:TE}{pos:Pos}
variable{tA tB':TT}{rest:List Expr}
noncomputable def tAnd(t u:TT):TT:=fun σ H Q=>t σ H fun c H1=>if c=true then u σ H1 Q else Q false H1
noncomputable def tOr(t u:TT):TT:=fun σ H Q=>t σ H fun c H1=>if c=true then Q true H1 else u σ H1 Q
noncomputable def tNot(t:TT):TT:=fun σ H Q=>t σ H fun c H1=>Q (!c) H1
theorem pG(ha:PT X a tA):PW X (.BoolOp .And [a] pos) tA:=by
 intro wh pins s σ H Q I h
 refine isTrue_and (thn (ha pins s σ H Q I h) fun c s1 e=>?_)
 cases c with
 | true=>exact isTrue_and_nil e
 | false=>exact e
theorem uX(ha:PT X a tA):PW X (.BoolOp .Or [a] pos) tA:=by
 intro wh pins s σ H Q I h
 refine isTrue_or (thn (ha pins s σ H Q I h) fun c s1 e=>?_)
 cases c with
 | false=>exact isTrue_or_nil e
 | true=>exact e
theorem uY(ha:PT X a tA)(hb:PW X (.BoolOp .And (b::rest) pos) tB'):PW X (.BoolOp .And (a::b::rest) pos) (tAnd tA tB'):=by
 intro wh pins s σ H Q I h
 refine isTrue_and (thn (ha pins s σ H _ I h) fun c s1 hq0=>?_)
 obtain⟨H1,I1,q1⟩:=hq0
 cases c with
 | true=>exact hb wh pins s1 σ H1 Q I1 q1
 | false=>exact⟨H1,I1,q1⟩
theorem xU(ha:PT X a tA)(hb:PW X (.BoolOp .Or (b::rest) pos) tB'):PW X (.BoolOp .Or (a::b::rest) pos) (tOr tA tB'):=by
 intro wh pins s σ H Q I h
 refine isTrue_or (thn (ha pins s σ H _ I h) fun c s1 hq0=>?_)
 obtain⟨H1,I1,q1⟩:=hq0
 cases c with
 | true=>exact⟨H1,I1,q1⟩
 | false=>exact hb wh pins s1 σ H1 Q I1 q1
theorem v7(ha:PT X a tA):PT X (.UnaryOp .Not a pos) (tNot tA):=by
 intro pins s σ H Q I h
 exact isTrue_not (ha pins s σ H (fun c H1=>Q (!c) H1) I h)
noncomputable def tOrV(ta tb:TE):TE:=fun σ H Q=>ta σ H fun x H1=>∃c,x=.bl c∧if c=true then Q (.bl true) H1 else tb σ H1 Q
theorem vI{op}{t:TE}(h:PE X a t):PE X (.BoolOp op [a] pos) t:=fun pins s σ H Q I hw=>BoolOp_one (h pins s σ H Q I hw)
theorem xW(ha:PE X a ta)(hb:PE X (.BoolOp .Or (b::rest) pos) tb):PE X (.BoolOp .Or (a::b::rest) pos) (tOrV ta tb):=by
 intro pins s σ H Q I h
 refine BoolOp_or (thn (ha pins s σ H _ I h) fun v s1 hq0=>?_)
 obtain⟨x,H1,I1,r1,q1⟩:=hq0
 obtain⟨c,rfl,q1⟩:=q1
 cases r1
 refine wpAny_truthy_bool ?_
 cases c with
 | false=>exact hb pins s1 σ H1 Q I1 q1
 | true=>exact⟨.bl true,H1,I1,rfl,q1⟩
end
end L2
namespace L2
open PySem PySem.Spec PyProof.Rows
def SqL(K:PySem.W.Frag)(H:Hp)(a:Addr)(xs:List V):Prop:=
 Rd H a (.lst xs)∨
  ∃(o:Obj) (its:Array Value) (n:Nat),K.lookup a=some o∧o.cls=.type "list"∧o.dict=none∧o.data=.seq its n∧its.size≤sizeLine∧Vals xs its.toList
def SqT(K:PySem.W.Frag)(H:Hp)(a:Addr)(xs:List V):Prop:=
 Rd H a (.tup xs)∨
  ∃(o:Obj) (its:Array Value) (n:Nat),K.lookup a=some o∧o.cls=.type "tuple"∧o.data=.seq its n∧its.size≤sizeLine∧Vals xs its.toList
noncomputable def absV:Value→Option V
 | .none=>some .non
 | .bool b=>some (.bl b)
 | .int i _=>some (.int i)
 | .str x _=>some (.str x)
 | .bytes b _=>some (.byt b)
 | .float b _=>some (.flt b)
 | .ref a=>some (.ref a)
 | .type n=>some (.ty n)
 | _=>none
theorem RelV.abs{x:V}{u:Value}(r:RelV x u):absV u=some x:=by
 cases x with
 | non=>cases r;rfl
 | bl _=>cases r;rfl
 | int _=>obtain⟨t,rfl⟩:=r;rfl
 | str _=>obtain⟨t,rfl⟩:=r;rfl
 | byt _=>obtain⟨t,rfl⟩:=r;rfl
 | flt _=>obtain⟨t,rfl⟩:=r;rfl
 | ref _=>cases r;rfl
 | ty _=>cases r;rfl
theorem RelV.inj{x y:V}{u:Value}(r:RelV x u)(q:RelV y u):x=y:=Option.some.inj (r.abs.symm.trans q.abs)
theorem Vals.inj{xs ys:List V}{us:List Value}(h:Vals xs us)(g:Vals ys us):xs=ys:=by
 induction h generalizing ys with
 | nil=>cases g;rfl
 | cons r t ih=>cases g with
  | cons r' t'=>rw[r.inj r',ih t']
section
variable{X:Cx}{pins:List (Addr×Obj)}{σ:St}{H:Hp}{s:Shared}{a:Addr}{xs ys:List V}
theorem SqL.of{K:PySem.W.Frag}(h:H a=some (.lst xs)):SqL K H a xs:=.inl (.inl h)
theorem Inv.list(I:Inv X pins σ H s)(h:SqL X.K H a xs):∃its:List Value,Vals xs its∧PlainL s.heap a its.toArray∧xs.length≤sizeLine:=by
 rcases h with h | ⟨o,its,n,hk,hc,hd,hs,hz,r⟩
 ·obtain⟨z,its,n,r,e⟩:=h.ok I.hok
  exact⟨its,r,⟨_,n,e,rfl,rfl,rfl⟩,z⟩
 ·refine⟨its.toList,r,⟨o,n,I.kIn a o hk,hc,hd,by simpa using hs⟩,?_⟩
  have e:=r.length
  simp only[Array.length_toList]at e
  lia
theorem Inv.tuple(I:Inv X pins σ H s)(h:SqT X.K H a xs):∃its:List Value,Vals xs its∧IsTup s.heap a its.toArray∧xs.length≤sizeLine:=by
 rcases h with h | ⟨o,its,n,hk,hc,hs,hz,r⟩
 ·obtain⟨z,its,r,p⟩:=h.ok I.hok
  exact⟨its,r,p,z⟩
 ·refine⟨its.toList,r,⟨o,I.kIn a o hk,hc,n,by simpa using hs⟩,?_⟩
  have e:=r.length
  simp only[Array.length_toList]at e
  lia
theorem Inv.list_inj(I:Inv X pins σ H s)(h:SqL X.K H a xs)(h':SqL X.K H a ys):xs=ys:=by
 obtain⟨its,r,⟨o,n,e,_,_,d⟩,_⟩:=I.list h
 obtain⟨its',r',⟨o',n',e',_,_,d'⟩,_⟩:=I.list h'
 rw[e]at e';cases e'
 rw[d]at d'
 injection d' with d1 _
 have:its=its':=by simpa using congrArg Array.toList d1
 subst this
 exact r.inj r'
theorem Inv.tuple_inj(I:Inv X pins σ H s)(h:SqT X.K H a xs)(h':SqT X.K H a ys):xs=ys:=by
 obtain⟨its,r,⟨o,e,_,n,d⟩,_⟩:=I.tuple h
 obtain⟨its',r',⟨o',e',_,n',d'⟩,_⟩:=I.tuple h'
 rw[e]at e';cases e'
 rw[d]at d'
 injection d' with d1 _
 have:its=its':=by simpa using congrArg Array.toList d1
 subst this
 exact r.inj r'
end
noncomputable abbrev Cx.wish (X:Cx) (E:Value→Shared→Prop):Cx:={ X with xe:=E }
noncomputable abbrev Cx.nox (X:Cx):Cx:=X.wish fun _ _=>False
theorem Cx.Ok.wish{X:Cx}(ok:X.Ok)(E:Value→Shared→Prop):(X.wish E).Ok:=
 ⟨ok.mod,ok.kind,ok.glob,ok.blt,ok.above,ok.inj,ok.has,ok.cab,ok.hd,ok.frames,ok.stk,ok.exf,ok.bs,ok.bsz,ok.noex,ok.exfs,ok.funs,ok.frf⟩
theorem Cx.Ok.unwish{X:Cx}{E:Value→Shared→Prop}(ok:(X.wish E).Ok):X.Ok:=
 ⟨ok.mod,ok.kind,ok.glob,ok.blt,ok.above,ok.inj,ok.has,ok.cab,ok.hd,ok.frames,ok.stk,ok.exf,ok.bs,ok.bsz,ok.noex,ok.exfs,ok.funs,ok.frf⟩
section
variable{X:Cx}{pins:List (Addr×Obj)}{σ:St}{H:Hp}{s:Shared}{E:Value→Shared→Prop}
theorem Inv.wish(I:Inv X pins σ H s)(E:Value→Shared→Prop):Inv (X.wish E) pins σ H s:=⟨I.ok.wish E,I.os,I.bare,I.base,I.loc,I.cell,I.free,I.freeC,I.pin,I.hok,I.len⟩
theorem Inv.unwish(I:Inv (X.wish E) pins σ H s):Inv X pins σ H s:=⟨I.ok.unwish,I.os,I.bare,I.base,I.loc,I.cell,I.free,I.freeC,I.pin,I.hok,I.len⟩
theorem SP.unwish{D:Ends}{f:Flow}{s':Shared}(h:SP (X.wish E) pins D f s'):SP X pins D f s':=by
 cases f with
 | next=>obtain⟨σ',H',I,q⟩:=h;exact⟨σ',H',I.unwish,q⟩
 | brk=>obtain⟨σ',H',I,q⟩:=h;exact⟨σ',H',I.unwish,q⟩
 | cont=>obtain⟨σ',H',I,q⟩:=h;exact⟨σ',H',I.unwish,q⟩
 | ret u=>obtain⟨v,σ',H',I,r,q⟩:=h;exact⟨v,σ',H',I.unwish,r,q⟩
theorem PSs.nox{st:List Stmt}{t:TS}(h:PSs X.nox st t):PSs X st t:=fun pins s σ H D I hw=>
 wpAny_mono (h pins s σ H D (I.wish _) hw) (fun _ _ q=>q.unwish) fun _ _ z=>False.elim z
end
section
variable{X:Cx}{st:Stmt}{rest:List Stmt}{t u:TS}{e:Expr}{te:TE}{pos:Pos}
noncomputable def tNext:TS:=fun D σ H=>D.nx σ H
noncomputable def tSeq(t u:TS):TS:=fun D σ H=>t { D with nx:=u D } σ H
theorem pL:PSs X [] tNext:=fun _ _ σ H _ I h=>wpAny_execs_nil ⟨σ,H,I,h⟩
theorem j8(h1:PS X st t)(h2:PSs X rest u):PSs X (st::rest) (tSeq t u):=by
 intro pins s σ H D I h
 refine wpAny_execs_cons (thn (h1 pins s σ H { D with nx:=u D } I h) fun f s1 q=>?_)
 cases f with
 | next=>
  obtain⟨σ',H',I',q⟩:=q
  exact h2 pins s1 σ' H' D I' q
 | ret v=>exact q
 | brk=>exact q
 | cont=>exact q
theorem Inv.quiet{pins:List (Addr×Obj)}{σ:St}{H:Hp}{s:Shared}(I:Inv X pins σ H s):interactive X.env=false:=by simp[interactive,I.ok.kind]
noncomputable def tDrop(te:TE):TS:=fun D σ H=>te σ H fun _ H1=>D.nx σ H1
theorem pP(he:PE X e te)(hs:swapsWith e none pos.line X.env=pure false:=by rfl):PS X (.Expr e pos) (tDrop te):=by
 intro pins s σ H D I h
 exact wpAny_Expr_any (thn (he pins s σ H _ I h) fun v s1 ⟨x,H1,I1,r1,q1⟩=>⟨σ,H1,I1,q1⟩) I.quiet hs
noncomputable def tRet(te:TE):TS:=fun D σ H=>te σ H D.rt
theorem v9(he:PE X e te):PS X (.Return (some e) pos) (tRet te):=by
 intro pins s σ H D I h
 exact wpAny_Return_some (thn (he pins s σ H _ I h) fun v s1 ⟨x,H1,I1,r1,q1⟩=>⟨x,σ,H1,I1,r1,q1⟩)
noncomputable def tIfS(c:TT)(t u:TS):TS:=fun D σ H=>c σ H fun b H1=>if b=true then t D σ H1 else u D σ H1
theorem xV{c:Expr}{a b:List Stmt}{tc:TT}(hc:PT X c tc)(ha:PSs X a t)(hb:PSs X b u):PS X (.If c a b pos) (tIfS tc t u):=by
 intro pins s σ H D I h
 refine wpAny_If (thn (hc pins s σ H _ I h) fun d s1 hq0=>?_)
 obtain⟨H1,I1,q1⟩:=hq0
 cases d with
 | true=>exact ha pins s1 σ H1 D I1 q1
 | false=>exact hb pins s1 σ H1 D I1 q1
end
noncomputable abbrev TG:=V→St→Hp→(St→Hp→Prop)→Prop
noncomputable abbrev TGs:=List V→St→Hp→(St→Hp→Prop)→Prop
def PG(X:Cx)(target:Expr)(t:TG):Prop:=
 ∀(pins:List (Addr×Obj)) (s:Shared) (σ:St) (H:Hp) (v:V) (u:Value) (Q:St→Hp→Prop),Inv X pins σ H s→RelV v u→t v σ H Q→
  wpAny (model X.prog X.w) X.A (assign target X.env u) (fun _ s'=>∃σ' H',Inv X pins σ' H' s'∧Q σ' H') X.xe s
def PGs(X:Cx)(ts:List Expr)(t:TGs):Prop:=
 ∀(pins:List (Addr×Obj)) (s:Shared) (σ:St) (H:Hp) (vs:List V) (us:List Value) (Q:St→Hp→Prop),Inv X pins σ H s→Vals vs us→t vs σ H Q→
  wpAny (model X.prog X.w) X.A (assignInOrder ((assignEach ts X.env).map (·.2)) us) (fun _ s'=>∃σ' H',Inv X pins σ' H' s'∧Q σ' H') X.xe s
section
variable{X:Cx}{pos:Pos}
noncomputable def gName(i:Nat):TG:=fun v σ H Q=>Q (σ.set i (some v)) H
theorem pY{i:Nat}{x:Str}(hN:X.N.Nodup)(hi:X.N[i]?=some x)(hx:Loc X.env.scope x)(hf:X.fn x=true∨X.env.scope.names.lookup x=some .local:=by first | exact .inl rfl | exact .inr rfl | assumption):PG X (.Name x pos) (gName i):=by
 intro pins s σ H v u Q I r h
 exact wpAny_assign_Name (X4 I hN hi hx r (fun s' I'=>⟨_,H,I',h⟩) hf)
noncomputable def gNil:TGs:=fun vs σ H Q=>vs=[]∧Q σ H
noncomputable def gCons(t:TG)(u:TGs):TGs:=fun vs σ H Q=>∃v r,vs=v::r∧t v σ H fun σ' H'=>u r σ' H' Q
theorem pX:PGs X [] gNil:=by
 intro pins s σ H vs us Q I r h
 obtain⟨e,h⟩:=h
 subst e
 cases r
 exact assignInOrder_nil ⟨σ,H,I,h⟩
theorem jC{e:Expr}{es:List Expr}{t:TG}{u:TGs}(h1:PG X e t)(h2:PGs X es u)
  (hs:(assignEach (e::es) X.env).map (·.2)=assign e X.env::(assignEach es X.env).map (·.2):=by rfl):PGs X (e::es) (gCons t u):=by
 intro pins s σ H vs us Q I r h
 obtain⟨v,vr,e1,h⟩:=h
 subst e1
 cases r with
 | cons r rr=>
  rw[hs]
  refine assignInOrder_cons (thn (h1 pins s σ H _ _ _ I r h) fun _ s1 hq0=>?_)
  obtain⟨σ1,H1,I1,q1⟩:=hq0
  exact h2 pins s1 σ1 H1 _ _ Q I1 rr q1
noncomputable def gTup(K:PySem.W.Frag)(n:Nat)(t:TGs):TG:=fun v σ H Q=>∃a xs,v=.ref a∧SqT K H a xs∧xs.length=n∧t xs σ H Q
theorem vG{es:List Expr}{k:Nat}{t:TGs}{n:Nat}(hc:X.calm=true)(h:PGs X es t)
  (hn:(assignEach es X.env).length=n:=by rfl) (hst:(assignEach es X.env).findIdx? (·.1)=none:=by rfl):PG X (.Tuple es k pos) (gTup X.K n t):=by
 intro pins s σ H v u Q I r hw
 obtain⟨a,xs,e1,hq,hl,hw⟩:=hw
 subst e1
 cases r
 obtain⟨its,rv,ht,hz⟩:=I.tuple hq
 refine assign_Tuple_tuple (I.ok.hd hc) ht (by simp[hn,←hl,rv.length]) hst fun h' hx=>?_
 have I1:Inv X pins σ H { s with heap:=h' }:=I.kept (t':=s.toks) fun b o e=>hx b o (Nat.ne_of_lt (Heap.lt_size e)) e
 exact h pins _ σ H xs _ Q I1 (by simpa using rv) hw
noncomputable def tAsg(te:TE)(g:TG):TS:=fun D σ H=>te σ H fun x H1=>g x σ H1 D.nx
theorem vB{tg e:Expr}{te:TE}{g:TG}(he:PE X e te)(hg:PG X tg g)(hs:swapsWithSole [tg] e pos.line X.env=pure false:=by rfl)(hw:swappedStores [tg] e X.env=pure none:=by rfl)
  (h1:(assignEach [tg] X.env).map (·.2)=[assign tg X.env]:=by rfl):PS X (.Assign [tg] e pos) (tAsg te g):=by
 intro pins s σ H D I h
 refine wpAny_Assign_stores (thn (he pins s σ H _ I h) fun v s1 hq0=>?_) hs hw
 obtain⟨x,H1,I1,r1,q1⟩:=hq0
 rw[h1]
 exact thn (hg pins s1 σ H1 x v _ I1 r1 q1) fun _ s2 q=>q
theorem v8{i:Nat}{x:Str}{e:Expr}{te:TE}{pos':Pos}(hN:X.N.Nodup)(hi:X.N[i]?=some x)(hx:Loc X.env.scope x)(he:PE X e te)(hs:swapsWith e (some (.Name x pos')) pos.line X.env=pure false:=by rfl)(hf:X.fn x=true∨X.env.scope.names.lookup x=some .local:=by first | exact .inl rfl | exact .inr rfl | assumption):
  PS X (.Assign [.Name x pos'] e pos) (tAsg te (gName i)):=by
 intro pins s σ H D I h
 refine wpAny_Assign_Name (thn (he pins s σ H _ I h) fun v s1 hq0=>?_) hs
 obtain⟨y,H1,I1,r1,q1⟩:=hq0
 exact X4 I1 hN hi hx r1 (fun s2 I2=>⟨_,H1,I2,q1⟩) hf
end
section
variable{X:Cx}{pos:Pos}
noncomputable def tWhile(c:TT)(tb:TS):TS:=fun D σ H=>∃W:Nat→St→Hp→Prop,(∃m,W m σ H)∧∀m σ H,W m σ H→
 c σ H fun b H1=>if b=true then ∃N:St→Hp→Prop,(∀σ' H',N σ' H'→∃m',m'<m∧W m' σ' H')∧tb { D with nx:=N,ct:=N,bk:=D.nx } σ H1 else D.nx σ H1
theorem j9{c:Expr}{body:List Stmt}{tc:TT}{tb:TS}(hp:PassesOwn (model X.prog X.w) X.A X.env X.xe)(hc:PT X c tc)(hb:PSs X body tb):PS X (.While c body [] pos) (tWhile tc tb):=by
 intro pins s σ H D I h
 obtain⟨W,⟨m0,w0⟩,turn⟩:=h
 refine wpAny_While (codeAny_whileLoop (fun n s'=>∃σ' H',Inv X pins σ' H' s'∧W n σ' H') ?_ m0 ⟨σ,H,I,w0⟩)
 rintro n s1 ⟨σ1,H1,I1,w1⟩
 refine wpAny_passesOwn hp (thn (hc pins s1 σ1 H1 _ I1 (turn n σ1 H1 w1)) fun b s2 hq0=>?_)
 obtain⟨H2,I2,q2⟩:=hq0
 cases b with
 | true=>
  obtain⟨N,hN,q2⟩:=q2
  rw[if_pos rfl]
  refine wpAny_passesOwn hp (thn (hb pins s2 σ1 H2 _ I2 q2) fun f s3 q3=>?_)
  cases f with
  | next=>
   obtain⟨σ3,H3,I3,n3⟩:=q3
   obtain⟨m',hm,w3⟩:=hN σ3 H3 n3
   exact⟨m',hm,σ3,H3,I3,w3⟩
  | cont=>
   obtain⟨σ3,H3,I3,n3⟩:=q3
   obtain⟨m',hm,w3⟩:=hN σ3 H3 n3
   exact⟨m',hm,σ3,H3,I3,w3⟩
  | brk=>exact q3
  | ret v=>exact q3
 | false=>
  rw[if_neg Bool.false_ne_true]
  exact wpAny_execs_nil ⟨σ1,H2,I2,q2⟩
end
structure It where
 go:Nat→Hp→Prop
 yld:Nat→Hp→V→Hp→Prop
 stop:Nat→Hp→Prop
def FpOk(X:Cx)(pins:List (Addr×Obj))(H:Hp)(b:Addr):Prop:=
 H b=none∧b≠X.env.locals∧b∉X.fs∧(b∈X.ex∨X.s₀.heap.objs.size≤b)∧(∀x c,X.env.cells.lookup x=some c→c≠b)∧∀p∈X.pn++pins,p.1≠b
theorem Inv.fpOk{X:Cx}{pins:List (Addr×Obj)}{σ:St}{H H':Hp}{s:Shared}{b:Addr}(I:Inv X pins σ H s)(hb:s.heap.objs.size≤b)(hn:H' b=none):FpOk X pins H' b:=by
 refine⟨hn,Nat.ne_of_gt (Nat.lt_of_lt_of_le I.lt hb),I.nofs hb,.inr (Nat.le_trans I.sz hb),fun x c e z=>?_,fun p hp z=>?_⟩
 ·obtain⟨v,q⟩:=I.cell x c e
  exact absurd (Nat.lt_of_lt_of_le q.lt (by rw[z];exact hb)) (Nat.lt_irrefl _)
 ·exact absurd (Nat.lt_of_lt_of_le (Heap.lt_size (I.pin p hp).1) (by rw[z];exact hb)) (Nat.lt_irrefl _)
structure Turn(P:Program)(w:World)(K:PySem.W.Frag)(tg:Expr)(J:It)(fp:List Addr)(it:Addr)(tn:Nat→Heap→Prop):Prop where
 mem:it∈fp
 obj:∀i h,tn i h→∀b∈fp,∃o,h.get? b=some o∧∀v,o.data≠.cell v
 keep:∀i h h',tn i h→(∀b∈fp,∀o,h.get? b=some o→h'.get? b=some o)→tn i h'
 item:∀(X:Cx),X.prog=P→X.w=w→X.K=K→X.calm=true→∀(i:Nat) (pins:List (Addr×Obj)) (s:Shared) (σ:St) (H:Hp) (E:Value→Shared→Prop),Inv X pins σ H s→(∀b∈fp,FpOk X pins H b)→tn i s.heap→J.go i H→
  wpAny (model P w) X.A (pyNext (.ref it)) (fun r s1=>∃u,r=some u∧
   wpAny (model P w) X.A (letOwnedTupleGo tg (.ref it) u) (fun _ s2=>∃x H',Inv X pins σ H' s2∧RelV x u∧J.yld i H x H'∧tn (i+1) s2.heap∧∀b∈fp,H' b=none) E s1) E s
 done:∀(X:Cx),X.prog=P→X.w=w→X.K=K→X.calm=true→∀(i:Nat) (pins:List (Addr×Obj)) (s:Shared) (σ:St) (H:Hp) (E:Value→Shared→Prop),Inv X pins σ H s→(∀b∈fp,FpOk X pins H b)→tn i s.heap→J.stop i H→
  wpAny (model P w) X.A (pyNext (.ref it)) (fun r s1=>r=none∧Inv X pins σ H s1) E s
 self:∀(A:Around) (i:Nat) (s:Shared) (Q:Value→Shared→Prop) (E:Value→Shared→Prop),tn i s.heap→Q (.ref it) s→wpAny (model P w) A (pyIter (.ref it)) Q E s
noncomputable abbrev TI:=St→Hp→(It→Hp→Prop)→Prop
def PIE(X:Cx)(pins:List (Addr×Obj))(σ:St)(tg:Expr)(R:It→Hp→Prop)(itv:Value)(s2:Shared):Prop:=
 ∃(it:Addr) (fp:List Addr) (tn:Nat→Heap→Prop) (J:It) (H':Hp),itv=.ref it∧Inv X pins σ H' s2∧Turn X.prog X.w X.K tg J fp it tn∧tn 0 s2.heap∧(∀b∈fp,FpOk X pins H' b)∧R J H'
def PI(X:Cx)(tg iter:Expr)(wi:TI):Prop:=
 ∀(pins:List (Addr×Obj)) (s:Shared) (σ:St) (H:Hp) (R:It→Hp→Prop),Inv X pins σ H s→wi σ H R→
  wpAny (model X.prog X.w) X.A (eval iter X.env) (fun v s1=>wpAny (model X.prog X.w) X.A (pyIter v) (PIE X pins σ tg R) X.xe s1) X.xe s
theorem lD {M : Model} {A : Around} {E : Value → Shared → Prop} {s : Shared} {tg : Expr} {it : Addr} {u : Value} {o : Obj} {n : String} {vs : Array Value} {Q : Unit → Shared → Prop} (ho : s.heap.get? it = some o) (hc : o.cls = .type n) (hd : o.data = .fields vs)
    (hn : ["enumerate", "zip", "dict_itemiterator", "dict_reverseitemiterator", "odict_iterator", "itertools.zip_longest", "itertools.pairwise"].contains n = false) (hQ : Q () s) : wpAny M A (letOwnedTupleGo tg (.ref it) u) Q E s := by
  unfold letOwnedTupleGo
  cases tg <;> first
    | exact wpAny_pure hQ
    | (cases u <;> first
        | exact wpAny_pure hQ
        | (refine wpAny_bind (wpAny_load ho ?_)
           rw [hc, hd]
           show wpAny M A (if (["enumerate", "zip", "dict_itemiterator", "dict_reverseitemiterator", "odict_iterator", "itertools.zip_longest", "itertools.pairwise"].contains n && vs[0]? == some (rawInt _)) = true then _ else _) Q E s
           rw [if_neg (by intro h; rw [hn, Bool.false_and] at h; cases h)]
           exact wpAny_pure hQ))
noncomputable def Itl(K:PySem.W.Frag)(a:Addr):It:=
 ⟨fun i H=>∃xs x,SqL K H a xs∧xs[i]?=some x,fun i H x H'=>H'=H∧∀xs,SqL K H a xs→xs[i]?=some x,fun i H=>∃xs,SqL K H a xs∧xs.length≤i⟩
noncomputable def Itt(K:PySem.W.Frag)(a:Addr):It:=
 ⟨fun i H=>∃xs x,SqT K H a xs∧xs[i]?=some x,fun i H x H'=>H'=H∧∀xs,SqT K H a xs→xs[i]?=some x,fun i H=>∃xs,SqT K H a xs∧xs.length≤i⟩
noncomputable def Itr(lo:Int)(n:Nat):It:=⟨fun i _=>i<n,fun i H x H'=>H'=H∧x=.int (lo+i),fun i _=>n≤i⟩
theorem eO{P:Program}{w:World}{K:PySem.W.Frag}{tg:Expr}(a it:Addr):Turn P w K tg (Itl K a) [it] it (fun i h=>h.IsListIter it a i) where
 mem:=by simp
 obj:=fun i h st b hb=>by
  have e:b=it:=by simpa using hb
  subst e
  obtain⟨o,e,c,d⟩:=st
  exact⟨o,e,fun v z=>by rw[d]at z;cases z⟩
 keep:=fun i h h' st k=>st.at fun o e=>k it (by simp) o e
 item:=by
  intro X hP hw hK hc i pins s σ H E I hf st hg
  subst hP hw hK
  obtain⟨xs,x,hq,hx⟩:=hg
  obtain⟨its,rv,p,hz⟩:=I.list hq
  obtain⟨u,hu,ru⟩:=rv.get hx
  obtain⟨f0,f1,f2,f3,f4,f5⟩:=hf it (by simp)
  refine wpAny_pyNext_list_item st p.isList (x:=u) (by simpa using hu) fun h' st' sb=>?_
  have I1:Inv X pins σ H { s with heap:=h' }:=I.turned (t':=s.toks) (fun b o hb e=>(sb.2 b hb).trans e) f0 f1 f3 f4 f5
  obtain⟨o,e,c,d⟩:=id st'
  exact⟨u,rfl,lD (s:={ s with heap:=h' }) e c d (by decide) ⟨x,H,I1,ru,⟨rfl,fun ys hy=>by rw[I.list_inj hy hq];exact hx⟩,st',fun b hb=>(hf b hb).1⟩⟩
 done:=by
  intro X hP hw hK hc i pins s σ H E I hf st hg
  subst hP hw hK
  obtain⟨xs,hq,hx⟩:=hg
  obtain⟨its,rv,p,hz⟩:=I.list hq
  obtain⟨f0,f1,f2,f3,f4,f5⟩:=hf it (by simp)
  have hl:=rv.length
  exact wpAny_pyNext_list_end (I.ok.hd hc) st p.isList (by simp;lia) fun h' eb=>⟨rfl,I.turned (t':=s.toks) (fun b o hb e=>eb b o hb e) f0 f1 f3 f4 f5⟩
 self:=fun _ _ _ _ _ st h=>wpAny_pyIter_listiter st h
theorem ZR{P:Program}{w:World}{K:PySem.W.Frag}{tg:Expr}(a it:Addr):Turn P w K tg (Itt K a) [it] it (fun i h=>h.IsTupleIter it a i) where
 mem:=by simp
 obj:=fun i h st b hb=>by
  have e:b=it:=by simpa using hb
  subst e
  obtain⟨o,e,c,d⟩:=st
  exact⟨o,e,fun v z=>by rw[d]at z;cases z⟩
 keep:=fun i h h' st k=>st.at fun o e=>k it (by simp) o e
 item:=by
  intro X hP hw hK hc i pins s σ H E I hf st hg
  subst hP hw hK
  obtain⟨xs,x,hq,hx⟩:=hg
  obtain⟨its,rv,p,hz⟩:=I.tuple hq
  obtain⟨u,hu,ru⟩:=rv.get hx
  obtain⟨f0,f1,f2,f3,f4,f5⟩:=hf it (by simp)
  refine wpAny_pyNext_tuple_item st (show s.heap.IsTuple a its.toArray from p) (x:=u) (by simpa using hu) fun h' st' sb=>?_
  have I1:Inv X pins σ H { s with heap:=h' }:=I.turned (t':=s.toks) (fun b o hb e=>(sb.2 b hb).trans e) f0 f1 f3 f4 f5
  obtain⟨o,e,c,d⟩:=id st'
  exact⟨u,rfl,lD (s:={ s with heap:=h' }) e c d (by decide) ⟨x,H,I1,ru,⟨rfl,fun ys hy=>by rw[I.tuple_inj hy hq];exact hx⟩,st',fun b hb=>(hf b hb).1⟩⟩
 done:=by
  intro X hP hw hK hc i pins s σ H E I hf st hg
  subst hP hw hK
  obtain⟨xs,hq,hx⟩:=hg
  obtain⟨its,rv,p,hz⟩:=I.tuple hq
  obtain⟨f0,f1,f2,f3,f4,f5⟩:=hf it (by simp)
  have hl:=rv.length
  exact wpAny_pyNext_tuple_end (I.ok.hd hc) st (show s.heap.IsTuple a its.toArray from p) (by simp;lia) fun h' eb=>⟨rfl,I.turned (t':=s.toks) (fun b o hb e=>eb b o hb e) f0 f1 f3 f4 f5⟩
 self:=fun _ _ _ _ _ st h=>wpAny_pyIter_tupleiter st h
theorem ZV{P:Program}{w:World}{K:PySem.W.Frag}{tg:Expr}(it:Addr)(lo:Int)(n:Nat):Turn P w K tg (Itr lo n) [it] it (fun i h=>IsRangeIter h it (lo+(i:Nat)*1) ((n:Int)-(i:Nat)) 1) where
 mem:=by simp
 obj:=fun i h st b hb=>by
  have e:b=it:=by simpa using hb
  subst e
  exact⟨_,st,fun v z=>by
   have z':Data.fields _=Data.cell v:=z
   cases z'⟩
 keep:=fun i h h' st k=>k it (by simp) _ st
 item:=by
  intro X hP hw hK hc i pins s σ H E I hf st hg
  subst hP hw hK
  obtain⟨f0,f1,f2,f3,f4,f5⟩:=hf it (by simp)
  have W:=Walks.range (prog:=X.prog) (w:=X.w) (I.ok.hd hc) it lo 1 n
  refine W.item i s _ _ hg st fun v h' tk hv st' kk=>?_
  obtain⟨t,rfl⟩:=hv
  have I1:Inv X pins σ H { s with heap:=h',toks:=tk }:=I.turned (fun b o hb e=>kk b o (by simpa using hb) e) f0 f1 f3 f4 f5
  refine⟨_,rfl,lD (s:={ s with heap:=h',toks:=tk }) (n:="range_iterator") st' rfl rfl (by decide) ⟨.int (lo+i),H,I1,⟨t,?_⟩,⟨rfl,rfl⟩,st',fun b hb=>(hf b hb).1⟩⟩
  rw[Int.mul_one]
 done:=by
  intro X hP hw hK hc i pins s σ H E I hf st hg
  subst hP hw hK
  obtain⟨f0,f1,f2,f3,f4,f5⟩:=hf it (by simp)
  exact wpAny_pyNext_range_end (I.ok.hd hc) st (by have:n≤i:=hg;lia) fun h' eb=>⟨rfl,I.turned (t':=s.toks) (fun b o hb e=>eb b o hb e) f0 f1 f3 f4 f5⟩
 self:=fun _ _ _ _ _ st h=>wpAny_pyIter_rangeiter st h
end L2
namespace L2
open PySem PySem.Spec PyProof.Rows
section
variable{X:Cx}{tg:Expr}
theorem XR{pins:List (Addr×Obj)}{σ:St}{H:Hp}{s:Shared}{R:It→Hp→Prop}{E:Value→Shared→Prop}{lo hi:Int}{t u v:Tok}{tk:Nat}(I:Inv X pins σ H s)(h1:-(2 ^ 62)≤lo)(h2:lo<2 ^ 62)(h3:-(2 ^ 62)≤hi)(h4:hi<2 ^ 62)
  (q:R (Itr lo (hi-lo).toNat) H):wpAny (model X.prog X.w) X.A (pyIter (.ref s.heap.objs.size)) (PIE X pins σ tg R) E { s with heap:=s.heap.push { cls:=.type "range",data:=.fields #[.int lo t,.int hi u,.int 1 v] },toks:=tk }:=by
 refine wpAny_pyIter_range (IsRange.new ..) (small_one h1 h2 h3 h4) ?_
 have I1:Inv X pins σ H { s with heap:=s.heap.push { cls:=.type "range",data:=.fields #[.int lo t,.int hi u,.int 1 v] },toks:=tk }:=I.kept fun b o e=>Heap.get?_push_of_some _ e
 refine⟨(s.heap.push { cls:=.type "range",data:=.fields #[.int lo t,.int hi u,.int 1 v] }).objs.size,[(s.heap.push { cls:=.type "range",data:=.fields #[.int lo t,.int hi u,.int 1 v] }).objs.size],_,_,H,rfl,
  I1.kept (t':=tk) fun b o e=>Heap.get?_push_of_some _ e,ZV _ lo (hi-lo).toNat,?_,fun b hb=>?_,q⟩
 ·have e1:lo+((0:Nat):Int)*1=lo:=by simp
  have e2:(((hi-lo).toNat:Nat):Int)-((0:Nat):Int)=Builtin.Range.rangeSize lo hi 1:=by rw[rangeSize_one];split<;>lia
  show IsRangeIter _ _ (lo+((0:Nat):Int)*1) ((((hi-lo).toNat:Nat):Int)-((0:Nat):Int)) 1
  rw[e1,e2]
  exact Heap.get?_push_size _ rfl
 ·have e:b=(s.heap.push { cls:=.type "range",data:=.fields #[.int lo t,.int hi u,.int 1 v] }).objs.size:=by simpa using hb
  subst e
  exact I1.fpOk (Nat.le_refl _) (I1.hok.fresh (Nat.le_refl _))
noncomputable def iRng1(ta:TA):TI:=fun σ H R=>ta σ H fun vs H1=>∃j:Int,vs=[.int j]∧-(2 ^ 62)≤j∧j<2 ^ 62∧R (Itr 0 j.toNat) H1
noncomputable def iRng2(ta:TA):TI:=fun σ H R=>ta σ H fun vs H1=>∃i j:Int,vs=[.int i,.int j]∧(-(2 ^ 62)≤i∧i<2 ^ 62∧-(2 ^ 62)≤j∧j<2 ^ 62)∧R (Itr i (j-i).toNat) H1
theorem fJ{a:Expr}{ta:TA}{p pos:Pos}(hg:Gl X "range")(hm:X.mg "range" = none)(ha:PA X [a] ta)(hs:starEach [a] X.env=[(false,eval a X.env)]:=by rfl):PI X tg (.Call (.Name "range" p) [a] [] pos) (iRng1 ta):=by
 intro pins s σ H R I h
 refine Call_ (JC I hg hm boot_range (PyProof.Rows.callWith_type1 (thn (ha pos pins s σ H _ I h) fun us s1 hq0=>?_) hs rfl))
 obtain⟨vs,H1,I1,r1,q1⟩:=hq0
 obtain⟨j,e,q1,q2,q⟩:=q1
 subst e
 cases r1 with
 | cons r rr=>
  cases rr
  obtain⟨t,rfl⟩:=r
  exact call_range_1 (XR I1 (by lia) (by lia) q1 q2 (by simpa using q))
theorem fH{a b:Expr}{ta:TA}{p pos:Pos}(hg:Gl X "range")(hm:X.mg "range" = none)(ha:PA X [a,b] ta)(hs:starEach [a,b] X.env=[(false,eval a X.env),(false,eval b X.env)]:=by rfl)(hs2:starEach [b] X.env=[(false,eval b X.env)]:=by rfl):
  PI X tg (.Call (.Name "range" p) [a,b] [] pos) (iRng2 ta):=by
 intro pins s σ H R I h
 refine Call_ (JC I hg hm boot_range (PyProof.Rows.callWith_type1 (thn (ha pos pins s σ H _ I h) fun us s1 hq0=>?_) (by rw[hs,hs2]) (by rw[hs2];rfl)))
 obtain⟨vs,H1,I1,r1,q1⟩:=hq0
 obtain⟨i,j,e,⟨q1,q2,q3,q4⟩,q⟩:=q1
 subst e
 cases r1 with
 | cons r rr=>
  cases rr with
  | cons r' rr=>
   cases rr
   obtain⟨t,rfl⟩:=r
   obtain⟨t',rfl⟩:=r'
   exact call_range_2 (XR I1 q1 q2 q3 q4 q)
noncomputable def tFor(wi:TI)(g:TG)(tb:TS):TS:=fun D σ H=>wi σ H fun J H1=>∃W:Nat→Nat→St→Hp→Prop,(∃m,W 0 m σ H1)∧∀i m σ H,W i m σ H→
 (J.stop i H∧D.nx σ H)∨(J.go i H∧∃N:St→Hp→Prop,(∀σ' H',N σ' H'→∃m',m'<m∧W (i+1) m' σ' H')∧∀x H',J.yld i H x H'→g x σ H' fun σ2 H2=>tb { D with nx:=N,ct:=N,bk:=D.nx } σ2 H2)
noncomputable def pinsAt(fp:List Addr)(h:Heap):List (Addr×Obj):=fp.filterMap fun b=>(h.get? b).map fun o=>(b,o)
theorem JM{fp:List Addr}{h:Heap}{b:Addr}{o:Obj}(hb:b∈fp)(e:h.get? b=some o):(b,o)∈pinsAt fp h:=List.mem_filterMap.mpr ⟨b,hb,by rw[e];rfl⟩
theorem fW{fp:List Addr}{h:Heap}{p:Addr×Obj}(hp:p∈pinsAt fp h):p.1∈fp∧h.get? p.1=some p.2:=by
 obtain⟨b,hb,e⟩:=List.mem_filterMap.mp hp
 cases q:h.get? b with
 | none=>rw[q]at e;cases e
 | some o=>
  rw[q]at e
  have e':(b,o)=p:=Option.some.inj e
  subst e'
  exact⟨hb,q⟩
theorem Inv.pinned{pins:List (Addr×Obj)}{σ:St}{H:Hp}{s:Shared}{fp:List Addr}(I:Inv X pins σ H s)(hf:∀b∈fp,FpOk X pins H b)(ho:∀b∈fp,∃o,s.heap.get? b=some o∧∀v,o.data≠.cell v):Inv X (pins++pinsAt fp s.heap) σ H s:=
 I.pins_of fun p hp=>(List.mem_append.mp hp).elim (fun z=>I.pin p (List.mem_append_right _ z)) fun z=>by
  obtain⟨hb,e⟩:=fW z
  obtain⟨f0,f1,f2,_⟩:=hf p.1 hb
  obtain⟨o,e',d⟩:=ho p.1 hb
  rw[e]at e';cases e'
  exact⟨e,f0,f1,f2,d⟩
theorem Inv.unpinned{pins pl:List (Addr×Obj)}{σ:St}{H:Hp}{s:Shared}(I:Inv X (pins++pl) σ H s):Inv X pins σ H s:=I.pins_of fun p hp=>I.pin p (List.mem_append_right _ (List.mem_append_left _ hp))
theorem vA{iter:Expr}{body:List Stmt}{wi:TI}{g:TG}{tb:TS}{pos:Pos}(hp:PassesOwn (model X.prog X.w) X.A X.env X.xe)(hc:X.calm=true)(hi:PI X tg iter wi)(hg:PG X tg g)(hb:PSs X body tb)
  (hs:∀x,foldedSetIterable iter X.env x=pure x:=by intro _;rfl):PS X (.For tg iter body [] pos) (tFor wi g tb):=by
 intro pins s σ H D I h
 refine wpAny_For (thn (hi pins s σ H _ I h) fun v s1 h1=>thn h1 fun itv s2 h2=>?_) hs
 obtain⟨it,fp,tn,J,H2,e,I2,T,st2,f2,W,⟨m0,w0⟩,turn⟩:=h2
 subst e
 have stat:∀{H':Hp},(∀b∈fp,H' b=none)→∀b∈fp,FpOk X pins H' b:=fun hn b hb=>⟨hn b hb,(f2 b hb).2⟩
 refine codeAny_forLoop_any (fun n s'=>∃i σ' H',Inv X pins σ' H' s'∧tn i s'.heap∧(∀b∈fp,H' b=none)∧W i n σ' H') ?_ m0 ⟨0,σ,H2,I2,st2,fun b hb=>(f2 b hb).1,w0⟩
 rintro n s3 ⟨i,σ3,H3,I3,st3,fr3,w3⟩
 rcases turn i n σ3 H3 w3 with ⟨stop,qn⟩ | ⟨go,N,hN,step⟩
 ·refine wpAny_passesOwn hp (thn (T.done X rfl rfl rfl hc i pins s3 σ3 H3 X.xe I3 (stat fr3) st3 stop) fun r s4 hq0=>?_)
  obtain⟨hr,I4⟩:=hq0
  subst hr
  exact wpAny_execs_nil ⟨σ3,H3,I4,qn⟩
 ·refine wpAny_passesOwn hp (thn (T.item X rfl rfl rfl hc i pins s3 σ3 H3 X.xe I3 (stat fr3) st3 go) fun r s4 hq0=>?_)
  obtain⟨u,hr,h4⟩:=hq0
  subst hr
  refine wpAny_passesOwn hp (thn h4 fun _ s5 hq0=>?_)
  obtain⟨x,H5,I5,r5,y5,st5,fr5⟩:=hq0
  have I5':=I5.pinned (stat fr5) (T.obj _ _ st5)
  refine wpAny_passesOwn hp (thn (hg _ s5 σ3 H5 x u _ I5' r5 (step x H5 y5)) fun _ s6 hq0=>?_)
  obtain⟨σ6,H6,I6,q6⟩:=hq0
  refine wpAny_passesOwn hp (thn (hb _ s6 σ6 H6 _ I6 q6) fun f s7 q7=>?_)
  have again:∀{σ7:St} {H7:Hp},Inv X (pins++pinsAt fp s5.heap) σ7 H7 s7→N σ7 H7→∃m,m<n∧∃i σ' H',Inv X pins σ' H' s7∧tn i s7.heap∧(∀b∈fp,H' b=none)∧W i m σ' H':=fun {σ7 H7} I7 n7=>by
   obtain⟨m',hm,w7⟩:=hN σ7 H7 n7
   refine⟨m',hm,i+1,σ7,H7,I7.unpinned,T.keep _ _ _ st5 fun b hb o e=>(I7.pin (b,o) (List.mem_append_right _ (List.mem_append_right _ (JM hb e)))).1,fun b hb=>?_,w7⟩
   obtain⟨o,e,d⟩:=T.obj _ _ st5 b hb
   exact(I7.pin (b,o) (List.mem_append_right _ (List.mem_append_right _ (JM hb e)))).2.1
  cases f with
  | next=>obtain⟨σ7,H7,I7,n7⟩:=q7;exact again I7 n7
  | cont=>obtain⟨σ7,H7,I7,n7⟩:=q7;exact again I7 n7
  | brk=>obtain⟨σ7,H7,I7,q7⟩:=q7;exact⟨σ7,H7,I7.unpinned,q7⟩
  | ret v=>obtain⟨x7,σ7,H7,I7,r7,q7⟩:=q7;exact⟨x7,σ7,H7,I7.unpinned,r7,q7⟩
end
end L2
namespace L2
open PySem PySem.Spec PyProof.Rows
noncomputable abbrev R2:=V→V→Hp→VK→Prop
def OpR(X:Cx)(f:Value→Value→Sem Value)(r:R2):Prop:=
 ∀(pins:List (Addr×Obj)) (s:Shared) (σ:St) (H:Hp) (x y:V) (v u:Value) (Q:VK),Inv X pins σ H s→RelV x v→RelV y u→r x y H Q→
  wpAny (model X.prog X.w) X.A (f v u) (EP X pins σ Q) X.xe s
def CallR(X:Cx)(f:Value)(r:List V→Hp→VK→Prop):Prop:=
 ∀(pins:List (Addr×Obj)) (s:Shared) (σ:St) (H:Hp) (xs:List V) (us:List Value) (Q:VK),Inv X pins σ H s→Vals xs us→r xs H Q→
  wpAny (model X.prog X.w) X.A (call f us) (EP X pins σ Q) X.xe s
def TruR(X:Cx)(r:V→Hp→(Bool→Hp→Prop)→Prop):Prop:=
 ∀(pins:List (Addr×Obj)) (s:Shared) (σ:St) (H:Hp) (x:V) (v:Value) (Q:Bool→Hp→Prop),Inv X pins σ H s→RelV x v→r x H Q→
  wpAny (model X.prog X.w) X.A (truthy v) (TP X pins σ Q) X.xe s
noncomputable def tOp(r:R2)(ta tb:TE):TE:=fun σ H Q=>ta σ H fun x H1=>tb σ H1 fun y H2=>r x y H2 Q
noncomputable def rI(C:Int→Int→Prop)(g:Int→Int→V):R2:=fun x y H Q=>∃i j,x=.int i∧y=.int j∧C i j∧Q (g i j) H
noncomputable def rI0(g:Int→Int→V):R2:=fun x y H Q=>∃i j,x=.int i∧y=.int j∧Q (g i j) H
section
variable{X:Cx}{a b c:Expr}{ta tb tc:TE}{pos:Pos}
theorem wU(ha:PE X a ta)(hb:PE X b tb){pins:List (Addr×Obj)}{s:Shared}{σ:St}{H:Hp}{R:V→V→Hp→Prop}(I:Inv X pins σ H s)
  (h:ta σ H fun x H1=>tb σ H1 fun y H2=>R x y H2) {Q:Value→Shared→Prop} {f:Value→Value→Sem Value}
  (hf:∀v u s2 x y H2,Inv X pins σ H2 s2→RelV x v→RelV y u→R x y H2→wpAny (model X.prog X.w) X.A (f v u) Q X.xe s2) :
  wpAny (model X.prog X.w) X.A (eval a X.env) (fun v s₁=>wpAny (model X.prog X.w) X.A (eval b X.env) (fun u s₂=>wpAny (model X.prog X.w) X.A (f v u) Q X.xe s₂) X.xe s₁) X.xe s:=by
 refine thn (ha pins s σ H _ I h) fun v s1 hq0=>?_
 obtain⟨x,H1,I1,r1,q1⟩:=hq0
 refine thn (hb pins s1 σ H1 _ I1 q1) fun u s2 hq0=>?_
 obtain⟨y,H2,I2,r2,q2⟩:=hq0
 exact hf v u s2 x y H2 I2 r1 r2 q2
theorem Y5{op:Operator}{r:R2}(ho:OpR X (binaryOp op) r)(ha:PE X a ta)(hb:PE X b tb):PE X (.BinOp a op b pos) (tOp r ta tb):=by
 intro pins s σ H Q I h
 exact wpAny_BinOp (wU ha hb I h fun v u s2 x y H2 I2 rx ry q=>ho pins s2 σ H2 x y v u Q I2 rx ry q)
theorem opI{f:Value→Value→Sem Value}{C:Int→Int→Prop}{g:Int→Int→Int}
  (rule:∀(i j:Int) (t u:Tok) (s:Shared) (Q:Value→Shared→Prop) (E:Value→Shared→Prop),C i j→Q (.int (g i j) s.toks) { s with toks:=s.toks+1 }→wpAny (model X.prog X.w) X.A (f (.int i t) (.int j u)) Q E s) :
  OpR X f (rI C fun i j=>.int (g i j)):=by
 intro pins s σ H x y v u Q I rx ry h
 obtain⟨i,j,rfl,rfl,hc,q⟩:=h
 obtain⟨t,rfl⟩:=rx
 obtain⟨t',rfl⟩:=ry
 exact rule i j t t' s _ _ hc ⟨.int (g i j),H,I.tok _,⟨_,rfl⟩,q⟩
theorem yF{f:Value→Value→Sem Value}{g:Int→Int→Int}
  (rule:∀(i j:Int) (t u:Tok) (s:Shared) (Q:Value→Shared→Prop) (E:Value→Shared→Prop),Q (.int (g i j) s.toks) { s with toks:=s.toks+1 }→wpAny (model X.prog X.w) X.A (f (.int i t) (.int j u)) Q E s) :
  OpR X f (rI0 fun i j=>.int (g i j)):=by
 intro pins s σ H x y v u Q I rx ry h
 obtain⟨i,j,rfl,rfl,q⟩:=h
 obtain⟨t,rfl⟩:=rx
 obtain⟨t',rfl⟩:=ry
 exact rule i j t t' s _ _ ⟨.int (g i j),H,I.tok _,⟨_,rfl⟩,q⟩
theorem qP{f:Value→Value→Sem Value}{g:Int→Int→Bool}
  (rule:∀(i j:Int) (t u:Tok) (s:Shared) (Q:Value→Shared→Prop) (E:Value→Shared→Prop),Q (.bool (g i j)) s→wpAny (model X.prog X.w) X.A (f (.int i t) (.int j u)) Q E s) :
  OpR X f (rI0 fun i j=>.bl (g i j)):=by
 intro pins s σ H x y v u Q I rx ry h
 obtain⟨i,j,rfl,rfl,q⟩:=h
 obtain⟨t,rfl⟩:=rx
 obtain⟨t',rfl⟩:=ry
 exact rule i j t t' s _ _ ⟨.bl (g i j),H,I,rfl,q⟩
def CMul(i j:Int):Prop:=(-(2 ^ 64)<i∧i<2 ^ 64)∨(-(2 ^ 64)<j∧j<2 ^ 64)
theorem CMul.ok{i j:Int}(h:CMul i j):IntMulOk i j:=by
 rcases h with ⟨h1,h2⟩ | ⟨h1,h2⟩
 ·exact .of_left (intBits_le_64 h1 h2)
 ·exact .of_right (intBits_le_64 h1 h2)
theorem op_add:OpR X (binaryOp .Add) (rI0 fun i j=>.int (i+j)):=yF fun _ _ _ _ _ _ _ q=>add_int q
theorem vN:OpR X (binaryOp .Sub) (rI0 fun i j=>.int (i-j)):=yF fun _ _ _ _ _ _ _ q=>sub_int q
theorem vO:OpR X (binaryOp .Mult) (rI CMul fun i j=>.int (i*j)):=opI fun _ _ _ _ _ _ _ hc q=>mul_int q hc.ok
theorem vP:OpR X (binaryOp .Mod) (rI (fun _ j=>0<j) fun i j=>.int (i % j)):=opI fun i j _ _ _ _ _ hc q=>by
 have h1:(0:Int)<j:=hc
 exact mod_int' (by lia) (by rw[Int.fmod_eq_emod_of_nonneg i (by lia)];exact q)
end
noncomputable def scal:V→V→Bool
 | .non,.non=>true | .non,.int _=>true | .int _,.non=>true | .non,.bl _=>true | .bl _,.non=>true | .non,.str _=>true | .str _,.non=>true
 | .int _,.int _=>true | .bl _,.bl _=>true | .str _,.str _=>true | .byt _,.byt _=>true
 | .int _,.str _=>true | .str _,.int _=>true | .bl _,.str _=>true | .str _,.bl _=>true
 | _,_=>false
noncomputable def rEq:R2:=fun x y H Q=>scal x y=true∧Q (.bl (decide (x=y))) H
noncomputable def rNe:R2:=fun x y H Q=>scal x y=true∧Q (.bl (!decide (x=y))) H
theorem d9{i j:Int}:decide (V.int i=V.int j)=(i==j):=by
 rw[Bool.eq_iff_iff]
 simp
theorem mH{i j:Bool}:decide (V.bl i=V.bl j)=(i==j):=by
 rw[Bool.eq_iff_iff]
 simp
theorem d8{i j:Str}:decide (V.str i=V.str j)=(i==j):=by
 rw[Bool.eq_iff_iff]
 simp
theorem dG{i j:Array UInt8}:decide (V.byt i=V.byt j)=(i.toList==j.toList):=by
 rw[Bool.eq_iff_iff]
 cases i
 cases j
 simp
section
variable{X:Cx}{a b c:Expr}{ta tb tc:TE}{pos:Pos}
theorem DX{pins:List (Addr×Obj)}{σ:St}{H:Hp}{s:Shared}{Q:VK}{k k':Bool}(I:Inv X pins σ H s)(q:Q (.bl k) H)(e:k=k'):EP X pins σ Q (.bool k') s:=by
 subst e
 exact⟨.bl k,H,I,rfl,q⟩
theorem op_eq:OpR X (compareOp .Eq) rEq:=by
 intro pins s σ H x y v u Q I rx ry h
 obtain⟨hs,q⟩:=h
 cases x with
 | non=>
  cases rx
  cases y with
  | non=>cases ry;exact PySem.EqNone.eq_none_none (DX I q (by simp))
  | bl j=>cases ry;exact PySem.EqNone.eq_none_bool (DX I q (by simp))
  | int j=>obtain⟨t',rfl⟩:=ry;exact PySem.EqNone.eq_none_int (DX I q (by simp))
  | str j=>obtain⟨t',rfl⟩:=ry;exact PySem.EqNone.eq_none_str (DX I q (by simp))
  | _=>exact absurd (show false=true from hs) Bool.false_ne_true
 | bl i=>
  cases rx
  cases y with
  | non=>cases ry;exact PySem.EqNone.eq_bool_none (DX I q (by simp))
  | bl j=>cases ry;exact eq_bool (DX I q mH)
  | str j=>obtain⟨t',rfl⟩:=ry;exact PySem.EqMixed.eq_bool_str (DX I q (by simp))
  | _=>exact absurd (show false=true from hs) Bool.false_ne_true
 | int i=>
  obtain⟨t,rfl⟩:=rx
  cases y with
  | non=>cases ry;exact PySem.EqNone.eq_int_none (DX I q (by simp))
  | int j=>obtain⟨t',rfl⟩:=ry;exact eq_int (DX I q d9)
  | str j=>obtain⟨t',rfl⟩:=ry;exact PySem.EqMixed.eq_int_str (DX I q (by simp))
  | _=>exact absurd (show false=true from hs) Bool.false_ne_true
 | str i=>
  obtain⟨t,rfl⟩:=rx
  cases y with
  | non=>cases ry;exact PySem.EqNone.eq_str_none (DX I q (by simp))
  | bl j=>cases ry;exact PySem.EqMixed.eq_str_bool (DX I q (by simp))
  | int j=>obtain⟨t',rfl⟩:=ry;exact PySem.EqMixed.eq_str_int (DX I q (by simp))
  | str j=>obtain⟨t',rfl⟩:=ry;exact eq_str (DX I q d8)
  | _=>exact absurd (show false=true from hs) Bool.false_ne_true
 | byt i=>
  obtain⟨t,rfl⟩:=rx
  cases y with
  | byt j=>obtain⟨t',rfl⟩:=ry;exact PySem.W.eq_bytes (DX I q dG)
  | _=>exact absurd (show false=true from hs) Bool.false_ne_true
 | _=>cases y<;>exact absurd (show false=true from hs) Bool.false_ne_true
theorem op_ne:OpR X (compareOp .NotEq) rNe:=by
 intro pins s σ H x y v u Q I rx ry h
 obtain⟨hs,q⟩:=h
 cases x with
 | non=>
  cases rx
  cases y with
  | non=>cases ry;exact PySem.EqNone.ne_none_none (DX I q (by simp))
  | bl j=>cases ry;exact PySem.EqNone.ne_none_bool (DX I q (by simp))
  | int j=>obtain⟨t',rfl⟩:=ry;exact PySem.EqNone.ne_none_int (DX I q (by simp))
  | str j=>obtain⟨t',rfl⟩:=ry;exact PySem.EqNone.ne_none_str (DX I q (by simp))
  | _=>exact absurd (show false=true from hs) Bool.false_ne_true
 | bl i=>
  cases rx
  cases y with
  | non=>cases ry;exact PySem.EqNone.ne_bool_none (DX I q (by simp))
  | bl j=>cases ry;exact ne_bool (DX I q (congrArg not mH))
  | str j=>obtain⟨t',rfl⟩:=ry;exact PySem.EqMixed.ne_bool_str (DX I q (by simp))
  | _=>exact absurd (show false=true from hs) Bool.false_ne_true
 | int i=>
  obtain⟨t,rfl⟩:=rx
  cases y with
  | non=>cases ry;exact PySem.EqNone.ne_int_none (DX I q (by simp))
  | int j=>obtain⟨t',rfl⟩:=ry;exact ne_int (DX I q (congrArg not d9))
  | str j=>obtain⟨t',rfl⟩:=ry;exact PySem.EqMixed.ne_int_str (DX I q (by simp))
  | _=>exact absurd (show false=true from hs) Bool.false_ne_true
 | str i=>
  obtain⟨t,rfl⟩:=rx
  cases y with
  | non=>cases ry;exact PySem.EqNone.ne_str_none (DX I q (by simp))
  | bl j=>cases ry;exact PySem.EqMixed.ne_str_bool (DX I q (by simp))
  | int j=>obtain⟨t',rfl⟩:=ry;exact PySem.EqMixed.ne_str_int (DX I q (by simp))
  | str j=>obtain⟨t',rfl⟩:=ry;exact ne_str (DX I q (congrArg not d8))
  | _=>exact absurd (show false=true from hs) Bool.false_ne_true
 | byt i=>
  obtain⟨t,rfl⟩:=rx
  cases y with
  | byt j=>obtain⟨t',rfl⟩:=ry;exact PySem.W.ne_bytes (DX I q (congrArg not dG))
  | _=>exact absurd (show false=true from hs) Bool.false_ne_true
 | _=>cases y<;>exact absurd (show false=true from hs) Bool.false_ne_true
theorem xZ:OpR X (compareOp .Lt) (rI0 fun i j=>.bl (decide (i<j))):=qP fun _ _ _ _ _ _ _ q=>lt_int q
theorem yC:OpR X (compareOp .LtE) (rI0 fun i j=>.bl (decide (i≤j))):=qP fun _ _ _ _ _ _ _ q=>le_int q
theorem yD:OpR X (compareOp .Gt) (rI0 fun i j=>.bl (decide (j<i))):=qP fun _ _ _ _ _ _ _ q=>gt_int q
theorem yE:OpR X (compareOp .GtE) (rI0 fun i j=>.bl (decide (j≤i))):=qP fun _ _ _ _ _ _ _ q=>ge_int q
theorem OpR.or{f:Value→Value→Sem Value}{r r':R2}(h:OpR X f r)(h':OpR X f r'):OpR X f (fun x y H Q=>r x y H Q∨r' x y H Q):=by
 intro pins s σ H x y v u Q I rx ry q
 rcases q with q | q
 ·exact h pins s σ H x y v u Q I rx ry q
 ·exact h' pins s σ H x y v u Q I rx ry q
theorem qG{op:CmpOp}{r:R2}(ho:OpR X (compareOp op) r)(ha:PE X a ta)(hb:PE X b tb)(hm:behindInMarks op b=false):PE X (.Compare a [op] [b] pos) (tOp r ta tb):=by
 intro pins s σ H Q I h
 exact wpAny_Compare1 (wU ha hb I h fun v u s2 x y H2 I2 rx ry q=>ho pins s2 σ H2 x y v u Q I2 rx ry q) hm
noncomputable def tTest(t:TE):TT:=fun σ H Q=>t σ H fun x H'=>∃k,x=.bl k∧Q k H'
theorem pK{op:CmpOp}{r:R2}(ho:OpR X (compareOp op) r)(ha:PE X a ta)(hb:PE X b tb)(hm:behindInMarks op b=false):PT X (.Compare a [op] [b] pos) (tTest (tOp r ta tb)):=by
 intro pins s σ H Q I h
 refine wpAny_isTrue_Compare1 (thn (ha pins s σ H _ I h) fun v s1 ⟨x,H1,I1,r1,q1⟩=>thn (hb pins s1 σ H1 _ I1 q1) fun u s2 ⟨y,H2,I2,r2,q2⟩=>
  thn (ho pins s2 σ H2 x y v u _ I2 r1 r2 q2) fun c s3 ⟨z,H3,I3,r3,k,e,q3⟩=>?_) hm
 subst e
 cases r3
 exact wpAny_truthy_bool ⟨H3,I3,q3⟩
def TruV(K:PySem.W.Frag)(x:V)(H:Hp)(k:Bool):Prop:=
 match x with
 | .non=>k=false
 | .bl b=>k=b
 | .int i=>k=(i != 0)
 | .str y=>y.length≤sizeLine∧k=((y.length:Int) != 0)
 | .byt y=>y.size≤sizeLine∧k=((y.size:Int) != 0)
 | .ref p=>(∃xs,SqL K H p xs∧k=!xs.isEmpty)∨(∃xs,SqT K H p xs∧k=!xs.isEmpty)∨∃kvs,H p=some (.dK kvs)∧k=!kvs.isEmpty
 | _=>False
theorem aW{κ:Type}{kvs:List (κ×V)}{vs:List (κ×Value)}(r:KV kvs vs):(!vs.isEmpty)=!kvs.isEmpty:=by
 cases r<;>rfl
theorem R7{xs:List V}{its:List Value}(r:Vals xs its):(!its.toArray.isEmpty)=!xs.isEmpty:=by
 cases r<;>simp
theorem R6:(sizeLine:Nat)<2 ^ 63:=by rw[sizeLine_eq];decide
theorem u9:TruR X (fun x H Q=>∃k,TruV X.K x H k∧Q k H):=by
 intro pins s σ H x v Q I rx h
 obtain⟨k,e,q⟩:=h
 have hl:=R6
 have hs:sizeLine=16777216:=sizeLine_eq
 cases x with
 | non=>
  cases rx
  have e':k=false:=e
  subst e'
  exact truthy_none ⟨H,I,q⟩
 | bl b=>
  cases rx
  have e':k=b:=e
  subst e'
  exact wpAny_truthy_bool ⟨H,I,q⟩
 | int i=>
  obtain⟨t,rfl⟩:=rx
  have e':k=(i != 0):=e
  subst e'
  exact PySem.P.truthy_int ⟨H,I,q⟩
 | str y=>
  obtain⟨t,rfl⟩:=rx
  obtain⟨hy,e'⟩:y.length≤sizeLine∧k=((y.length:Int) != 0):=e
  subst e'
  exact PySem.P.truthy_str (by lia) ⟨H,I.tok _,q⟩
 | byt y=>
  obtain⟨t,rfl⟩:=rx
  obtain⟨hy,e'⟩:y.size≤sizeLine∧k=((y.size:Int) != 0):=e
  subst e'
  exact PySem.W.truthy_bytes (by lia) ⟨H,I.tok _,q⟩
 | ref p=>
  cases rx
  have e':(∃xs,SqL X.K H p xs∧k=!xs.isEmpty)∨(∃xs,SqT X.K H p xs∧k=!xs.isEmpty)∨∃kvs,H p=some (.dK kvs)∧k=!kvs.isEmpty:=e
  rcases e' with ⟨xs,hx,e'⟩ | ⟨xs,hx,e'⟩ | ⟨kvs,hx,e'⟩
  ·subst e'
   obtain⟨its,r,pl,hz⟩:=I.list hx
   have hlen:=r.length
   exact wpAny_truthy_list pl.isList (by simp only[List.size_toArray];lia) ⟨H,I.tok _,by rw[R7 r];exact q⟩
  ·subst e'
   obtain⟨its,r,pl,hz⟩:=I.tuple hx
   have hlen:=r.length
   exact truthy_tuple pl (by simp only[List.size_toArray];lia) ⟨H,I.tok _,by rw[R7 r];exact q⟩
  ·subst e'
   obtain⟨hz,hS,vs,r,m⟩:kvs.length≤sizeLine∧(p==sysModules)=false∧∃vs,KV kvs vs∧s.heap.DictOf (mixKind X.prog X.w) p vs:=I.hok p _ hx
   have hlen:kvs.length=vs.length:=Paired.length r
   exact wpAny_truthy_dict hS m (by lia) ⟨H,I.tok _,by rw[aW r];exact q⟩
 | _=>exact(show False from e).elim
theorem j7(ha:PE X a ta)(he:∀whole,isTrue a X.env whole=(do let v ←whole;standAt a.pos;holding [v] (truthy v))):
  PT X a (fun σ H Q=>ta σ H fun x H'=>∃k,TruV X.K x H' k∧Q k H'):=by
 intro pins s σ H Q I h
 exact isTrue_plain (thn (ha pins s σ H _ I h) fun v s1 ⟨x,H1,I1,r1,q1⟩=>u9 pins s1 σ H1 x v Q I1 r1 q1) (he _)
theorem op_add_str:OpR X (binaryOp .Add) (fun x y H Q=>∃i j,x=.str i∧y=.str j∧i.length+j.length≤sizeLine∧Q (.str (i++j)) H):=by
 intro pins s σ H x y v u Q I rx ry h
 obtain⟨i,j,rfl,rfl,hz,q⟩:=h
 obtain⟨t,rfl⟩:=rx
 obtain⟨t',rfl⟩:=ry
 exact add_str (fun t' tk=>⟨.str (i++j),H,I.tok _,⟨_,rfl⟩,q⟩) hz
theorem vals1{x:V}{us:List Value}(r:Vals [x] us):∃u,us=[u]∧RelV x u:=by
 cases r with
 | cons r1 r2=>cases r2;exact⟨_,rfl,r1⟩
theorem vals2{x y:V}{us:List Value}(r:Vals [x,y] us):∃u w',us=[u,w']∧RelV x u∧RelV y w':=by
 cases r with
 | cons r1 r2=>
  cases r2 with
  | cons r3 r4=>cases r4;exact⟨_,_,rfl,r1,r3⟩
theorem gK(hc:X.calm=true):CallR X (.builtin "max") (fun xs H Q=>∃i j,xs=[.int i,.int j]∧Q (.int (if j > i then j else i)) H):=by
 intro pins s σ H xs us Q I r h
 obtain⟨i,j,rfl,q⟩:=h
 obtain⟨u,w',rfl,⟨t,rfl⟩,⟨t',rfl⟩⟩:=vals2 r
 refine max_two_ints (I.ok.hd hc) fun h' tk k=>⟨_,H,I.kept k,?_,q⟩
 by_cases hj:j > i
 ·rw[if_pos hj,if_pos hj];exact⟨_,rfl⟩
 ·rw[if_neg hj,if_neg hj];exact⟨_,rfl⟩
theorem gO:CallR X (.type "int") (fun xs H Q=>(∃i,xs=[.int i]∧Q (.int i) H)∨∃k,xs=[.bl k]∧Q (.int (if k then 1 else 0)) H):=by
 intro pins s σ H xs us Q I r h
 rcases h with ⟨i,rfl,q⟩ | ⟨k,rfl,q⟩
 ·obtain⟨u,rfl,t,rfl⟩:=vals1 r
  exact call_int_int ⟨.int i,H,I,⟨_,rfl⟩,q⟩
 ·obtain⟨u,rfl,r1⟩:=vals1 r
  cases r1
  exact call_int_bool ⟨.int (if k then 1 else 0),H,I.tok _,⟨_,rfl⟩,q⟩
def LenV(K:PySem.W.Frag)(x:V)(H:Hp)(n:Nat):Prop:=
 match x with
 | .str y=>y.length≤sizeLine∧n=y.length
 | .byt y=>y.size≤sizeLine∧n=y.size
 | .ref p=>(∃xs,SqL K H p xs∧n=xs.length)∨∃xs,SqT K H p xs∧n=xs.length
 | _=>False
theorem call_len:CallR X (.builtin "len") (fun xs H Q=>∃x n,xs=[x]∧LenV X.K x H n∧Q (.int n) H):=by
 intro pins s σ H xs us Q I r h
 obtain⟨x,n,rfl,e,q⟩:=h
 obtain⟨u,rfl,rx⟩:=vals1 r
 have hl:=R6
 have hs:sizeLine=16777216:=sizeLine_eq
 cases x with
 | str y=>
  obtain⟨t,rfl⟩:=rx
  obtain⟨hy,e'⟩:y.length≤sizeLine∧n=y.length:=e
  subst e'
  exact len_str (by lia) ⟨.int _,H,I.tok _,⟨_,rfl⟩,q⟩
 | byt y=>
  obtain⟨t,rfl⟩:=rx
  obtain⟨hy,e'⟩:y.size≤sizeLine∧n=y.size:=e
  subst e'
  exact PySem.W.len_bytes (by lia) ⟨.int _,H,I.tok _,⟨_,rfl⟩,q⟩
 | ref p=>
  cases rx
  have e':(∃xs,SqL X.K H p xs∧n=xs.length)∨∃xs,SqT X.K H p xs∧n=xs.length:=e
  rcases e' with ⟨xs,hx,e'⟩ | ⟨xs,hx,e'⟩
  ·subst e'
   obtain⟨its,r',pl,hz⟩:=I.list hx
   have hlen:=r'.length
   exact Calls.call_len_list pl.isList (by simp only[List.size_toArray];lia) ⟨.int xs.length,H,I.tok _,⟨_,by simp only[List.size_toArray];rw[hlen]⟩,q⟩
  ·subst e'
   obtain⟨its,r',pl,hz⟩:=I.tuple hx
   have hlen:=r'.length
   exact len_tuple pl (by simp only[List.size_toArray];lia) ⟨.int xs.length,H,I.tok _,⟨_,by simp only[List.size_toArray];rw[hlen]⟩,q⟩
 | _=>exact(show False from e).elim
end
end L2
namespace L2
open PySem PySem.Spec PyProof.Rows
section
variable{prog:Program}{w:World}{A:Around}{E:Value→Shared→Prop}{s:Shared}{K:PySem.W.Frag}{x dx C f:Addr}{mA:Str→Option Value}{name:Str}{v:Value}
end
section
variable{P:Program}{w:World}{H H':Hp}{h h':Heap}{a C dx:Addr}{fs fs':List (Str×V)}
end
structure Cls(K:PySem.W.Frag)(C:Addr):Prop where
 pg:PySem.W.plainGet K C Str.empty=true
 hd:PySem.W.hasDictIn K C=true
 po:PySem.W.plainOver K C=true
 sa:PySem.W.findIn K (.ref C) "__setattr__" = some (some (.builtin "object.__setattr__"))
section
variable{X:Cx}{pins:List (Addr×Obj)}{σ:St}{H:Hp}{s:Shared}{a C dx:Addr}{fs:List (Str×V)}{f:Str}{v:V}{A:Around}{E:Value→Shared→Prop}
end
section
variable{X:Cx}{o e value:Expr}{f:Str}{pos pos' tpos:Pos}{ta tv:TE}
end
section
variable{X:Cx}{pins:List (Addr×Obj)}{σ:St}{H:Hp}{s:Shared}{A:Around}{E:Value→Shared→Prop}{Q:Value→Shared→Prop}{c:Value}{b:Bool}
inductive TyOf (K:PySem.W.Frag) (H:Hp):V→Value→Prop where
 | non:TyOf K H .non (.type "NoneType")
 | bl (x:Bool):TyOf K H (.bl x) (.type "bool")
 | int (i:Int):TyOf K H (.int i) (.type "int")
 | str (x:Str):TyOf K H (.str x) (.type "str")
 | flt (x:UInt64):TyOf K H (.flt x) (.type "float")
 | lst {a:Addr} {xs:List V} (e:H a=some (.lst xs)):TyOf K H (.ref a) (.type "list")
 | frz {a:Addr} {o:Obj} {xs:List V} (e:H a=some (.frz o (.lst xs))):TyOf K H (.ref a) (.type "list")
 | tup {a:Addr} {xs:List V} (e:H a=some (.tup xs)):TyOf K H (.ref a) (.type "tuple")
 | dK {a:Addr} {kvs:List (Key×V)} (e:H a=some (.dK kvs)):TyOf K H (.ref a) (.type "dict")
 | dT {a:Addr} {kvs:List (List Key×V)} (e:H a=some (.dT kvs)):TyOf K H (.ref a) (.type "dict")
 | ins {a C dx:Addr} {fs:List (Str×V)} (e:H a=some (.ins C dx fs)) (cl:Cls K C) (ha:PySem.W.findIn K (.ref C) "__class__" = some (some (.builtin "object.__class__")))
   (hn:PySem.W.specialIn K (.builtin "object.__class__") "__get__" = some (some (.builtin "getset_descriptor.__get__"))) (htk:PySem.W.takesIn K (.builtin "object.__class__")=some true)
   (hm:PySem.W.mroIn K C (.type "object")=some true):TyOf K H (.ref a) (.ref C)
end
end L2
namespace L2
open PySem PySem.Spec PyProof.Rows
structure Room(k:Nat)(A:Around):Prop where
 hd:A.handled=none
 dp:A.depth+3*k+5<recursionLimit
 un:A.units+16*k+200<cLine
theorem Room.deeper{k:Nat}{A:Around}(r:Room (k+1) A)(env:Env):Room k (A.deeper env):=
 ⟨r.hd,by have:=r.dp;show A.depth+1+3*k+5<_;lia,by have:=r.un;show A.units+3+16*k+200<_;lia⟩
theorem Room.depth{k:Nat}{A:Around}(r:Room k A):A.depth<recursionLimit:=by have:=r.dp;lia
theorem Room.units{k:Nat}{A:Around}(r:Room k A):A.units+64<cLine:=by have:=r.un;lia
noncomputable def tNil:TA:=fun _ H Q=>Q [] H
noncomputable def tCons(ta:TE)(tr:TA):TA:=fun σ H Q=>ta σ H fun x H1=>tr σ H1 fun xs H2=>Q (x::xs) H2
section
variable{X:Cx}{e:Expr}{es:List Expr}{te:TE}{t:TA}{pos:Pos}
theorem HD:PA X [] tNil:=fun _ _ _ _ H Q I h=>Calls.spliced_nil ⟨[],H,I,.nil,h⟩
theorem FJ(ha:PE X e te)(hr:PA X es t)(hs:starEach (e::es) X.env=(false,eval e X.env)::starEach es X.env:=by rfl):PA X (e::es) (tCons te t):=by
 intro pos pins s σ H Q I h
 rw[hs]
 show wpAny _ _ (spliced ((false,eval e X.env)::backTo pos (starEach es X.env))) _ _ s
 refine Calls.spliced_cons (thn (ha pins s σ H _ I h) fun u s1 hq0=>?_)
 obtain⟨x,H1,I1,r1,q1⟩:=hq0
 exact thn (hr pos pins s1 σ H1 _ I1 q1) fun us s2 ⟨xs,H2,I2,r2,q2⟩=>⟨x::xs,H2,I2,.cons r1 r2,q2⟩
noncomputable def tLst(t:TA):TE:=fun σ H Q=>t σ H fun xs H1=>xs.length≤sizeLine∧∀p,H1 p=none→Q (.ref p) (upd H1 p (.lst xs))
theorem vJ(h:PA X es t):PE X (.List es pos) (tLst t):=by
 intro pins s σ H Q I hq
 refine wpAny_List_spliced (thn (h pos pins s σ H _ I hq) fun us s1 ⟨xs,H1,I1,r,z,q⟩=>⟨by rw[←r.length];exact z,?_⟩)
 have hf:H1 s1.heap.objs.size=none:=I1.hok.fresh (Nat.le_refl _)
 refine⟨.ref s1.heap.objs.size,upd H1 s1.heap.objs.size (.lst xs),I1.laid (t':=s1.toks) (fun b u e=>Heap.get?_push_of_some _ e) (Nat.le_refl _) ?_,rfl,q _ hf⟩
 exact⟨z,us,0,r,Heap.get?_push_size _ rfl⟩
end
noncomputable abbrev Sp:=List V→Hp→VK→XK→Prop
noncomputable abbrev CXT:=List Env→Hp→Shared→XK→Value→Shared→Prop
structure Env0(P:Program)(w:World)(K:PySem.W.Frag)(mg:Str→Option Value)(base:Heap)(A:Around)(outer:List Env)(s:Shared)(H:Hp):Prop where
 frames:A.frames=some outer
 mod:Mod K mg base
 bs:∀b o,base.get? b=some o→s.heap.get? b=some o∧H b=none
 bsz:base.objs.size≤s.heap.objs.size
 funs:s.heap.FunFrames base outer
 frf:∀b∈frs outer,H b=none
 hok:HOk P w H s.heap
 bare:AllBare s.gens
def CE(outer:List Env)(P:Program)(w:World)(H:Hp)(s:Shared)(Q:VK)(u:Value)(s':Shared):Prop:=
 ∃v H',s'.os=s.os∧AllBare s'.gens∧Un (frs outer) [] H H' s.heap s'.heap∧HOk P w H' s'.heap∧RelV v u∧Q v H'
def CR(CX:CXT)(outer:List Env)(P:Program)(w:World)(H:Hp)(s:Shared)(Q:VK)(E:XK)(r:Result)(s':Shared):Prop:=
 match r with
 | .ok (.ret u)=>CE outer P w H s Q u s'
 | .ok _=>False
 | .error e=>CX outer H s E e s'
structure FnOk(P:Program)(w:World)(K:PySem.W.Frag)(mg:Str→Option Value)(base:Heap)(CX:CXT)(k:Nat)(f:Addr)(fd:FuncData)(ps:List Str)(sp:Sp):Prop where
 len:∀vs H Q E,sp vs H Q E→vs.length=ps.length
 run:∀(A:Around) (outer:List Env) (s:Shared) (H:Hp) (args:Args) (us:List Value) (vs:List V) (Q:VK) (E:XK),Room k A→Env0 P w K mg base A outer s H→BindsTo s fd args (ps.zip us)→Vals vs us→sp vs H Q E→
  codeAny (model P w) A (.call (.ref f) args) (CR CX outer P w H s Q E) s
theorem FnOk.imp{P:Program}{w:World}{K:PySem.W.Frag}{mg:Str→Option Value}{base:Heap}{CX:CXT}{k:Nat}{f:Addr}{fd:FuncData}{ps:List Str}{sp sp':Sp}(F:FnOk P w K mg base CX k f fd ps sp)
  (h:∀vs H Q E,sp' vs H Q E→sp vs H Q E):FnOk P w K mg base CX k f fd ps sp':=
 ⟨fun vs H Q E q=>F.len vs H Q E (h _ _ _ _ q),fun A outer s H args us vs Q E hr he hb hv hs=>F.run A outer s H args us vs Q E hr he hb hv (h _ _ _ _ hs)⟩
section
variable{X:Cx}{pins:List (Addr×Obj)}{σ:St}{H:Hp}{s s':Shared}
theorem Inv.env0(I:Inv X pins σ H s):Env0 X.prog X.w X.K X.mg X.base X.A X.stack s H:=
 ⟨I.ok.frames,I.ok.mod,I.bs,Nat.le_trans I.ok.bsz I.sz,I.stack,I.stkFree,I.hok,I.bare⟩
theorem Inv.after{Q:VK}{u:Value}(I:Inv X pins σ H s)(h:CE X.stack X.prog X.w H s Q u s'):EP X pins σ Q u s':=by
 obtain⟨v,H',os,bare,un,hok,r,q⟩:=h
 obtain⟨hh,g,d,t,os'⟩:=s'
 obtain rfl:os'=s.os:=os
 exact⟨v,H',I.call (h':=hh) (g':=g) (d':=d) (t':=t) (ch:=[]) un hok bare (fun b z=>absurd z (by simp)),r,q⟩
end
noncomputable def tCall(sp:Sp)(dvs:List V)(E:XK)(t:TA):TE:=fun σ H Q=>t σ H fun vs H1=>sp (vs++dvs) H1 Q E
def Binds(K:PySem.W.Frag)(fd:FuncData)(ps:List Str)(ds:List Value):Prop:=
 ∀(s:Shared) (us:List Value),K.In s.heap→(us++ds).length=ps.length→BindsTo s fd ⟨us,[]⟩ (ps.zip (us++ds))
theorem Binds.all{K:PySem.W.Frag}{fd:FuncData}{ps:List Str}(h:∀us:List Value,us.length=ps.length→bindArgs fd ⟨us,[]⟩=pure (ps.zip us)):Binds K fd ps []:=fun s us _ hl=>by
 rw[List.append_nil]at hl ⊢
 exact .of_eq (h us hl)
def Passes(CX:CXT)(X:Cx)(E:XK):Prop:=∀(pins:List (Addr×Obj)) (σ:St) (H:Hp) (s:Shared) (e:Value) (s':Shared),Inv X pins σ H s→CX X.stack H s E e s'→X.xe e s'
section
variable{X:Cx}{CX:CXT}{k:Nat}{f C:Addr}{fd:FuncData}{ps:List Str}{sp:Sp}{dvs:List V}{ds:List Value}{E:XK}{x m:Str}{p pos apos:Pos}{e o:Expr}{es:List Expr}{ta:TE}{t:TA}
theorem uW{pins:List (Addr×Obj)}{σ:St}{H:Hp}{s:Shared}{Q:VK}{us:List Value}{vs:List V}(F:FnOk X.prog X.w X.K X.mg X.base CX k f fd ps sp)(hr:Room k X.A)(hb:Binds X.K fd ps ds)(hd:Vals dvs ds)(hx:Passes CX X E)
  (I:Inv X pins σ H s) (r:Vals vs us) (h:sp (vs++dvs) H Q E):wpAny (model X.prog X.w) X.A (call (.ref f) us) (EP X pins σ Q) X.xe s:=by
 have r2:Vals (vs++dvs) (us++ds):=r.append hd
 have hl:(us++ds).length=ps.length:=by rw[←r2.length];exact F.len _ _ _ _ h
 refine wpAny_call (codeAny_mono (F.run X.A X.stack s H ⟨us,[]⟩ (us++ds) (vs++dvs) Q E hr I.env0 (hb s us I.kIn hl) r2 h) fun r s' hq=>?_)
 cases r with
 | error e=>exact hx pins σ H s e s' I hq
 | ok fl=>
  cases fl with
  | ret u=>exact I.after hq
  | next=>exact False.elim hq
  | brk=>exact False.elim hq
  | cont=>exact False.elim hq
theorem qH(F:FnOk X.prog X.w X.K X.mg X.base CX k f fd ps sp)(hr:Room k X.A)(hg:Gl X x)(hm:X.mg x=some (.ref f))(hk:PySem.W.keepIn X.K (.ref f)=true)(hb:Binds X.K fd ps ds)(hd:Vals dvs ds)(hx:Passes CX X E)
  (ha:PA X (e::es) t) (hdb:(x==("__debug__" : Str))=false:=by decide) (he:starEach (e::es) X.env=(false,eval e X.env)::starEach es X.env:=by rfl) (hpl:(backTo pos (starEach es X.env)).any (·.1)=false:=by rfl) :
  PE X (.Call (.Name x p) (e::es) [] pos) (tCall sp dvs E t):=by
 intro pins s σ H Q I h
 refine wpAny_Call_Name_kw (cQ I hg hm ?_ hdb)
 refine PySem.W.callWith_K (h₀:=X.base) I.ok.mod.kin hk (thn (ha pos pins s σ H _ I h) fun us s1 ⟨vs,H1,I1,r,q⟩=>⟨I1.kIn,?_⟩) he hpl
 exact uW F hr hb hd hx I1 r q
end
section
variable{X:Cx}{CX:CXT}{k:Nat}{f C:Addr}{fd:FuncData}{ps ks:List Str}{sp:Sp}{E:XK}{x m:Str}{p pos apos kpos:Pos}{e o:Expr}{es:List Expr}{kws:List Keyword}{te ta:TE}{t tk:TA}{nm:Option Str}
variable{g:List Value→List Value→List Value}{gV:List V→List V→List V}
end
structure FnScope(N P:List Str)(sc:Scope):Prop where
 kind:sc.kind=.function
 co:sc.isCoroutine=false
 gen:sc.isGenerator=false
 nd:N.Nodup
 pre:N.take P.length=P
 par:∀x∈P,sc.names.lookup x=some .local∨sc.names.lookup x=some .cell
 nofree:∀y∈sc.names,y.2≠.free
theorem TV{kindOf:Str→Option NameKind}{x:Str}:∀{binds:List (Str×Value)} {m:Str→Option Value},(∀v,(x,v)∉binds)→bindL kindOf binds m x=m x
 | [],_,_=>rfl
 | (n,v)::r,m,h=>by
  unfold bindL
  rw[TV fun w hw=>h w (List.mem_cons_of_mem _ hw)]
  split
  ·have:x≠n:=by rintro rfl;exact h v List.mem_cons_self
   simp[this]
  ·rfl
theorem TY{kindOf:Str→Option NameKind}{x:Str}:∀{binds:List (Str×Value)} {m:Str→Option Value},(∀v,(x,v)∉binds)→bindC kindOf binds m x=m x
 | [],_,_=>rfl
 | (n,v)::r,m,h=>by
  unfold bindC
  rw[TY fun w hw=>h w (List.mem_cons_of_mem _ hw)]
  split
  ·rfl
  ·have:x≠n:=by rintro rfl;exact h v List.mem_cons_self
   simp[this]
theorem TX{kindOf:Str→Option NameKind}{x:Str}{v:Value}:∀{P:List Str} {vs:List Value} {i:Nat} {m:Str→Option Value},P.Nodup→P[i]?=some x→vs[i]?=some v→kindOf x=some .local→
  bindL kindOf (P.zip vs) m x=some v
 | [],_,_,_,_,h,_,_=>by simp at h
 | _::_,[],_,_,_,_,h,_=>by simp at h
 | p::P,w::vs,0,m,nd,h1,h2,hk=>by
  simp at h1 h2;subst h1;subst h2
  show bindL kindOf ((p,w)::P.zip vs) m p=_
  unfold bindL
  rw[TV fun v hv=>(List.nodup_cons.mp nd).1 (List.of_mem_zip hv).1,if_pos hk]
  simp
 | p::P,w::vs,i+1,m,nd,h1,h2,hk=>by
  show bindL kindOf ((p,w)::P.zip vs) m x=_
  unfold bindL
  exact TX (i:=i) (List.nodup_cons.mp nd).2 (by simpa using h1) (by simpa using h2) hk
theorem U0{kindOf:Str→Option NameKind}{x:Str}{v:Value}:∀{P:List Str} {vs:List Value} {i:Nat} {m:Str→Option Value},P.Nodup→P[i]?=some x→vs[i]?=some v→kindOf x≠some .local→
  bindC kindOf (P.zip vs) m x=some v
 | [],_,_,_,_,h,_,_=>by simp at h
 | _::_,[],_,_,_,_,h,_=>by simp at h
 | p::P,w::vs,0,m,nd,h1,h2,hk=>by
  simp at h1 h2;subst h1;subst h2
  show bindC kindOf ((p,w)::P.zip vs) m p=_
  unfold bindC
  rw[TY fun v hv=>(List.nodup_cons.mp nd).1 (List.of_mem_zip hv).1,if_neg hk]
  simp
 | p::P,w::vs,i+1,m,nd,h1,h2,hk=>by
  show bindC kindOf ((p,w)::P.zip vs) m x=_
  unfold bindC
  exact U0 (i:=i) (List.nodup_cons.mp nd).2 (by simpa using h1) (by simpa using h2) hk
noncomputable def start(N:List Str)(vs:List V):St:=vs.map some++List.replicate (N.length-vs.length) none
noncomputable def cxOf(CX:CXT)(P:Program)(w:World)(K:PySem.W.Frag)(mg:Str→Option Value)(base:Heap)(N:List Str)(qual:Str)(scope:Scope)(f:Addr)(cd:Value)(A:Around)(outer:List Env)(s:Shared)(H:Hp)(E:XK):Cx where
 prog:=P
 w:=w
 K:=K
 mg:=mg
 base:=base
 A:=A.deeper (envOfC qual scope s.heap.objs.size f cd)
 N:=N
 s₀:=s
 H₀:=H
 env:=envOfC qual scope s.heap.objs.size f cd
 outer:=outer
 stack:=envOfC qual scope s.heap.objs.size f cd::outer
 ex:=[]
 calm:=true
 fn:=fun _=>true
 pn:=[]
 xe:=fun e s'=>wpAny (model P w) (A.deeper (envOfC qual scope s.heap.objs.size f cd)) (leaving (envOfC qual scope s.heap.objs.size f cd) e) (fun _ s''=>CX outer H s E e s'') (fun e' s''=>CX outer H s E e' s'') s'
theorem Z6{sc:Scope}{n:Nat}{x:Str}(h:sc.names.lookup x=some .cell):∃c,(cellsFrom n sc.names []).lookup x=some c:=by
 have q:=PySem.W.cellsFrom_some sc.names n [] (.inl h)
 exact Option.isSome_iff_exists.mp q
theorem gA{CX:CXT}{P:Program}{w:World}{K:PySem.W.Frag}{mg:Str→Option Value}{base:Heap}{N ps:List Str}{qual:Str}{scope:Scope}{f:Addr}{cd:Value}{A:Around}{outer:List Env}{s s1:Shared}{H:Hp}{E:XK}{us:List Value}{vs:List V}
  (S:FnScope N ps scope) (hd:A.handled=none) (e0:Env0 P w K mg base A outer s H) (hl:vs.length=ps.length) (r:Vals vs us)
  (x:InCallC s s.heap.objs.size (bindL (envOfC qual scope s.heap.objs.size f cd).kindOf (ps.zip us) fun _=>none) (cellsFrom (s.heap.objs.size+1) scope.names []) (bindC (envOfC qual scope s.heap.objs.size f cd).kindOf (ps.zip us) fun _=>none) s1) :
  Inv (cxOf CX P w K mg base N qual scope f cd A outer s H E) [] (start N vs) H s1:=by
 have hpl:ps.length≤N.length:=by have:=congrArg List.length S.pre;rw[List.length_take]at this;lia
 obtain⟨h1,tk,rfl,hk⟩:=x.done
 have noA:∀b:Addr,b∉(cxOf CX P w K mg base N qual scope f cd A outer s H E).ex:=fun b z=>absurd (show b∈([]:List Addr) from z) (by simp)
 refine⟨⟨e0.mod,S.kind,rfl,rfl,Nat.le_refl _,fun y z c h1 h2=>?_,fun y hy=>?_,fun y c _ h=>?_,fun _=>hd,Around.frames_deeper e0.frames,.inr ⟨rfl,rfl⟩,fun b z=>absurd z (noA b),e0.bs,e0.bsz,fun b _ _=>noA b,fun b z=>absurd z (noA b),e0.funs,e0.frf⟩,
  rfl,e0.bare,Un.kept hk,⟨_,x.toInCall.ns,fun i y v h1 h2 h3=>?_⟩,fun y c h=>⟨_,x.cell y c h⟩,e0.hok.fresh (Nat.le_refl _),fun y c h=>?_,fun p hp=>absurd (show p∈([]:List (Addr×Obj)) from hp) (by simp),e0.hok.kept hk,?_⟩
 ·exact name_of_addr x.apart (PySem.mem_of_lookup h1) (PySem.mem_of_lookup h2)
 ·have hy:scope.names.lookup y=some .cell∨scope.names.lookup y=some .free:=hy
  rcases hy with hy | hy
  ·exact Z6 hy
  ·exact absurd rfl (S.nofree _ (PySem.mem_of_lookup hy))
 ·exact Nat.le_of_lt (x.above y c (PySem.mem_of_lookup h))
 ·have hi:i<vs.length:=by
   unfold start at h2
   by_cases hi:i<vs.length
   ·exact hi
   ·rw[List.getElem?_append_right (by simpa using hi)]at h2
    rw[List.getElem?_replicate]at h2
    split at h2<;>cases h2
  have ha:vs[i]?=some v:=by
   unfold start at h2
   rw[List.getElem?_append_left (by simpa using hi),List.getElem?_map]at h2
   cases e:vs[i]? with
   | none=>rw[e]at h2;cases h2
   | some a=>rw[e]at h2;cases h2;rfl
  obtain⟨u,hu,rv⟩:=r.get ha
  have hp:ps[i]?=some y:=by
   rw[←S.pre,List.getElem?_take_of_lt (by lia)];exact h1
  have ndP:ps.Nodup:=by rw[←S.pre];exact S.nd.sublist (List.take_sublist _ _)
  refine⟨u,rv,?_⟩
  rcases S.par y (List.mem_of_getElem? hp) with k | k
  ·exact .inl ⟨k,TX ndP hp hu k⟩
  ·obtain⟨c,e⟩:=Z6 (n:=s.heap.objs.size+1) k
   refine .inr ⟨.inl k,c,e,?_⟩
   have q:=x.cell y c e
   rw[U0 ndP hp hu (by show scope.names.lookup y≠_;rw[k];decide)]at q
   exact q
 ·exact e0.hok.fresh (Nat.le_of_lt (x.above y c (PySem.mem_of_lookup h)))
 ·unfold start
  show _=N.length
  rw[List.length_append,List.length_map,List.length_replicate]
  lia
theorem yP{CX:CXT}{P:Program}{w:World}{K:PySem.W.Frag}{mg:Str→Option Value}{base:Heap}{k:Nat}{f:Addr}{name qual:Str}{params:Arguments}{body:List Stmt}{scope:Scope}{dV kV doc pm cdv ct oc:Value}{an od:Option Addr}
  {osl:Array (Option Value)} {N ps:List Str} {sp:Sp} (lk:K.lookup f=some ⟨oc,od,.func (PySem.W.fnOf name qual params body scope dV kV doc pm an cdv ct),osl⟩) (hcd:PySem.W.codeIn K cdv qual=true) (S:FnScope N ps scope)
  (len:∀vs H Q E,sp vs H Q E→vs.length=ps.length)
  (hbody:∀(A:Around) (outer:List Env) (s:Shared) (H:Hp) (vs:List V) (Q:VK) (E:XK),Room k (A.deeper (envOfC qual scope s.heap.objs.size f cdv))→sp vs H Q E→
   ∃t,PSs (cxOf CX P w K mg base N qual scope f cdv A outer s H E) body t∧t { nx:=fun _ H'=>Q .non H',rt:=Q } (start N vs) H) :
  FnOk P w K mg base CX (k+1) f (PySem.W.fnOf name qual params body scope dV kV doc pm an cdv ct) ps sp:=by
 refine⟨len,fun A outer s H args us vs Q E hr e0 hb r hsp=>?_⟩
 have hl:=len _ _ _ _ hsp
 have KX:K.In s.heap:=e0.mod.kin.keeps fun b o e=>(e0.bs b o e).1
 have lim:s.heap.NoLimit:=e0.mod.nolimit.keeps fun b o e=>(e0.bs b o e).1
 have hkind:∀y∈ps.zip us,scope.names.lookup y.1=some .local∨(scope.names.lookup y.1=some .cell∧((cellsFrom (s.heap.objs.size+1) scope.names []).lookup y.1).isSome=true):=fun⟨n,v⟩ hy=>by
  rcases S.par n (List.of_mem_zip hy).1 with q | q
  ·exact .inl q
  ·exact .inr ⟨q,PySem.W.cellsFrom_some _ _ _ (.inl q)⟩
 refine codeAny_call_function hr.depth (KX _ _ lk) rfl S.co S.gen rfl (PySem.W.codeRec_of KX hcd) (hb _ _ _ _ ?_)
 refine wpAny_newFunctionEnv_cells S.kind hkind fun env he s1 x=>?_
 subst he
 refine⟨lim.keeps x.toInCall.keep,codeAny_func ?_⟩
 obtain⟨t,ht,hq⟩:=hbody A outer s H vs Q E (hr.deeper _) hsp
 have I:Inv (cxOf CX P w K mg base N qual scope f cdv A outer s H E) [] (start N vs) H s1:=gA S hr.hd e0 hl r x
 refine wpAny_mono (ht [] s1 (start N vs) H _ I hq) (fun fl s' hs=>?_) fun e s' hs=>hs
 have fin:∀{σ':St} {H':Hp} {v:V} {u:Value},Inv (cxOf CX P w K mg base N qual scope f cdv A outer s H E) [] σ' H' s'→RelV v u→Q v H'→CE outer P w H s Q u s':=
  fun {σ' H' v u} J rv q=>⟨v,H',J.os,J.bare,J.base,J.hok,rv,q⟩
 cases fl with
 | ret u=>
  obtain⟨v,σ',H',J,rv,q⟩:=hs
  exact fin J rv q
 | next=>
  obtain⟨σ',H',J,q⟩:=hs
  exact fin (v:=V.non) (u:=Value.none) J rfl q
 | brk=>
  obtain⟨_,_,_,q⟩:=hs
  exact False.elim q
 | cont=>
  obtain⟨_,_,_,q⟩:=hs
  exact False.elim q
end L2
namespace L2
open PySem PySem.Spec PyProof.Rows
section
variable{X:Cx}{x:Str}{p pos:Pos}{e:Expr}{es:List Expr}{t:TA}{id T:String}{r:List V→Hp→VK→Prop}
noncomputable def tCB(r:List V→Hp→VK→Prop)(t:TA):TE:=fun σ H Q=>t σ H fun vs H1=>r vs H1 Q
theorem R3(hc:CallR X (.builtin id) r)(hg:Gl X x)(hm:X.mg x=none)(hv:bootBuiltins x=some (.builtin id))(ha:PA X (e::es) t)(hn:x≠"__name__":=by decide)(hdb:(x==("__debug__" : Str))=false:=by decide)
  (he:starEach (e::es) X.env=(false,eval e X.env)::starEach es X.env:=by rfl) (hpl:(backTo pos (starEach es X.env)).any (·.1)=false:=by rfl):PE X (.Call (.Name x p) (e::es) [] pos) (tCB r t):=by
 intro pins s σ H Q I h
 refine wpAny_Call_Name_kw (JC I hg hm hv ?_ hn hdb)
 exact PyProof.Rows.callWith_builtin1 (thn (ha pos pins s σ H _ I h) fun us s1 ⟨vs,H1,I1,r1,q1⟩=>hc pins s1 σ H1 vs us Q I1 r1 q1) he hpl
theorem fL(hc:CallR X (.type T) r)(hg:Gl X x)(hm:X.mg x=none)(hv:bootBuiltins x=some (.type T))(ha:PA X (e::es) t)(hn:x≠"__name__":=by decide)(hdb:(x==("__debug__" : Str))=false:=by decide)
  (he:starEach (e::es) X.env=(false,eval e X.env)::starEach es X.env:=by rfl) (hpl:(backTo pos (starEach es X.env)).any (·.1)=false:=by rfl):PE X (.Call (.Name x p) (e::es) [] pos) (tCB r t):=by
 intro pins s σ H Q I h
 refine wpAny_Call_Name_kw (JC I hg hm hv ?_ hn hdb)
 exact PyProof.Rows.callWith_type1 (thn (ha pos pins s σ H _ I h) fun us s1 ⟨vs,H1,I1,r1,q1⟩=>hc pins s1 σ H1 vs us Q I1 r1 q1) he hpl
end
end L2
namespace HT
open PySem PyProof.Rows
section
open PySem.SeqAt
open PySem.AutoSeq1 (wpAny_loadPart')
open PySem.MeetsSeq PySem.MeetsSeq2 PySem.MeetsSeq3
end
section
variable{prog:Program}{w:World}{A:Around}{E:Value→Shared→Prop}{s:Shared}
theorem cat_tup{t b:Addr}{vs ws:List Value}{Q:Value→Shared→Prop}(ht:IsTup s.heap t vs.toArray)(hb:IsTup s.heap b ws.toArray)(hv:vs≠[])
  (h1:ws=[]→Q (.ref t) s) (h2:ws≠[]→Q (.ref s.heap.objs.size) { s with heap:=s.heap.push { cls:=.type "tuple",data:=.seq (vs++ws).toArray } })
  (hsz:vs.length+ws.length≤sizeLine):wpAny (model prog w) A (binaryOp .Add (.ref t) (.ref b)) Q E s:=by
 obtain⟨⟨cls,dd,data,sl⟩,ho,hc,n,hd⟩:=id ht
 obtain⟨⟨cls2,dd2,data2,sl2⟩,ho2,hc2,n2,hd2⟩:=id hb
 simp only at hc hd hc2 hd2
 subst hc hd hc2 hd2
 have e:vs.toArray++ws.toArray=(vs++ws).toArray:=by simp
 by_cases hw:ws=[]
 ·exact concat_meets ⟨_,ho,rfl⟩ ⟨_,ho2,rfl⟩ noFill_tuple_add seq_tuple_add PySem.F.slot_tuple_add PySem.F.entry_tuple_add (PySem.F.args_tuple_add_2 _ _)
   (tuple_addW1 t b vs.toArray ws.toArray n n2 dd dd2 sl sl2 (by simpa using hv) (by simp[hw])) ⟨ho,ho2,h1 hw⟩
 ·refine concat_meets ⟨_,ho,rfl⟩ ⟨_,ho2,rfl⟩ noFill_tuple_add seq_tuple_add PySem.F.slot_tuple_add PySem.F.entry_tuple_add (PySem.F.args_tuple_add_2 _ _)
   (tuple_addW2 t b vs.toArray ws.toArray n n2 dd dd2 sl sl2 (by simpa using hv) (by simpa using hw) (by rw[List.size_toArray,List.size_toArray];exact hsz)) ⟨ho,ho2,?_⟩
  rw[e]
  exact h2 hw
noncomputable def sIx(n d:Nat):Option Int→Nat
 | none=>d
 | some v=>if v<0 then (v+(n:Int)).toNat else min v.toNat n
theorem sIx_nat(n d k:Nat):sIx n d (some (k:Int))=min k n:=by
 show (if (k:Int)<0 then ((k:Int)+(n:Int)).toNat else min (k:Int).toNat n)=min k n
 rw[if_neg (by lia),Int.toNat_natCast]
theorem uU(n d:Nat)(hd:d≤n)(o:Option Int):sIx n d o≤n:=by
 cases o with
 | none=>exact hd
 | some v=>
  show (if v<0 then (v+(n:Int)).toNat else min v.toNat n)≤n
  by_cases hv:v<0
  ·rw[if_pos hv];lia
  ·rw[if_neg hv];exact Nat.min_le_right _ _
theorem dH(v:Int)(n d:Nat):(if v<0 then max (v+(n:Int)) 0 else min v (n:Int))=((sIx n d (some v):Nat):Int):=by
 show (if v<0 then max (v+(n:Int)) 0 else min v (n:Int))=(((if v<0 then (v+(n:Int)).toNat else min v.toNat n):Nat):Int)
 by_cases hv:v<0
 ·simp only[if_pos hv];lia
 ·simp only[if_neg hv];lia
theorem bJ(lo hi:Option Int)(n:Nat):Builtin.Slice.sliceAdjust lo hi 1 (n:Int)=(((sIx n 0 lo:Nat):Int),((sIx n n hi:Nat):Int)):=by
 have h1:¬((1:Int)<0):=by lia
 unfold Builtin.Slice.sliceAdjust
 simp only[h1,if_false]
 refine Prod.ext ?_ ?_
 ·cases lo with
  | none=>rfl
  | some v=>exact dH v n 0
 ·cases hi with
  | none=>rfl
  | some v=>exact dH v n n
theorem aP(i j:Nat):Builtin.Slice.slicePlaces (i:Int) (j:Int) 1=j-i:=by
 unfold Builtin.Slice.slicePlaces
 have h1:(1:Int) > 0:=by lia
 simp only[h1,if_true,Int.ediv_one]
 split<;>lia
theorem QV{v:Value}{o:Option Int}{Q:Option Int→Shared→Prop}(p:IsPart v o)(h:Q o s):wpAny (model prog w) A (Builtin.Slice.slicePartIndex v) Q E s:=by
 cases p with
 | none=>exact slicePart_none h
 | int i t=>exact slicePart_int h
theorem sliceApplied_gen{sl:Addr}{vl vu:Value}{lo hi:Option Int}{n:Nat}{Q:Int×Int×Nat→Shared→Prop}(hs:s.heap.IsSliceOf sl vl vu .none)(pl:IsPart vl lo)(pu:IsPart vu hi)
  (h:Q (((sIx n 0 lo:Nat):Int),1,sIx n n hi-sIx n 0 lo) s):wpAny (model prog w) A (Builtin.Slice.sliceApplied (.ref sl) (pure (n:Int))) Q E s:=by
 obtain⟨os,hos,hcs,hds⟩:=id hs
 unfold Builtin.Slice.sliceApplied Builtin.Slice.sliceFields
 refine wpAny_bind (wpAny_bind (wpAny_field hos hds (x:=vl) rfl (wpAny_bind (wpAny_field hos hds (x:=vu) rfl (wpAny_bind (wpAny_field hos hds (x:=.none) rfl (wpAny_pure ?_)))))))
 refine wpAny_bind (slicePart_none ?_)
 show wpAny _ _ (if ((1:Int)==0)=true then _ else _) _ _ s
 rw[if_neg (by decide)]
 refine wpAny_bind (QV pl (wpAny_bind (QV pu (wpAny_bind (wpAny_pure ?_)))))
 show wpAny _ _ (match Builtin.Slice.sliceAdjust lo hi 1 (n:Int) with | (lo,hi)=>pure (lo,(1:Int),Builtin.Slice.slicePlaces lo hi 1)) _ _ s
 rw[bJ lo hi n]
 show wpAny _ _ (pure (((sIx n 0 lo:Nat):Int),(1:Int),Builtin.Slice.slicePlaces ((sIx n 0 lo:Nat):Int) ((sIx n n hi:Nat):Int) 1)) _ _ s
 rw[aP]
 exact wpAny_pure h
theorem jB(xs:Array Value)(i k:Nat):((List.range k).filterMap fun(m:Nat)=>xs[((i:Int)+(m:Int)*1).toNat]?).toArray=((xs.toList.drop i).take k).toArray:=by
 have e:(fun(m:Nat)=>xs[((i:Int)+(m:Int)*1).toNat]?)=fun m=>xs[i+m]?:=by
  funext m
  have:((i:Int)+(m:Int)*1).toNat=i+m:=by lia
  rw[this]
 rw[e]
 have:=pick_run xs i k
 rw[List.filterMap_map]at this
 have e2:((fun x=>xs[x]?)∘fun x=>i+x)=fun m=>xs[i+m]?:=rfl
 rw[e2]at this
 rw[this]
theorem getItem_tuple_cut{t sl:Addr}{items:Array Value}{vl vu:Value}{lo hi:Option Int}{Q:Value→Shared→Prop}(ht:IsTup s.heap t items)(hs:s.heap.IsSliceOf sl vl vu .none)(pl:IsPart vl lo)(pu:IsPart vu hi)
  (hw:¬(sIx items.size 0 lo=0∧sIx items.size items.size hi=items.size))
  (h:Q (.ref s.heap.objs.size) { s with heap:=s.heap.push { cls:=.type "tuple",data:=.seq ((items.toList.drop (sIx items.size 0 lo)).take (sIx items.size items.size hi-sIx items.size 0 lo)).toArray } })
  (hsz:items.size≤sizeLine):wpAny (model prog w) A (getItem (.ref t) (.ref sl)) Q E s:=by
 have htake:sizeOk (.seq ((items.toList.drop (sIx items.size 0 lo)).take (sIx items.size items.size hi-sIx items.size 0 lo)).toArray):=by
  show ((items.toList.drop (sIx items.size 0 lo)).take (sIx items.size items.size hi-sIx items.size 0 lo)).toArray.size≤sizeLine
  rw[List.size_toArray,List.length_take,List.length_drop,Array.length_toList]
  omega
 have hj:sIx items.size items.size hi≤items.size:=uU _ _ (Nat.le_refl _) hi
 obtain⟨os,hos,hcs,hds⟩:=id hs
 have hTs:s.TypeIs (.ref sl) "slice":=⟨os,hos,hcs⟩
 unfold getItem
 try with_reducible refine wpAny_holding ?_
 first | refine wpAny_bind (wpAny_pure ?_) | skip
 refine wpAny_bind (wpAny_sequenceKey ht.typeIs (by decide) ?_)
 refine wpAny_bind (wpAny_callSpecial?_slot (name:=Str.ofString "__getitem__") ht.typeIs PyProof.Rows.slot_tuple_getitem
  (wpAny_call_entry PyProof.Rows.slot_tuple_getitem ht.typeIs entry_tuple_getitem ?_ (args_tuple_getitem _ _)))
 show wpAny _ _ (Builtin.Tuple.tupleItemsOf (.ref t) >>= _) _ _ s
 refine wpAny_bind (tupleItemsOf_ ht ?_)
 refine wpAny_bind (wpAny_typeOf hTs ?_)
 rw[if_pos (by decide)]
 refine wpAny_bind (sliceApplied_gen hs pl pu ?_)
 have hno:¬((((sIx items.size 0 lo:Nat):Int)==0&&(1:Int)==1&&(sIx items.size items.size hi-sIx items.size 0 lo)==items.size)=true):=by
  intro q
  rw[Bool.and_eq_true,Bool.and_eq_true]at q
  have q1:((sIx items.size 0 lo:Nat):Int)=0:=eq_of_beq q.1.1
  have q2:sIx items.size items.size hi-sIx items.size 0 lo=items.size:=eq_of_beq q.2
  exact hw ⟨by omega,by omega⟩
 show wpAny _ _ (if (((sIx items.size 0 lo:Nat):Int)==0&&(1:Int)==1&&(sIx items.size items.size hi-sIx items.size 0 lo)==items.size)=true then _ else _) _ _ s
 rw[if_neg hno,jB]
 first
  | exact wpAny_bind (m:=Builtin.Tuple.tupleExact _) (wpAny_newObj_type (wpAny_pure ⟨_,rfl,wpAny_pure h⟩) htake)
  | exact wpAny_bind (m:=Builtin.Tuple.tupleExact _) (wpAny_newObj_type (wpAny_bind (wpAny_pure (wpAny_pure ⟨_,rfl,wpAny_pure h⟩))) htake)
  | exact wpAny_bind (wpAny_bind (m:=Builtin.Tuple.tupleExact _) (wpAny_newObj_type (wpAny_pure (wpAny_pure ⟨_,rfl,wpAny_pure h⟩)) htake))
  | exact wpAny_bind (wpAny_bind (m:=Builtin.Tuple.tupleExact _) (wpAny_newObj_type (wpAny_pure ⟨_,rfl,wpAny_pure h⟩) htake))
end
end HT
namespace L2
open PySem PySem.Spec PyProof.Rows
noncomputable abbrev TO:=St→Hp→(Option Int→Hp→Prop)→Prop
def PO(X:Cx)(e:Option Expr)(t:TO):Prop:=
 ∀(pins:List (Addr×Obj)) (s:Shared) (σ:St) (H:Hp) (Q:Option Int→Hp→Prop),Inv X pins σ H s→t σ H Q→
  wpAny (model X.prog X.w) X.A (evalPart e X.env) (fun u s'=>∃o H',Inv X pins σ H' s'∧IsPart u o∧Q o H') X.xe s
noncomputable def tNoPart:TO:=fun _ H Q=>Q none H
noncomputable def tPart(t:TE):TO:=fun σ H Q=>t σ H fun x H1=>∃i,x=.int i∧Q (some i) H1
theorem intsAre_of{ns:List Int}:∀{us:List Value},Vals (ns.map V.int) us→IntsAre us ns:=by
 induction ns with
 | nil=>intro us r;rw[List.map_nil]at r;cases r;exact .nil
 | cons n ns ih=>
  intro us r
  rw[List.map_cons]at r
  cases r with
  | cons r1 r2=>
   obtain⟨t,e⟩:=r1
   subst e
   exact .cons n t (ih r2)
section
variable{X:Cx}{e:Expr}{te:TE}{lo hi:Option Expr}{tl th:TO}{pos p2:Pos}
theorem pU:PO X none tNoPart:=by
 intro pins s σ H Q I h
 rw[evalPart_none]
 exact wpAny_pure ⟨none,H,I,.none,h⟩
theorem pR(h:PE X e te):PO X (some e) (tPart te):=by
 intro pins s σ H Q I hw
 rw[evalPart_some]
 refine thn (h pins s σ H _ I hw) fun u s1 hq0=>?_
 obtain⟨x,H1,I1,r1,q1⟩:=hq0
 obtain⟨i,rfl,q⟩:=q1
 obtain⟨t,rfl⟩:=r1
 exact⟨some i,H1,I1,.int i t,q⟩
def SlR(X:Cx)(r:V→Option Int→Option Int→Hp→VK→Prop):Prop:=
 ∀(pins:List (Addr×Obj)) (s:Shared) (σ:St) (H:Hp) (x:V) (v vl vu:Value) (lo hi:Option Int) (sl:Addr) (Q:VK),Inv X pins σ H s→RelV x v→s.heap.IsSliceOf sl vl vu .none→IsPart vl lo→IsPart vu hi→r x lo hi H Q→
  ∃T id,typeLookup (.type T) "__getitem__" = pure (some (.builtin id))∧s.TypeIs v T∧wpAny (model X.prog X.w) X.A (getItem v (.ref sl)) (EP X pins σ Q) X.xe s
theorem SlR.or{r r':V→Option Int→Option Int→Hp→VK→Prop}(h:SlR X r)(h':SlR X r'):SlR X (fun x lo hi H Q=>r x lo hi H Q∨r' x lo hi H Q):=by
 intro pins s σ H x v vl vu lo hi sl Q I rx hs pl pu q
 rcases q with q | q
 ·exact h pins s σ H x v vl vu lo hi sl Q I rx hs pl pu q
 ·exact h' pins s σ H x v vl vu lo hi sl Q I rx hs pl pu q
noncomputable def tSl(r:V→Option Int→Option Int→Hp→VK→Prop)(te:TE)(tl th:TO):TE:=fun σ H Q=>te σ H fun x H1=>tl σ H1 fun l H2=>th σ H2 fun u H3=>r x l u H3 Q
theorem jE{r:V→Option Int→Option Int→Hp→VK→Prop}(hr:SlR X r)(he:PE X e te)(hl:PO X lo tl)(hu:PO X hi th):PE X (.Subscript e (.Slice lo hi none p2) pos) (tSl r te tl th):=by
 intro pins s σ H Q I h
 refine Subscript_ (thn (he pins s σ H _ I h) fun v s1 hq0=>?_)
 obtain⟨x,H1,I1,r1,q1⟩:=hq0
 refine wpAny_Slice (thn (hl pins s1 σ H1 _ I1 q1) fun vl s2 ⟨l,H2,I2,pl,q2⟩=>thn (hu pins s2 σ H2 _ I2 q2) fun vu s3 hq0=>?_)
 obtain⟨u,H3,I3,pu,q3⟩:=hq0
 rw[evalPart_none]
 refine wpAny_pure ?_
 have I4:Inv X pins σ H3 { s3 with heap:=s3.heap.push { cls:=.type "slice",data:=.fields #[vl,vu,.none] } }:=I3.kept (t':=s3.toks) fun b ob q=>Heap.get?_push_of_some _ q
 obtain⟨T,id,hT,ht,hg⟩:=hr pins { s3 with heap:=s3.heap.push { cls:=.type "slice",data:=.fields #[vl,vu,.none] } } σ H3 x v vl vu l u s3.heap.objs.size Q I4 r1 (Heap.IsSliceOf.new ..) pl pu q3
 show wpAny (model X.prog X.w) X.A (subscriptTail e (.Slice lo hi none p2) v (.ref s3.heap.objs.size)) (EP X pins σ Q) X.xe { s3 with heap:=s3.heap.push { cls:=.type "slice",data:=.fields #[vl,vu,.none] } }
 exact tail_any (ops:=[.ref s3.heap.objs.size,v]) ht hT hg (by with_unfolding_all rfl)
noncomputable def cutV(xs:List V)(lo hi:Option Int):List V:=(xs.drop (HT.sIx xs.length 0 lo)).take (HT.sIx xs.length xs.length hi-HT.sIx xs.length 0 lo)
theorem Q5(xs:List V)(lo hi:Option Int):(cutV xs lo hi).length≤xs.length:=by
 unfold cutV
 rw[List.length_take,List.length_drop]
 lia
theorem Vals.nil_iff{xs:List V}{us:List Value}(r:Vals xs us):us=[]↔xs=[]:=by
 cases r with
 | nil=>simp
 | cons _ _=>simp
theorem Z8:CallR X (.type "tuple") (fun xs H Q=>∃a ys,xs=[.ref a]∧SqT X.K H a ys∧Q (.ref a) H):=by
 intro pins s σ H xs us Q I r h
 obtain⟨a,ys,rfl,ha,q⟩:=h
 obtain⟨u,rfl,ru⟩:=vals1 r
 cases ru
 obtain⟨its,_,p1,_⟩:=I.tuple ha
 exact call_tuple_same (items:=its.toArray) p1 ⟨.ref a,H,I,rfl,q⟩
end
end L2
namespace L2
open PySem PySem.Spec PyProof.Rows
noncomputable def ixN(n:Nat)(i:Int):Option Nat:=if 0≤i then (if i<n then some i.toNat else none) else if -(n:Int)≤i then some (i+n).toNat else none
noncomputable def atI{α:Type}(xs:List α)(i:Int):Option α:=(ixN xs.length i).bind fun j=>xs[j]?
theorem rH{n:Nat}{i:Int}{j:Nat}(h:ixN n i=some j):seqIndex? i n=some j∧j<n∧-(n:Int)≤i∧i<n:=by
 unfold ixN at h
 by_cases h0:0≤i
 ·rw[if_pos h0]at h
  by_cases h1:i<n
  ·rw[if_pos h1]at h
   have e:i.toNat=j:=Option.some.inj h
   exact⟨by rw[seqIndex_of h0 h1,e],by lia,by lia,h1⟩
  ·rw[if_neg h1]at h;cases h
 ·rw[if_neg h0]at h
  by_cases h1:-(n:Int)≤i
  ·rw[if_pos h1]at h
   have e:(i+n).toNat=j:=Option.some.inj h
   exact⟨by rw[seqIndex_neg (by lia) h1,e],by lia,h1,by lia⟩
  ·rw[if_neg h1]at h;cases h
theorem WR{α:Type}{xs:List α}{i:Int}{v:α}(h:atI xs i=some v):∃j,seqIndex? i xs.length=some j∧xs[j]?=some v∧j<xs.length∧-(xs.length:Int)≤i∧i<xs.length:=by
 unfold atI at h
 cases e:ixN xs.length i with
 | none=>rw[e]at h;cases h
 | some j=>
  rw[e]at h
  obtain⟨h1,h2,h3,h4⟩:=rH e
  exact⟨j,h1,h,h2,h3,h4⟩
def PlainIx(b:Expr):Prop:=∀o i,subscripted b false o i=operate [o,i] (getItem o i)
def IxR(X:Cx)(r:R2):Prop:=
 ∀(value slice:Expr) (pins:List (Addr×Obj)) (s:Shared) (σ:St) (H:Hp) (x y:V) (v u:Value) (Q:VK),Inv X pins σ H s→RelV x v→RelV y u→r x y H Q→
  subscripted slice false v u=operate [v,u] (getItem v u)→wpAny (model X.prog X.w) X.A (subscriptTail value slice v u) (EP X pins σ Q) X.xe s
def MtR(X:Cx)(id:String)(r:V→List V→Hp→VK→Prop):Prop:=
 ∀(pins:List (Addr×Obj)) (s:Shared) (σ:St) (H:Hp) (x:V) (xs:List V) (v:Value) (us:List Value) (Q:VK),Inv X pins σ H s→RelV x v→Vals xs us→r x xs H Q→
  wpAny (model X.prog X.w) X.A (call (.builtin id) (v::us)) (EP X pins σ Q) X.xe s
section
variable{X:Cx}{a b:Expr}{ta tb:TE}{pos:Pos}
theorem IxR.or{r r':R2}(h:IxR X r)(h':IxR X r'):IxR X (fun x y H Q=>r x y H Q∨r' x y H Q):=by
 intro value slice pins s σ H x y v u Q I rx ry q hs
 rcases q with q | q
 ·exact h value slice pins s σ H x y v u Q I rx ry q hs
 ·exact h' value slice pins s σ H x y v u Q I rx ry q hs
theorem xX{r:R2}(hr:IxR X r)(ha:PE X a ta)(hb:PE X b tb)(hs:PlainIx b):PE X (.Subscript a b pos) (tOp r ta tb):=by
 intro pins s σ H Q I h
 exact Subscript_ (wU ha hb I h fun v u s2 x y H2 I2 rx ry q=>hr a b pins s2 σ H2 x y v u Q I2 rx ry q (hs _ _))
noncomputable def rIxL(K:PySem.W.Frag):R2:=fun x y H Q=>∃p xs i v,x=.ref p∧y=.int i∧SqL K H p xs∧atI xs i=some v∧Q v H
noncomputable def rIxT(K:PySem.W.Frag):R2:=fun x y H Q=>∃p xs i v,x=.ref p∧y=.int i∧SqT K H p xs∧atI xs i=some v∧Q v H
noncomputable def rIxS:R2:=fun x y H Q=>∃z i c,x=.str z∧y=.int i∧z.length≤sizeLine∧atI z.cps.toList i=some c∧Q (.str ⟨#[c]⟩) H
theorem ix_list:IxR X (rIxL X.K):=by
 intro value slice pins s σ H x y v u Q I rx ry h hs
 obtain⟨p,xs,i,z,rfl,rfl,hq,he,q⟩:=h
 cases rx
 obtain⟨t,rfl⟩:=ry
 obtain⟨its,r,pl,hz⟩:=I.list hq
 obtain⟨j,h1,h2,h3,h4,h5⟩:=WR he
 obtain⟨w,ew,rw'⟩:=r.get h2
 have hl:=r.length
 have hn:=R6
 have fin:EP X pins σ Q w s:=⟨z,H,I,rw',q⟩
 by_cases h0:0≤i
 ·have hj:i.toNat=j:=by
   rw[seqIndex_of h0 h5]at h1
   exact Option.some.inj h1
  exact item_listR pl.isList h0 (by lia) (by rw[hj];simpa using ew) fin hs
 ·have hj:(i+(its.toArray.size:Int)).toNat=j:=by
   rw[seqIndex_neg (by lia) h4]at h1
   rw[List.size_toArray,←hl]
   exact Option.some.inj h1
  exact subscriptTail_builtinR (x:=w) pl.isList.typeIs slot_list_getitem.lookup
   (wpAny_getItem_list_neg (Q:=fun r s'=>r=w∧EP X pins σ Q r s') pl.isList (by lia) (by rw[List.size_toArray]<;>lia) (by lia) (by rw[hj];simpa using ew) ⟨rfl,fin⟩) hs
theorem ix_tup:IxR X (rIxT X.K):=by
 intro value slice pins s σ H x y v u Q I rx ry h hs
 obtain⟨p,xs,i,z,rfl,rfl,hq,he,q⟩:=h
 cases rx
 obtain⟨t,rfl⟩:=ry
 obtain⟨its,r,pl,hz⟩:=I.tuple hq
 obtain⟨j,h1,h2,h3,h4,h5⟩:=WR he
 obtain⟨w,ew,rw'⟩:=r.get h2
 have hl:=r.length
 have hn:=R6
 have fin:EP X pins σ Q w s:=⟨z,H,I,rw',q⟩
 exact subscriptTail_builtinR (x:=w) pl.typeIs slot_tuple_getitem.lookup
  (getItem_tuple (j:=j) (Q:=fun r s'=>r=w∧EP X pins σ Q r s') pl (by lia) (by lia) (by rw[List.size_toArray,←hl];exact h1) (by simpa using ew) ⟨rfl,fin⟩) hs
theorem vZ:IxR X rIxS:=by
 intro value slice pins s σ H x y v u Q I rx ry h hs
 obtain⟨z,i,c,rfl,rfl,hz,he,q⟩:=h
 obtain⟨t,rfl⟩:=rx
 obtain⟨t',rfl⟩:=ry
 obtain⟨j,h1,h2,h3,h4,h5⟩:=WR he
 have hl:z.cps.toList.length=z.length:=by simp[Str.length]
 rw[hl]at h1 h4 h5
 have hn:=R6
 exact tail_any (typeIs_str s z t) slot_str_getitem.lookup (getItem_str (c:=c) (by
  have e1:decide (i < -(2 ^ 63:Int))=false:=decide_eq_false (by lia)
  have e2:decide (i≥2 ^ 63)=false:=decide_eq_false (by lia)
  rw[e1,e2,Bool.or_false]) (by rw[h1];simpa using h2) ⟨.str ⟨#[c]⟩,H,I.tok _,⟨_,rfl⟩,q⟩) hs
noncomputable def rIx(K:PySem.W.Frag):R2:=fun x y H Q=>rIxL K x y H Q∨rIxT K x y H Q∨rIxS x y H Q
theorem w6:IxR X (rIx X.K):=ix_list.or (ix_tup.or vZ)
theorem UJ(lo hi:Option Int)(n:Nat):(sliceBounds lo hi none n).1=((HT.sIx n 0 lo:Nat):Int)∧(sliceBounds lo hi none n).2.1=((HT.sIx n n hi:Nat):Int)∧(sliceBounds lo hi none n).2.2=1:=by
 refine⟨?_,?_,rfl⟩
 ·cases lo with
  | none=>simp[sliceBounds,HT.sIx]
  | some i=>
   simp only[sliceBounds,HT.sIx,Option.getD_none,show (1:Int) > 0 by decide,if_true]
   by_cases h:i<0
   ·simp only[h,if_true]<;>lia
   ·simp only[h,if_false]<;>lia
 ·cases hi with
  | none=>simp[sliceBounds,HT.sIx]
  | some i=>
   simp only[sliceBounds,HT.sIx,Option.getD_none,show (1:Int) > 0 by decide,if_true]
   by_cases h:i<0
   ·simp only[h,if_true]<;>lia
   ·simp only[h,if_false]<;>lia
theorem RT(its:List Value)(lo hi:Option Int):slicePick its.toArray lo hi none=((its.drop (HT.sIx its.length 0 lo)).take (HT.sIx its.length its.length hi-HT.sIx its.length 0 lo)).toArray:=by
 obtain⟨h1,h2,h3⟩:=UJ lo hi its.toArray.size
 unfold slicePick
 rw[h1,h2,h3]
 simp only[sliceRange_one,pick_run,List.size_toArray]<;>rfl
def rSlL(K:PySem.W.Frag):V→Option Int→Option Int→Hp→VK→Prop:=fun x lo hi H Q=>∃a xs,x=.ref a∧SqL K H a xs∧∀p,H p=none→Q (.ref p) (upd H p (.lst (cutV xs lo hi)))
theorem sl_list:SlR X (rSlL X.K):=by
 intro pins s σ H x v vl vu lo hi sl Q I rx hs pl pu h
 obtain⟨a,xs,rfl,hx,q⟩:=h
 cases rx
 obtain⟨its,r,ht,hz⟩:=I.list hx
 have hlen:=r.length
 refine⟨"list",_,slot_list_getitem.lookup,ht.isList.typeIs,?_⟩
 refine wpAny_getItem_list_slice ht.isList hs pl pu .none (by simp) ?_ (by rw[List.size_toArray]<;>lia)
 rw[RT,←hlen]
 refine⟨.ref s.heap.objs.size,_,I.laid (t':=s.toks) (o:=.lst (cutV xs lo hi)) (fun b ob q=>Heap.get?_push_of_some _ q) (Nat.le_refl _) ?_,rfl,q _ (I.hok.fresh (Nat.le_refl _))⟩
 exact⟨Nat.le_trans (Q5 xs lo hi) hz,_,0,(r.drop (HT.sIx xs.length 0 lo)).take (HT.sIx xs.length xs.length hi-HT.sIx xs.length 0 lo),Heap.get?_push_size _ rfl⟩
noncomputable def flatV:V→Bool
 | .non=>true
 | .bl _=>true
 | .int _=>true
 | .str _=>true
 | _=>false
noncomputable def eqV:V→V→Bool
 | .non,.non=>true
 | .bl a,.bl b=>a==b
 | .bl a,.int b=>(if a then 1 else 0)==b
 | .int a,.bl b=>a==(if b then 1 else 0)
 | .int a,.int b=>a==b
 | .str a,.str b=>a==b
 | _,_=>false
theorem VR{A:Around}{s:Shared}{y x:V}{u v:Value}(ry:RelV y u)(rx:RelV x v)(fy:flatV y=true)(fx:flatV x=true):SeqAt.EqAt A s u v (eqV y x):=by
 cases y with
 | non=>
  cases ry
  cases x with
  | non=>cases rx;exact SeqAt.EqAt.same _
  | bl b=>cases rx;exact SeqAt.EqAt.none_bool b
  | int b=>obtain⟨t,rfl⟩:=rx;exact SeqAt.EqAt.none_int b t
  | str b=>obtain⟨t,rfl⟩:=rx;exact SeqAt.EqAt.none_str b t
  | _=>exact absurd (show false=true from fx) Bool.false_ne_true
 | bl a=>
  cases ry
  cases x with
  | non=>cases rx;exact SeqAt.EqAt.bool_none a
  | bl b=>cases rx;exact SeqAt.EqAt.bool_bool a b
  | int b=>obtain⟨t,rfl⟩:=rx;exact SeqAt.EqAt.bool_int a b t
  | str b=>obtain⟨t,rfl⟩:=rx;exact SeqAt.EqAt.bool_str a b t
  | _=>exact absurd (show false=true from fx) Bool.false_ne_true
 | int a=>
  obtain⟨t',rfl⟩:=ry
  cases x with
  | non=>cases rx;exact SeqAt.EqAt.int_none a t'
  | bl b=>cases rx;exact SeqAt.EqAt.int_bool a t' b
  | int b=>obtain⟨t,rfl⟩:=rx;exact SeqAt.EqAt.int_int a t' b t
  | str b=>obtain⟨t,rfl⟩:=rx;exact SeqAt.EqAt.int_str a t' b t
  | _=>exact absurd (show false=true from fx) Bool.false_ne_true
 | str a=>
  obtain⟨t',rfl⟩:=ry
  cases x with
  | non=>cases rx;exact SeqAt.EqAt.str_none a t'
  | bl b=>cases rx;exact SeqAt.EqAt.str_bool a t' b
  | int b=>obtain⟨t,rfl⟩:=rx;exact SeqAt.EqAt.str_int a t' b t
  | str b=>obtain⟨t,rfl⟩:=rx;exact SeqAt.EqAt.str_str a t' b t
  | _=>exact absurd (show false=true from fx) Bool.false_ne_true
 | _=>exact absurd (show false=true from fy) Bool.false_ne_true
noncomputable def eqU(x:V)(u:Value):Bool:=match u with
 | .none=>eqV .non x
 | .bool b=>eqV (.bl b) x
 | .int i _=>eqV (.int i) x
 | .str z _=>eqV (.str z) x
 | _=>false
theorem VP{x y:V}{u:Value}(r:RelV y u)(f:flatV y=true):eqU x u=eqV y x:=by
 cases y with
 | non=>cases r;rfl
 | bl b=>cases r;rfl
 | int i=>obtain⟨t,rfl⟩:=r;rfl
 | str z=>obtain⟨t,rfl⟩:=r;rfl
 | _=>exact absurd (show false=true from f) Bool.false_ne_true
theorem WT{x:V}{xs:List V}{us:List Value}(h:Vals xs us)(f:xs.all flatV=true):us.any (eqU x)=xs.any fun y=>eqV y x:=by
 induction h with
 | nil=>rfl
 | cons r t ih=>
  rw[List.all_cons,Bool.and_eq_true]at f
  rw[List.any_cons,List.any_cons,VP r f.1,ih f.2]
theorem R5{A:Around}{s:Shared}{x:V}{v:Value}(rx:RelV x v)(fx:flatV x=true){xs:List V}{us:List Value}(h:Vals xs us)(f:xs.all flatV=true):∀u∈us,SeqAt.EqAt A s u v (eqU x u):=by
 induction h with
 | nil=>exact fun u hu=>by cases hu
 | cons r t ih=>
  intro u' hu
  rw[List.all_cons,Bool.and_eq_true]at f
  rcases List.mem_cons.mp hu with rfl | hu
  ·rw[VP r f.1];exact VR r rx f.1 fx
  ·exact ih f.2 u' hu
noncomputable def inV(x:V)(xs:List V):Bool:=xs.any fun y=>eqV y x
noncomputable def rIn(K:PySem.W.Frag)(neg:Bool):R2:=fun x y H Q=>∃p xs,y=.ref p∧(SqL K H p xs∨SqT K H p xs)∧flatV x=true∧xs.all flatV=true∧Q (.bl (if neg then !inV x xs else inV x xs)) H
theorem fM:OpR X (compareOp .In) (rIn X.K false):=by
 intro pins s σ H x y v u Q I rx ry h
 obtain⟨p,xs,rfl,hq,fx,fs,q⟩:=h
 cases ry
 rcases hq with hq | hq
 ·obtain⟨its,r,pl,hz⟩:=I.list hq
  refine SeqAt.in_listAt (eqU x) pl.isList (fun w hw=>R5 rx fx r fs w (by simpa using hw)) ⟨.bl _,H,I,rfl,?_⟩
  rw[show its.toArray.any (eqU x)=its.any (eqU x) by simp,WT r fs]
  exact q
 ·obtain⟨its,r,pl,hz⟩:=I.tuple hq
  refine SeqAt.in_tupleAt (eqU x) pl (fun w hw=>R5 rx fx r fs w (by simpa using hw)) ⟨.bl _,H,I,rfl,?_⟩
  rw[show its.toArray.any (eqU x)=its.any (eqU x) by simp,WT r fs]
  exact q
theorem CallR.or{f:Value}{r r':List V→Hp→VK→Prop}(h:CallR X f r)(h':CallR X f r'):CallR X f (fun xs H Q=>r xs H Q∨r' xs H Q):=by
 intro pins s σ H xs us Q I rs q
 rcases q with q | q
 ·exact h pins s σ H xs us Q I rs q
 ·exact h' pins s σ H xs us Q I rs q
theorem WM:CallR X (.type "list") (fun xs H Q=>∃p ys,xs=[.ref p]∧(SqL X.K H p ys∨SqT X.K H p ys)∧∀l,H l=none→Q (.ref l) (upd H l (.lst ys))):=by
 intro pins s σ H xs us Q I r h
 obtain⟨p,ys,rfl,hq,q⟩:=h
 obtain⟨u,rfl,rx⟩:=vals1 r
 cases rx
 have fin:∀(its:List Value),Vals ys its→ys.length≤sizeLine→∀(h':Heap) (c':Nat),(∀b o',s.heap.get? b=some o'→h'.get? b=some o')→
   h'.get? s.heap.objs.size=some { cls:=.type "list",dict:=none,data:=.seq its.toArray c',slots:=#[] }→EP X pins σ Q (.ref s.heap.objs.size) { s with heap:=h' }:=fun its r' hz h' c' kp e=>
  ⟨.ref s.heap.objs.size,_,I.laid (t':=s.toks) kp (Nat.le_refl _) (show ObjOk X.prog X.w _ h' _ (.lst ys) from ⟨hz,its,c',r',e⟩),rfl,q _ (I.hok.fresh (Nat.le_refl _))⟩
 rcases hq with hq | hq
 ·obtain⟨its,r',pl,hz⟩:=I.list hq
  have hlen:=r'.length
  obtain⟨o,ho,hc,n,hd⟩:=pl.isList
  exact call_list_seq p (.inl rfl) ho hc hd (fun h' c' kp e=>fin its r' hz h' c' kp e) (by simp only[List.size_toArray]<;>lia)
 ·obtain⟨its,r',pl,hz⟩:=I.tuple hq
  have hlen:=r'.length
  obtain⟨o,ho,hc,n,hd⟩:=pl
  exact call_list_seq p (.inr rfl) ho hc hd (fun h' c' kp e=>fin its r' hz h' c' kp e) (by simp only[List.size_toArray]<;>lia)
def tyV(K:PySem.W.Frag)(T:String)(x:V)(H:Hp):Prop:=match x with
 | .str _=>T = "str"
 | .int _=>T = "int"
 | .ref p=>(T = "list"∧∃xs,SqL K H p xs)∨(T = "tuple"∧∃o,K.lookup p=some o∧o.cls=.type "tuple"∧o.dict=none)∨
   (T = "dict"∧((∃kvs,H p=some (.dK kvs))∨∃kvs,H p=some (.dT kvs)))∨(T = "set"∧∃S n,H p=some (.set S n))
 | _=>False
theorem gZ{pins:List (Addr×Obj)}{σ:St}{H:Hp}{s:Shared}{T:String}{x:V}{v:Value}(I:Inv X pins σ H s)(r:RelV x v)(ty:tyV X.K T x H):
  s.TypeIs v T∧∀a,v=.ref a→∃ob,s.heap.get? a=some ob∧ob.dict=none:=by
 cases x with
 | str z=>
  obtain⟨t,rfl⟩:=r
  cases (show T = "str" from ty)
  exact⟨typeIs_str s z t,fun _ e=>nomatch e⟩
 | int i=>
  obtain⟨t,rfl⟩:=r
  cases (show T = "int" from ty)
  exact⟨typeIs_int s i t,fun _ e=>nomatch e⟩
 | ref p=>
  cases r
  rcases ty with ⟨rfl,xs,hq⟩ | ⟨rfl,o,hk,hc,hd⟩ | ⟨rfl,hk⟩ | ⟨rfl,S,n,hk⟩
  ·obtain⟨its,_,pl,_⟩:=I.list hq
   refine⟨pl.isList.typeIs,fun a e=>?_⟩
   cases e
   obtain⟨o,n,e,c,hd,_⟩:=pl
   exact⟨o,e,hd⟩
  ·refine⟨⟨o,I.kIn p o hk,hc⟩,fun a e=>?_⟩
   cases e
   exact⟨o,I.kIn _ o hk,hd⟩
  ·have z:∃o,s.heap.get? p=some o∧o.ExactDict:=by
    rcases hk with ⟨kvs,hk⟩ | ⟨kvs,hk⟩
    ·obtain⟨_,_,_,_,o,_,_,e,ex,_⟩:=I.hok p _ hk
     exact⟨o,e,ex⟩
    ·obtain⟨_,_,_,_,o,_,_,e,ex,_⟩:=I.hok p _ hk
     exact⟨o,e,ex⟩
   obtain⟨o,e,ex⟩:=z
   refine⟨⟨o,e,ex.1⟩,fun a e2=>?_⟩
   cases e2
   exact⟨o,e,ex.2.1⟩
  ·obtain⟨o,_,_,_,e,ex,_⟩:=I.hok p _ hk
   refine⟨⟨o,e,ex.1⟩,fun a e2=>?_⟩
   cases e2
   exact⟨o,e,ex.2.1⟩
 | _=>exact False.elim ty
noncomputable def tBM0(K:PySem.W.Frag)(T:String)(r:V→List V→Hp→VK→Prop)(to:TE):TE:=fun σ H Q=>to σ H fun x H1=>tyV K T x H1∧r x [] H1 Q
noncomputable def tBM(K:PySem.W.Frag)(T:String)(r:V→List V→Hp→VK→Prop)(to:TE)(t:TA):TE:=fun σ H Q=>to σ H fun x H1=>tyV K T x H1∧t σ H1 fun xs H2=>r x xs H2 Q
variable{o e:Expr}{es:List Expr}{to:TE}{t:TA}{name:Str}{apos cpos:Pos}{T id:String}{r:V→List V→Hp→VK→Prop}
theorem vL(pa:PlainAttrs T)(slot:Slot T name id)(hty:typeOf (.builtin id)=pure (.type "method_descriptor"))(hm:MtR X id r)(ho:PE X o to)
  (hbase:attributeBase o name X.env (eval o X.env)=eval o X.env:=by rfl) (hline:(apos.endLine==cpos.line)=true:=by rfl):PE X (.Call (.Attribute o name apos) [] [] cpos) (tBM0 X.K T r to):=by
 intro pins s σ H Q I h
 refine wpAny_Call_method0_late hbase hline (thn (ho pins s σ H _ I h) fun v s1 hq0=>?_)
 obtain⟨x,H1,I1,r1,ty,q1⟩:=hq0
 obtain⟨h1,h2⟩:=gZ I1 r1 ty
 exact⟨T,id,pa,slot,hty,h1,h2,Calls.callWith_builtin rfl (PySem.evalArgs_none (hm pins s1 σ H1 x [] v [] Q I1 r1 .nil q1))⟩
theorem cG(pa:PlainAttrs T)(slot:Slot T name id)(hty:typeOf (.builtin id)=pure (.type "method_descriptor"))(hm:MtR X id r)(ho:PE X o to)(ha:PA X (e::es) t)
  (hbase:attributeBase o name X.env (eval o X.env)=eval o X.env:=by rfl)
  (hfew:((backTo cpos (starEach (e::es) X.env)).all (fun x=>!x.1)&&(backToKw cpos (keywordEach [] X.env)).all (fun x=>x.1.isSome)
   &&decide ((e::es).length+([]:List Keyword).length+(if ([]:List Keyword).isEmpty then 0 else 1)<30))=true:=by rfl)
  (hline:(apos.endLine==cpos.line)=true:=by rfl) (hs:starEach (e::es) X.env=(false,eval e X.env)::starEach es X.env:=by rfl) (hplain:(backTo cpos (starEach es X.env)).any (·.1)=false:=by rfl) :
  PE X (.Call (.Attribute o name apos) (e::es) [] cpos) (tBM X.K T r to t):=by
 intro pins s σ H Q I h
 refine wpAny_Call_method_late hbase hfew hline rfl (thn (ho pins s σ H _ I h) fun v s1 hq0=>?_)
 obtain⟨x,H1,I1,r1,ty,q1⟩:=hq0
 obtain⟨h1,h2⟩:=gZ I1 r1 ty
 refine⟨T,id,pa,slot,hty,h1,h2,?_⟩
 have hA:=ha cpos pins s1 σ H1 _ I1 q1
 rw[hs]at hA ⊢
 refine Calls.callWith_builtin (by show (false||(backTo cpos (starEach es X.env)).any (·.1))=false;rw[hplain]<;>rfl) (Calls.evalArgs_plain ?_)
 exact thn hA fun us s2 ⟨vs,H2,I2,r2,q2⟩=>hm pins s2 σ H2 x vs v us Q I2 r1 r2 q2
end
end L2
namespace L2
open PySem PySem.Spec PyProof.Rows
def MtM(X:Cx)(id:String)(r:V→List V→Hp→VK→Prop):Prop:=
 ∀(pins:List (Addr×Obj)) (s:Shared) (σ:St) (H:Hp) (x:V) (xs:List V) (v:Value) (us:List Value) (Q:VK),Inv X pins σ H s→RelV x v→Vals xs us→r x xs H Q→
  wpAny (model X.prog X.w) X.A (call (.builtin id) (v::us)) (EP X pins σ Q) X.xe s
theorem Vals.one{x:V}{us:List Value}(h:Vals [x] us):∃u,us=[u]∧RelV x u:=by
 cases h with
 | cons r t=>cases t;exact⟨_,rfl,r⟩
theorem Vals.two{x y:V}{us:List Value}(h:Vals [x,y] us):∃u v,us=[u,v]∧RelV x u∧RelV y v:=by
 cases h with
 | cons r t=>cases t with
  | cons q t=>cases t;exact⟨_,_,rfl,r,q⟩
theorem Vals.zero:∀{us:List Value},Vals [] us→us=[]
 | _,.nil=>rfl
theorem Vals.dropLast{xs:List V}{us:List Value}(h:Vals xs us):Vals xs.dropLast us.dropLast:=by
 induction h with
 | nil=>exact .nil
 | cons r t ih=>
  cases t with
  | nil=>exact .nil
  | cons q t'=>exact .cons r ih
theorem aZ{α:Type}(l:List α):l.eraseIdx (l.length-1)=l.dropLast:=by
 induction l with
 | nil=>rfl
 | cons a r ih=>
  cases r with
  | nil=>rfl
  | cons b r=>
   have e:(a::b::r).length-1=((b::r).length-1)+1:=by
    have h1:(a::b::r).length=r.length+2:=rfl
    have h2:(b::r).length=r.length+1:=rfl
    lia
   rw[e,List.eraseIdx_cons_succ,ih]
   all_goals rfl
section
variable{X:Cx}{pins:List (Addr×Obj)}{σ:St}{H:Hp}{s:Shared}{l b:Addr}{xs ys zs:List V}
theorem Inv.lset{its its':List Value}{n:Nat}{f:Array Value→Array Value}{t':Nat}(I:Inv X pins σ H s)(hH:H l=some (.lst xs))
  (e:s.heap.get? l=some { cls:=.type "list",data:=.seq its.toArray n }) (hf:f its.toArray=its'.toArray) (hv:Vals ys its') (hz:ys.length≤sizeLine) :
  Inv X pins σ (upd H l (.lst ys)) { s with heap:=s.heap.update l (Obj.mapSeq f),toks:=t' }:=by
 have q:=PySem.IsL.update e f
 rw[hf]at q
 refine I.write (x:=l) (e:=l) (by rw[hH];exact trivial) (.inl rfl) (fun b' u hb hu=>(Heap.get?_update_other s.heap (Obj.mapSeq f) (Ne.symm hb)).trans hu) ⟨_,q⟩ ?_
 exact⟨hz,its',_,hv,q⟩
theorem Inv.lnew{its:List Value}{t':Nat}(I:Inv X pins σ H s)(hv:Vals ys its)(hz:ys.length≤sizeLine):
  Inv X pins σ (upd H s.heap.objs.size (.lst ys)) { s with heap:=s.heap.push { cls:=.type "list",data:=.seq its.toArray },toks:=t' }:=
 I.laid (fun _ _ q=>Heap.get?_push_of_some _ q) (Nat.le_refl _) ⟨hz,its,0,hv,Heap.get?_push_size _ rfl⟩
theorem Inv.fresh(I:Inv X pins σ H s):H s.heap.objs.size=none:=I.hok.fresh (Nat.le_refl _)
theorem Inv.lstM(I:Inv X pins σ H s)(hH:H l=some (.lst xs)):xs.length≤sizeLine∧∃(its:List Value) (n:Nat),Vals xs its∧xs.length=its.length∧s.heap.get? l=some { cls:=.type "list",data:=.seq its.toArray n }:=by
 obtain⟨z,its,n,r,e⟩:=I.hok l _ hH
 exact⟨z,its,n,r,r.length,e⟩
theorem jT{n:Nat}(h:n≤sizeLine):Builtin.List.listTooLong n=false:=by
 unfold Builtin.List.listTooLong
 exact decide_eq_false (by lia)
end
section
variable{X:Cx}
def rAppend:V→List V→Hp→VK→Prop:=fun x vs H Q=>∃l xs y,x=.ref l∧vs=[y]∧H l=some (.lst xs)∧xs.length<sizeLine∧Q .non (upd H l (.lst (xs++[y])))
theorem SM:MtM X "list.append" rAppend:=by
 intro pins s σ H x vs v us Q I rx rv h
 obtain⟨l,xs,y,rfl,rfl,hH,hz,q⟩:=h
 cases rx
 obtain⟨u,rfl,ru⟩:=rv.one
 obtain⟨z,its,n,r,hl,e⟩:=I.lstM hH
 refine call_meets F.slot_list_append ⟨_,e,rfl⟩ F.entry_list_append (F.args_list_append_2 _ _) (PySem.list_append l its.toArray n u (by rw[List.size_toArray];lia)) ⟨e,?_⟩
 refine⟨.non,_,I.lset (its':=its++[u]) hH e (by simp) (r.append (.cons ru .nil)) ?_,rfl,q⟩
 rw[List.length_append,List.length_singleton]
 lia
def rPop:V→List V→Hp→VK→Prop:=fun x vs H Q=>∃l xs y,x=.ref l∧vs=[]∧H l=some (.lst xs)∧xs[xs.length-1]?=some y∧Q y (upd H l (.lst xs.dropLast))
theorem vU:MtM X "list.pop" rPop:=by
 intro pins s σ H x vs v us Q I rx rv h
 obtain⟨l,xs,y,rfl,rfl,hH,hy,q⟩:=h
 cases rx
 have hus:=rv.zero
 subst hus
 obtain⟨z,its,n,r,hl,e⟩:=I.lstM hH
 obtain⟨u,hu,ru⟩:=r.get hy
 have hy':its.toArray[its.toArray.size-1]?=some u:=by
  show its.toArray[its.length-1]?=some u
  rw[←Array.getElem?_toList,←hl]
  exact hu
 refine call_meets F.slot_list_pop ⟨_,e,rfl⟩ F.entry_list_pop (F.args_list_pop_1 _) (MeetsSeq.list_pop_last l its.toArray n u hy' (by rw[List.size_toArray];lia)) ⟨e,?_⟩
 refine⟨y,_,I.lset (its':=its.dropLast) hH e ?_ r.dropLast ?_,ru,q⟩
 ·show its.toArray.eraseIdxIfInBounds (its.toArray.size-1)=its.dropLast.toArray
  rw[List.size_toArray,List.eraseIdxIfInBounds_toArray,aZ]
 ·rw[List.length_dropLast]
  lia
end
section
variable{prog:Program}{w:World}{A:Around}{E:Value→Shared→Prop}{s:Shared}
end
section
variable{X:Cx}
end
end L2
namespace L2
open PySem PySem.Spec PyProof.Rows
section
variable{κ:Type}[DecidableEq κ]
noncomputable def valV(kvs:List (κ×V))(k:κ):Option V:=(kvs.find? fun kv=>decide (kv.1=k)).map (·.2)
noncomputable def putK(kvs:List (κ×V))(k:κ)(v:V):List (κ×V):=
 if (kvs.any fun kv=>decide (kv.1=k))=true then kvs.map (fun kv=>if kv.1=k then (kv.1,v) else kv) else kvs++[(k,v)]
theorem N6{p:κ×V}{r:List (κ×V)}{k:κ}(e:p.1=k):valV (p::r) k=some p.2:=by simp[valV,List.find?_cons,e]
theorem JW{p:κ×V}{r:List (κ×V)}{k:κ}(e:¬p.1=k):valV (p::r) k=valV r k:=by simp[valV,List.find?_cons,e]
theorem X3(k:κ):∀kvs:List (κ×V),(kvs.any fun kv=>decide (kv.1=k))=(valV kvs k).isSome
 | []=>rfl
 | p::r=>by
  rw[List.any_cons]
  by_cases e:p.1=k
  ·simp only[N6 e,decide_eq_true e,Bool.true_or,Option.isSome_some]
  ·rw[JW e,decide_eq_false e,Bool.false_or];exact X3 k r
theorem K8(kvs:List (κ×V))(k:κ)(v:V):(putK kvs k v).length≤kvs.length+1:=by
 unfold putK
 split
 ·rw[List.length_map];lia
 ·rw[List.length_append,List.length_cons,List.length_nil];lia
theorem RelO.isSome_eq{o:Option V}{u:Option Value}(r:RelO o u):o.isSome=u.isSome:=by
 cases o with
 | none=>cases u with
  | none=>rfl
  | some _=>exact(show False from r).elim
 | some _=>cases u with
  | none=>exact(show False from r).elim
  | some _=>rfl
theorem RelO.getD{o:Option V}{u:Option Value}{d:V}{d':Value}(r:RelO o u)(rd:RelV d d'):RelV (o.getD d) (u.getD d'):=by
 cases o with
 | none=>cases u with
  | none=>exact rd
  | some _=>exact(show False from r).elim
 | some _=>cases u with
  | none=>exact(show False from r).elim
  | some _=>exact r
theorem KV.val{kvs:List (κ×V)}{vs:List (κ×Value)}(r:KV kvs vs)(k:κ):RelO (valV kvs k) (valueAt vs k):=by
 unfold KV at r
 induction r with
 | nil=>exact True.intro
 | @cons p q ps qs h t ih=>
  obtain⟨h1,h2⟩:=h
  by_cases e:p.1=k
  ·have e':q.1=k:=h1.symm.trans e
   have b:valueAt (q::qs) k=some q.2:=by simp[valueAt,List.find?_cons,e']
   rw[N6 e,b];exact h2
  ·have e':¬q.1=k:=fun z=>e (h1.trans z)
   have b:valueAt (q::qs) k=valueAt qs k:=by simp[valueAt,List.find?_cons,e']
   rw[JW e,b];exact ih
theorem KV.any{kvs:List (κ×V)}{vs:List (κ×Value)}(r:KV kvs vs)(k:κ):(kvs.any fun kv=>decide (kv.1=k))=vs.any fun kv=>decide (kv.1=k):=by
 unfold KV at r
 induction r with
 | nil=>rfl
 | cons h t ih=>rw[List.any_cons,List.any_cons,ih,h.1]
theorem KV.repl{kvs:List (κ×V)}{vs:List (κ×Value)}(r:KV kvs vs)(k:κ){y:V}{u:Value}(ry:RelV y u):
  KV (kvs.map fun kv=>if kv.1=k then (kv.1,y) else kv) (vs.map fun kv=>if kv.1=k then (kv.1,u) else kv):=by
 unfold KV at r ⊢
 induction r with
 | nil=>exact .nil
 | @cons p q ps qs h t ih=>
  rw[List.map_cons,List.map_cons]
  refine .cons ?_ ih
  obtain⟨h1,h2⟩:=h
  by_cases e:p.1=k
  ·rw[if_pos e,if_pos (h1.symm.trans e)];exact⟨h1,ry⟩
  ·rw[if_neg e,if_neg (fun z=>e (h1.trans z))];exact⟨h1,h2⟩
theorem KV.put{kvs:List (κ×V)}{vs:List (κ×Value)}(r:KV kvs vs)(k:κ){y:V}{u:Value}(ry:RelV y u):KV (putK kvs k y) (stored vs k u):=by
 unfold putK stored
 rw[r.any k]
 by_cases e:(vs.any fun kv=>decide (kv.1=k))=true
 ·rw[if_pos e,if_pos e];exact r.repl k ry
 ·rw[if_neg e,if_neg e];exact Paired.snoc r ⟨rfl,ry⟩
theorem KV.keys{kvs:List (κ×V)}{vs:List (κ×Value)}(r:KV kvs vs):kvs.map (·.1)=vs.map (·.1):=by
 unfold KV at r
 induction r with
 | nil=>rfl
 | cons h t ih=>rw[List.map_cons,List.map_cons,ih,h.1]
theorem KV.length{kvs:List (κ×V)}{vs:List (κ×Value)}(r:KV kvs vs):kvs.length=vs.length:=Paired.length r
end
theorem YM{P:Program}{w:World}{k:Key}{u:Value}(r:RelV (kV k) u):(mixKind P w).is k u=true:=by
 cases k with
 | inl i=>obtain⟨t,e⟩:=(show ∃t,u=Value.int i t from r);subst e;exact YG P w i t
 | inr x=>obtain⟨t,e⟩:=(show ∃t,u=Value.str x t from r);subst e;exact YF P w x t
theorem SX{P:Program}{w:World}:∀{ks:List Key} {us:List Value},Vals (ks.map kV) us→ItemsAre (mixKind P w) ks us
 | [],_,r=>by rw[List.map_nil]at r;cases r;exact .nil
 | k::ks,_,r=>by
  rw[List.map_cons]at r
  cases r with
  | cons h t=>exact .cons (YM h) (SX t)
noncomputable abbrev KT (H:Hp):List (List Key×V)→List (List Key×Addr×Value)→Prop:=Paired fun p q=>p.1=q.1∧H q.2.1=some (.tup (p.1.map kV))∧RelV p.2 q.2.2
theorem KT.val{H:Hp}{kvs:List (List Key×V)}{xs:List (List Key×Addr×Value)}(r:KT H kvs xs)(k:List Key):RelO (valV kvs k) ((atKey xs k).map (·.2)):=by
 induction r with
 | nil=>exact True.intro
 | @cons p q ps qs h t ih=>
  obtain⟨h1,_,h2⟩:=h
  by_cases e:p.1=k
  ·have e':q.1=k:=h1.symm.trans e
   have b:atKey (q::qs) k=some q.2:=by simp[atKey,List.find?_cons,e']
   rw[N6 e,b];exact h2
  ·have e':¬q.1=k:=fun z=>e (h1.trans z)
   have b:atKey (q::qs) k=atKey qs k:=by simp[atKey,List.find?_cons,e']
   rw[JW e,b];exact ih
theorem KT.repl{H:Hp}{kvs:List (List Key×V)}{xs:List (List Key×Addr×Value)}(r:KT H kvs xs)(k:List Key){y:V}{u:Value}(ry:RelV y u):
  KT H (kvs.map fun kv=>if kv.1=k then (kv.1,y) else kv) (xs.map (putAt k u)):=by
 induction r with
 | nil=>exact .nil
 | @cons p q ps qs h t ih=>
  rw[List.map_cons,List.map_cons]
  refine .cons ?_ ih
  obtain⟨h1,h2,h3⟩:=h
  unfold putAt
  by_cases e:p.1=k
  ·rw[if_pos e,if_pos (h1.symm.trans e)];exact⟨h1,h2,ry⟩
  ·rw[if_neg e,if_neg (fun z=>e (h1.trans z))];exact⟨h1,h2,h3⟩
theorem KT.put{H:Hp}{kvs:List (List Key×V)}{xs:List (List Key×Addr×Value)}(r:KT H kvs xs)(k:List Key){b:Addr}{y:V}{u:Value}(hb:H b=some (.tup (k.map kV)))(ry:RelV y u):
  KT H (putK kvs k y) (storedH xs k b u):=by
 have e:(kvs.any fun kv=>decide (kv.1=k))=(atKey xs k).isSome:=by
  rw[X3,(r.val k).isSome_eq,Option.isSome_map]
 unfold putK storedH
 rw[e]
 by_cases q:(atKey xs k).isSome=true
 ·rw[if_pos q,if_pos q];exact r.repl k ry
 ·rw[if_neg q,if_neg q];exact Paired.snoc r ⟨rfl,hb,ry⟩
theorem KT.keeps{H H':Hp}{kvs:List (List Key×V)}{xs:List (List Key×Addr×Value)}(r:KT H kvs xs)(ht:∀b ys,H b=some (.tup ys)→H' b=some (.tup ys)):KT H' kvs xs:=
 Paired.mapP r fun _ _ z=>⟨z.1,ht _ _ z.2.1,z.2.2⟩
section
variable{P:Program}{w:World}{H:Hp}{h:Heap}{a:Addr}
theorem tQ{u:HO}(ok:HOk P w H h)(e:Rd H a u):ObjOk P w H h a u:=e.ok ok
theorem YX{kvs:List (Key×V)}(ok:HOk P w H h)(e:Rd H a (.dK kvs)):kvs.length≤sizeLine∧(a==sysModules)=false∧∃vs,KV kvs vs∧h.DictOf (mixKind P w) a vs:=
 show ObjOk P w H h a (.dK kvs) from tQ ok e
theorem yS{kvs:List (Key×V)}(ok:HOk P w H h)(e:H a=some (.dK kvs)):kvs.length≤sizeLine∧(a==sysModules)=false∧∃vs,KV kvs vs∧h.DictOf (mixKind P w) a vs:=YX ok (.inl e)
theorem aV{ks:List Key}(ok:HOk P w H h)(e:H a=some (.tup (ks.map kV))):(tupleKind (mixKind P w)).is h ks a:=by
 obtain⟨_,its,r,o,h1,h2,n,h3⟩:=(show ObjOk P w H h a (.tup (ks.map kV)) from ok a _ e)
 exact⟨o,its.toArray,n,h1,h2,h3,by simpa using SX r⟩
theorem lY{kvs:List (List Key×V)}(ok:HOk P w H h)(e:Rd H a (.dT kvs)):kvs.length≤sizeLine∧(a==sysModules)=false∧
  ∃xs,KT H kvs xs∧h.DictOfH (tupleKind (mixKind P w)) a xs:=by
 obtain⟨z,y,xs,r,o,es,ep,h1,h2,h3,h4,h5⟩:=(show ObjOk P w H h a (.dT kvs) from tQ ok e)
 refine⟨z,y,xs,r,o,es,ep,h1,h2,h3,h4,fun x hx=>?_,h5⟩
 have all:∀{l:List (List Key×V)} {m:List (List Key×Addr×Value)},KT H l m→∀x∈m,(tupleKind (mixKind P w)).is h x.1 x.2.1:=by
  intro l m q
  induction q with
  | nil=>intro x hx;exact nomatch hx
  | @cons p q ps qs hq t ih=>
   intro x hx
   rcases List.mem_cons.mp hx with e | hx
   ·subst e
    exact aV ok (by rw[←hq.1];exact hq.2.1)
   ·exact ih x hx
 exact all r x hx
theorem yR{kvs:List (List Key×V)}(ok:HOk P w H h)(e:H a=some (.dT kvs)):kvs.length≤sizeLine∧(a==sysModules)=false∧
  ∃xs,KT H kvs xs∧h.DictOfH (tupleKind (mixKind P w)) a xs:=lY ok (.inl e)
end
def DGet(H:Hp)(a:Addr)(y:V)(r:Option V):Prop:=
 (∃kvs k,Rd H a (.dK kvs)∧y=kV k∧r=valV kvs k)∨∃kvs k b,Rd H a (.dT kvs)∧y=.ref b∧H b=some (.tup (k.map kV))∧r=valV kvs k
def DPut(H:Hp)(a:Addr)(y v:V)(H':Hp):Prop:=
 (∃kvs k,H a=some (.dK kvs)∧y=kV k∧kvs.length<sizeLine∧H'=upd H a (.dK (putK kvs k v)))∨
 ∃kvs k b,H a=some (.dT kvs)∧y=.ref b∧H b=some (.tup (k.map kV))∧kvs.length<sizeLine∧H'=upd H a (.dT (putK kvs k v))
theorem DPut.k{H:Hp}{a:Addr}{kvs:List (Key×V)}{k:Key}{v:V}(e:H a=some (.dK kvs))(hl:kvs.length<sizeLine):DPut H a (kV k) v (upd H a (.dK (putK kvs k v))):=.inl ⟨kvs,k,e,rfl,hl,rfl⟩
section
variable{X:Cx}{pins:List (Addr×Obj)}{σ:St}{H:Hp}{s:Shared}{a:Addr}{y v:V}{u r:Value}{o:Option V}{A:Around}{E:Value→Shared→Prop}
theorem Inv.big(I:Inv X pins σ H s):sysModules<s.heap.objs.size:=by
 have h:mainGlobals<s.heap.objs.size:=(I.mod.glob.keeps I.bk).lt
 exact Nat.lt_trans (by decide) h
theorem W5{h':Heap}{t':Nat}{ob:HO}(I:Inv X pins σ H s)(mu:Mut (H a))(hs:Heap.SameBut a s.heap h')(he:∃q,h'.get? a=some q)(new:ObjOk X.prog X.w (upd H a ob) h' a ob):
  Inv X pins σ (upd H a ob) { s with heap:=h',toks:=t' }:=
 I.write (x:=a) (e:=a) mu (.inl rfl) (fun b q hb z=>(hs.2 b hb).trans z) he new
theorem m8{P:Program}{w:World}{H':Hp}{h':Heap}{kvs:List (Key×V)}{vs:List (Key×Value)}(z:kvs.length≤sizeLine)(hd:(a==sysModules)=false)(rel:KV kvs vs)(dd:h'.DictOf (mixKind P w) a vs):
  ObjOk P w H' h' a (.dK kvs):=⟨z,hd,vs,rel,dd⟩
theorem gJ{H':Hp}{Q:Unit→Shared→Prop}(hu:A.units+1<cLine)(I:Inv X pins σ H s)(g:DPut H a y v H')(ry:RelV y u)(rv:RelV v r)(h:∀s',Inv X pins σ H' s'→Q () s'):
  wpAny (model X.prog X.w) A (setItem (.ref a) u r) Q E s:=by
 rcases g with ⟨kvs,k,e,ey,l,eH⟩ | ⟨kvs,k,b,e,ey,eb,l,eH⟩
 ·subst ey eH
  obtain⟨z,hd,vs,rel,dd⟩:=yS I.hok e
  have hz:vs.length≤sizeLine:=by rw[←rel.length];exact z
  have hl:(putK kvs k v).length≤sizeLine:=by have:=K8 kvs k v;lia
  refine wpAny_setItem_pairs (hsz:=hz) (YM ry) dd fun h' dd' hs=>h _ ?_
  have he:∃q,h'.get? a=some q:=let ⟨q,_,_,hq,_⟩:=dd';⟨q,hq⟩
  exact W5 I (by rw[e];exact True.intro) hs he (m8 hl hd (rel.put k rv) dd')
 ·subst ey eH
  cases (show u=Value.ref b from ry)
  obtain⟨z,hd,xs,rel,dd⟩:=yR I.hok e
  have hz:xs.length≤sizeLine:=by rw[←Paired.length rel];exact z
  have hl:(putK kvs k v).length≤sizeLine:=by have:=K8 kvs k v;lia
  refine wpAny_setItem_heap (hsz:=hz) (tupleKind_room_in1 hu) (aV I.hok eb) dd fun h' dd' hs=>h _ ?_
  obtain⟨q,es,ep,hq,h2,h3,h4,_,h5⟩:=dd'
  refine W5 I (by rw[e];exact True.intro) hs ⟨q,hq⟩ ⟨hl,hd,_,(rel.put k eb rv).keeps fun c ys ec=>?_,q,es,ep,hq,h2,h3,h4,h5⟩
  rw[CJ (yG ec e (fun z=>nomatch z))]
  exact ec
end
section
variable{X:Cx}{pins:List (Addr×Obj)}{σ:St}{H:Hp}{s:Shared}{a:Addr}{kvs:List (Key×V)}{k:Key}{u:Value}{A:Around}{E:Value→Shared→Prop}
theorem yU{Q:Value→Shared→Prop}(I:Inv X pins σ H s)(e:Rd H a (.dK kvs))(h:∀t s',Inv X pins σ H s'→Q (.int kvs.length t) s'):wpAny (model X.prog X.w) A (call (.builtin "len") [.ref a]) Q E s:=by
 obtain⟨z,hd,vs,rel,dd⟩:=YX I.hok e
 refine call_len_dict hd dd (by rw[←rel.length];rw[sizeLine_eq]at z;lia) ?_
 rw[←rel.length]
 exact h _ _ (I.tok _)
end
noncomputable def sDPut(td ty tv:TE):TS:=fun D σ H=>tv σ H fun v H1=>td σ H1 fun x H2=>ty σ H2 fun y H3=>∃a H4,x=.ref a∧DPut H3 a y v H4∧D.nx σ H4
section
variable{X:Cx}{o i e value:Expr}{pos pos' tpos:Pos}{td ty tv:TE}
theorem pQ(hu:X.A.units+1<cLine)(ho:PE X o td)(hi:PE X i ty)(hv:PE X value tv)(hs:swapsWith value (some (.Subscript o i pos')) pos.line X.env=pure false):
  PS X (.Assign [.Subscript o i pos'] value pos) (sDPut td ty tv):=by
 intro pins s σ H D I h
 refine wpAny_Assign_Subscript (thn (hv pins s σ H _ I h) fun r s1 ⟨v,H1,I1,rv,q1⟩=>thn (ho pins s1 σ H1 _ I1 q1) fun u s2 ⟨x,H2,I2,rx,q2⟩=>thn (hi pins s2 σ H2 _ I2 q2) fun iv s3 hq0=>?_) hs
 obtain⟨y,H3,I3,ry,a,H4,ex,g,q3⟩:=hq0
 subst ex
 obtain rfl:u=Value.ref a:=rx
 exact gJ hu I3 g ry rv fun s4 I4=>⟨σ,H4,I4,q3⟩
end
theorem m9{P:Program}{w:World}{H:Hp}(h:Heap)(hb:sysModules<h.objs.size):ObjOk P w H (h.push { cls:=.type "dict",data:=.dict #[] }) h.objs.size (.dK []):=
 ⟨Nat.zero_le _,beq_eq_false_iff_ne.mpr (Ne.symm (Nat.ne_of_lt hb)),[],.nil,Heap.DictOf.new h⟩
theorem lZ{P:Program}{w:World}{H:Hp}(h:Heap)(hb:sysModules<h.objs.size):ObjOk P w H (h.push { cls:=.type "dict",data:=.dict #[] }) h.objs.size (.dT []):=
 ⟨Nat.zero_le _,beq_eq_false_iff_ne.mpr (Ne.symm (Nat.ne_of_lt hb)),[],.nil,_,#[],0,Heap.get?_push_size _ rfl,⟨rfl,rfl,rfl⟩,rfl,rfl,List.nodup_nil⟩
noncomputable def tDNewK:TE:=fun _ H Q=>∀p,H p=none→Q (.ref p) (upd H p (.dK []))
section
variable{X:Cx}{pos:Pos}
theorem jF:PE X (.Dict [] [] pos) tDNewK:=fun pins s σ H Q I h=>
 wpAny_Dict_empty ⟨.ref s.heap.objs.size,_,I.laid (a:=s.heap.objs.size) (o:=.dK []) (t':=s.toks) (fun _ _ q=>Heap.get?_push_of_some _ q) (Nat.le_refl _) (m9 s.heap I.big),rfl,h _ (I.hok.fresh (Nat.le_refl _))⟩
end
noncomputable def mergeK(kvs more:List (Key×V)):List (Key×V):=more.foldl (fun acc kv=>putK acc kv.1 kv.2) kvs
theorem LK:∀(more kvs:List (Key×V)),(mergeK kvs more).length≤kvs.length+more.length
 | [],kvs=>by show kvs.length≤kvs.length+0;lia
 | p::r,kvs=>by
  have h1:=LK r (putK kvs p.1 p.2)
  have h2:=K8 kvs p.1 p.2
  show (mergeK (putK kvs p.1 p.2) r).length≤_
  rw[List.length_cons];lia
structure M1(X:Cx)(o:Expr)(m:Str)(apos:Pos)(e:Expr)(cpos:Pos):Prop where
 base:attributeBase o m X.env (eval o X.env)=eval o X.env
 few:((backTo cpos (starEach [e] X.env)).all (fun x=>!x.1)&&(backToKw cpos (keywordEach [] X.env)).all (fun x=>x.1.isSome)
  &&decide (([e]:List Expr).length+([]:List Keyword).length+(if ([]:List Keyword).isEmpty then 0 else 1)<30))=true
 line:(apos.endLine==cpos.line)=true
 trees:backTo cpos (starEach [e] X.env)=[(false,eval e X.env)]
structure M2(X:Cx)(o:Expr)(m:Str)(apos:Pos)(e f:Expr)(cpos:Pos):Prop where
 base:attributeBase o m X.env (eval o X.env)=eval o X.env
 few:((backTo cpos (starEach [e,f] X.env)).all (fun x=>!x.1)&&(backToKw cpos (keywordEach [] X.env)).all (fun x=>x.1.isSome)
  &&decide (([e,f]:List Expr).length+([]:List Keyword).length+(if ([]:List Keyword).isEmpty then 0 else 1)<30))=true
 line:(apos.endLine==cpos.line)=true
 trees:backTo cpos (starEach [e,f] X.env)=[(false,eval e X.env),(false,eval f X.env)]
def IsD(H:Hp)(a:Addr):Prop:=(∃kvs,Rd H a (.dK kvs))∨∃kvs,Rd H a (.dT kvs)
theorem wA{X:Cx}{pins:List (Addr×Obj)}{σ:St}{H:Hp}{s:Shared}{a:Addr}(I:Inv X pins σ H s)(d:IsD H a):
  s.TypeIs (.ref a) "dict"∧(∀b,Value.ref a=.ref b→∃ob,s.heap.get? b=some ob∧ob.dict=none)∧(a==sysModules)=false:=by
 rcases d with ⟨kvs,e⟩ | ⟨kvs,e⟩
 ·obtain⟨_,hd,vs,_,dd⟩:=YX I.hok e
  refine⟨dd.typeIs,fun b q=>?_,hd⟩
  cases q
  obtain⟨ob,_,_,h1,h2,_⟩:=dd
  exact⟨ob,h1,h2.2.1⟩
 ·obtain⟨_,hd,xs,_,dd⟩:=lY I.hok e
  refine⟨dd.typeIs,fun b q=>?_,hd⟩
  cases q
  obtain⟨ob,_,_,h1,h2,_⟩:=dd
  exact⟨ob,h1,h2.2.1⟩
section
variable{X:Cx}{pins:List (Addr×Obj)}{σ:St}{H:Hp}{s:Shared}{a:Addr}{y d:V}{u r:Value}{o:Option V}{A:Around}{E:Value→Shared→Prop}
theorem wI{Q:Value→Shared→Prop}(hu:A.units+1<cLine)(I:Inv X pins σ H s)(g:DGet H a y o)(ry:RelV y u)(rd:RelV d r)(h:∀w' s',Inv X pins σ H s'→RelV (o.getD d) w'→Q w' s'):
  wpAny (model X.prog X.w) A (call (.builtin "dict.get") [.ref a,u,r]) Q E s:=by
 rcases g with ⟨kvs,k,e,ey,l⟩ | ⟨kvs,k,b,e,ey,eb,l⟩
 ·subst ey
  obtain⟨z,hd,vs,rel,dd⟩:=YX I.hok e
  refine call_meetsIn PySem.F.slot_dict_get dd.typeIs PySem.F.entry_dict_get (PySem.F.args_dict_get_3 _ _ _) (meets_dict_get_default (mixKind X.prog X.w) a (YM ry) hd r) ⟨_,dd.mapOf,h _ _ (I.tok _) ?_⟩
  rw[l]
  exact(rel.val k).getD rd
 ·subst ey
  cases (show u=Value.ref b from ry)
  obtain⟨z,hd,xs,rel,dd⟩:=lY I.hok e
  refine call_meetsIn PySem.F.slot_dict_get dd.typeIs PySem.F.entry_dict_get (PySem.F.args_dict_get_3 _ _ _) (meetsH_dict_get_default (tupleKind (mixKind X.prog X.w)) a b hd r) ⟨tupleKind_room_in1 hu,k,xs,aV I.hok eb,dd,h _ _ (I.tok _) ?_⟩
  rw[l]
  exact(rel.val k).getD rd
end
noncomputable def tDGet2(td ty tx:TE):TE:=fun σ H Q=>td σ H fun x H1=>∃a,x=.ref a∧IsD H1 a∧ty σ H1 fun y H2=>tx σ H2 fun z H3=>∃o,DGet H3 a y o∧Q (o.getD z) H3
section
variable{X:Cx}{o e f:Expr}{apos cpos:Pos}{td ty tx:TE}
theorem jG(hu:X.A.units+1<cLine)(ho:PE X o td)(he:PE X e ty)(hf:PE X f tx)(m:M2 X o "get" apos e f cpos):PE X (.Call (.Attribute o "get" apos) [e,f] [] cpos) (tDGet2 td ty tx):=by
 intro pins s σ H Q I h
 refine wpAny_Call_method m.base m.few m.line PySem.F.plainAttrs_dict PySem.F.slot_dict_get PySem.F.type_dict_get (thn (ho pins s σ H _ I h) fun u s1 hq0=>?_)
 obtain⟨x,H1,I1,rx,a,ex,d,q1⟩:=hq0
 subst ex
 obtain rfl:u=Value.ref a:=rx
 obtain⟨t1,t2,_⟩:=wA I1 d
 refine⟨t1,t2,?_⟩
 rw[m.trees]
 refine Calls.callWith_builtin rfl (Calls.evalArgs_plain (Calls.spliced_cons (thn (he pins s1 σ H1 _ I1 q1) fun iv s2 ⟨y,H2,I2,ry,q2⟩=>
  Calls.spliced_cons (thn (hf pins s2 σ H2 _ I2 q2) fun fv s3 ⟨z,H3,I3,rz,ov,g,q3⟩=>Calls.spliced_nil ?_))))
 exact wI hu I3 g ry rz fun w' s4 I4 rw'=>⟨_,H3,I4,rw',q3⟩
end
section
variable{X:Cx}{pins:List (Addr×Obj)}{σ:St}{H:Hp}{s:Shared}{a:Addr}{kvs:List (Key×V)}{A:Around}{E:Value→Shared→Prop}
end
section
variable{X:Cx}{pins:List (Addr×Obj)}{σ:St}{H:Hp}{s:Shared}{a:Addr}{y:V}{u:Value}{A:Around}{E:Value→Shared→Prop}
end
end L2
namespace Att
open PySem PySem.W PySem.Calls PyProof.Rows
theorem Q8{P:Params}{h:Heap}:∀(ns:List Int) (vs:List Value),WellAll P h vs (ns.map WData.int)→IntsAre vs ns:=by
 intro ns
 induction ns with
 | nil=>
  intro vs w
  rw[List.map_nil]at w
  cases w
  exact .nil
 | cons n ns ih=>
  intro vs w
  rw[List.map_cons]at w
  cases w with
  | cons a b=>
   cases a
   exact .cons _ _ (ih _ b)
theorem fC{l:OpenLaw}{n:Nat}(hn:l.most=some n){P:Params}{h:Heap}{args:List WData}{vals:List Value}
  (hpre:l.row.toRowW.claim.pre args=true) (hwl:WellAll P h vals args) :
  ∃a vs ns,vals=[Value.ref a]∧args=[WData.list (ns.map WData.int)]∧h.get? a=some { cls:=.type "list",data:=.seq vs.toArray }∧IntsAre vs ns∧ns.length≤n:=by
 have hsh:WShape.hasAll [] args [.list .int]=true:=(pre_splitW hpre).1
 have hc:l.pre.holds [] { args:=args }=true:=(pre_splitW hpre).2
 obtain⟨d,r,rfl,h1,h2⟩:=hasAllW_cons hsh
 obtain rfl:=hasAllW_nil h2
 obtain⟨xs,rfl,h3⟩:=hasW_list h1
 obtain⟨ns,rfl⟩:=items_int h3
 have hlen:ns.length≤n:=by
  unfold OpenLaw.pre at hc
  have h4:(WTm.not (.lt (.lit (.int (n:Int))) (.len (.arg 0)))).holds [] { args:=[.list (ns.map .int)] }=true:=by
   have h4:=(holds_andW hc).1
   rw[hn]at h4
   exact h4
  have h5:=condW_of h4 (w_not (w_lt w_lit (w_len_list (w_arg rfl))))
  rw[List.length_map]at h5
  refine Nat.le_of_not_lt fun q=>?_
  have q':(n:Int)<((ns.length:Nat):Int):=by omega
  first
   | (rw[decide_eq_true q']at h5;exact absurd h5 (by decide))
   | (simp at h5;omega)
 cases hwl with
 | cons w1 w2=>
  cases w2
  cases w1 with
  | list ho hall=>exact⟨_,_,ns,rfl,rfl,ho,Q8 ns _ hall,hlen⟩
theorem fG(l:OpenLaw)(args:List WData):l.row.toRowW.claim.post args (.bool true) args=true:=
 postW_of (r:=l.row.toRowW) (X:=(true==true))
  (show WShape.has [] (.bool true) .bool=true by first | rfl | decide | simp[WShape.has,WShape.arms,WShape.armsAll])
  (show (WTm.eq .res (.lit (.bool true))).value [] { args:=args,res:=some (.bool true),after:=args }=some (.bool (true==true)) from w_eq_bool (w_res rfl) w_lit) rfl
theorem attach_call{l:OpenLaw}{n:Nat}{q:Program}{loose:List Str}{XP:(Str→Option Value)→Heap→Prop}{YP:World→Heap→Prop}{d:DefRec}
  (hn:l.most=some n) (hdf:d.params.defaults=[])
  (call:∀(w:World) (s₀ s₁:Shared) (mg mb:Str→Option Value) (fa:Addr) (o:Obj) (pm cd doc:Value) (a:Addr) (vs:List Value) (ns:List Int),
   Ground q loose [] XP w s₀ mg mb s₁.heap→YP w s₁.heap→
   s₁.heap.get? fa=some o→o.data=.func (docDef d.name d.params d.body d.scope pm cd doc)→s₁.heap.CodeRec cd d.name→mg d.name=some (.ref fa)→
   s₁.heap.get? a=some { cls:=.type "list",data:=.seq vs.toArray }→IntsAre vs ns→ns.length≤n→s₁.gens=#[]→
   codeAny (model l.prog w) callerA (.call (.ref fa) ⟨[.ref a],[]⟩) (fun r s'=>r=.ok (.ret (.bool true))∧OldK s₁.heap s'.heap∧s'.os=s₁.os∧AllBare s'.gens) s₁) :
  WalkO q loose XP YP l.row.toRowW d [] (fun f vs=>PySem.call f vs):=by
 intro w s₀ s₁ mg mb G Y fa o pm cd doc dV kV ho hd hcd hD hmg hg args vals as hpre hlay hrd hwl hlo
 obtain rfl:dV=.none:=Dflts.none hD hdf
 obtain rfl:kV=.none:=Dflts.noKw hD
 obtain⟨a,vs,ns,rfl,rfl,hobj,hints,hlen⟩:=fC hn hpre hwl
 refine enter_call (codeAny_mono (call w s₀ s₁ mg mb fa o pm cd doc a vs ns G Y ho (fd_plain hd) hcd hmg hobj hints hlen hg) fun r s' hq=>?_)
 obtain⟨rfl,h2,h3,h4⟩:=hq
 exact⟨.inl ⟨.bool true,.bool true,[],rfl,fun _=>rfl,.bool true,fG l _,fun _=>⟨List.Pairwise.nil,fun _ hm=>(nomatch hm)⟩⟩,h2,h3,h4⟩
section
variable{prog:Program}{w:World}{A:Around}{E:Value→Shared→Prop}{s:Shared}{K:Frag}
noncomputable def noObjs(h:Heap):Heap:={ h with objs:=#[] }
theorem noObjs_get(h:Heap)(b:Addr):(noObjs h).get? b=none:=by
 cases e:(noObjs h).get? b with
 | none=>rfl
 | some o=>exact absurd (Heap.lt_size e) (Nat.not_lt_zero _)
theorem fr_all{h:Heap}{L:Addr}{m:Str→Option Value}(n:h.Ns L m):Fr (noObjs h) L h m:=
 ⟨n,fun b o e=>(by rw[noObjs_get]at e;cases e),Nat.zero_le _⟩
end
end Att
namespace L2
open PySem PySem.Spec PyProof.Rows
theorem eN{vs:List Value}{ns:List Int}(h:IntsAre vs ns):Vals (ns.map V.int) vs:=by
 induction h with
 | nil=>exact .nil
 | cons n t h ih=>exact .cons ⟨t,rfl⟩ ih
def Only(H:Hp):Prop:=∀b,H b=none∨∃o xs,H b=some (.frz o (.lst xs))
theorem kY{P:Program}{w:World}{K:PySem.W.Frag}{mg mb:Str→Option Value}{CX:CXT}{k:Nat}{fa a:Addr}{fd:FuncData}{x:Str}{sp:Sp}{s₁:Shared}{vs:List Value}{ns:List Int}
  (KX:K.In s₁.heap) (hns:s₁.heap.Ns mainGlobals mg) (hb:s₁.heap.Ns builtinsNs mb) (hbb:∀x:Str,x≠"__name__"→mb x=bootBuiltins x) (hlim:s₁.heap.NoLimit) (hg:s₁.gens=#[])
  (ha:s₁.heap.get? a=some { cls:=.type "list",data:=.seq vs.toArray }) (hi:IntsAre vs ns) (hl:ns.length≤sizeLine) (hr:Room k callerA)
  (F:∀base:Heap,K.In base→base.Ns mainGlobals mg→FnOk P w K mg base CX k fa fd [x] sp) (hbind:∀(s:Shared) (u:Value),BindsTo s fd ⟨[u],[]⟩ [(x,u)])
  (hsp:∀H:Hp,Only H→SqL K H a (ns.map V.int)→sp [.ref a] H (fun v _=>v=.bl true) fun _ _ _=>False)
  (hCX:∀H e s',CX [] H s₁ (fun _ _ _=>False) e s'→False) :
  codeAny (model P w) callerA (.call (.ref fa) ⟨[.ref a],[]⟩) (fun r s'=>r=.ok (.ret (.bool true))∧OldK s₁.heap s'.heap∧s'.os=s₁.os∧AllBare s'.gens) s₁:=by
 have rv:=eN hi
 have lenV:=hi.length
 have core:∀H:Hp,Only H→SqL K H a (ns.map V.int)→HOk P w H s₁.heap→(∀b,H b≠none→b=a)→(H a≠none→K.lookup a=none)→
   codeAny (model P w) callerA (.call (.ref fa) ⟨[.ref a],[]⟩) (fun r s'=>r=.ok (.ret (.bool true))∧OldK s₁.heap s'.heap∧s'.os=s₁.os∧AllBare s'.gens) s₁:=by
  intro H hO hS hok hA hK
  have base_of:∀{b:Addr} {o:Obj},s₁.heap.get? b=some o→H b=none→(hidT s₁.heap H).get? b=some o:=fun e n=>lC e n
  have noA:∀{b:Addr} {o:Obj} {es:Array DictEntry} {ep:Nat},s₁.heap.get? b=some o→o.data=.dict es ep→H b=none:=fun {b o es ep} e d=>by
   cases q:H b with
   | none=>rfl
   | some u=>
    have e':b=a:=hA b (by rw[q];simp)
    subst e'
    rw[ha]at e;cases e
    have d':Data.seq vs.toArray _=Data.dict es ep:=d
    cases d'
  have nsK:∀{b:Addr} {m:Str→Option Value},s₁.heap.Ns b m→(hidT s₁.heap H).Ns b m:=fun {b m} ⟨o,es,ep,e,d,r⟩=>⟨o,es,ep,base_of e (noA e d),d,r⟩
  have hKb:K.In (hidT s₁.heap H):=fun b o e=>base_of (KX b o e) (by
   cases q:H b with
   | none=>rfl
   | some u=>
    have e':b=a:=hA b (by rw[q];simp)
    subst e'
    rw[hK (by rw[q];simp)]at e;cases e)
  have hM:Mod K mg (hidT s₁.heap H):=⟨hKb,nsK hns,⟨mb,nsK hb,hbb⟩,let ⟨mc,h1,h2⟩:=hlim;⟨mc,nsK h1,h2⟩⟩
  have e0:Env0 P w K mg (hidT s₁.heap H) callerA [] s₁ H:=⟨rfl,hM,fun b o e=>qW e,Nat.le_of_eq (gB _ _),trivial,fun b hb=>absurd (show b∈([]:List Addr) from hb) (by simp),hok,.of_eq hg⟩
  refine codeAny_mono ((F _ hKb (nsK hns)).run callerA [] s₁ H ⟨[.ref a],[]⟩ [.ref a] [.ref a] _ _ hr e0 (hbind s₁ (.ref a)) (.cons rfl .nil) (hsp H hO hS)) fun r s' h=>?_
  cases r with
  | error e=>exact(hCX H e s' h).elim
  | ok fl=>
   cases fl with
   | next=>exact False.elim h
   | brk=>exact False.elim h
   | cont=>exact False.elim h
   | ret u=>
    obtain⟨v,H',os,bare,un,hok',r',q⟩:=h
    have q':v=.bl true:=q
    subst q'
    obtain rfl:u=Value.bool true:=r'
    refine⟨rfl,OldK.of_keep fun b o e=>?_,os,bare⟩
    cases q:H b with
    | none=>exact un.keep b o e q (by intro z;exact absurd (show b∈([]:List Addr) from z) (by simp)) (by simp)
    | some u=>
     rcases hO b with z | ⟨ob,xs,z⟩
     ·rw[q]at z;cases z
     ·have z2:=un.frzs b ob _ z
      obtain⟨e1,_⟩:=hok b _ z
      obtain⟨e2,_⟩:=hok' b _ z2
      rw[e]at e1;cases e1
      exact e2
 cases hk:K.lookup a with
 | some o=>
  have e:=KX a o hk
  rw[ha]at e
  cases e
  refine core (fun _=>none) (fun _=>.inl rfl) (.inr ⟨_,vs.toArray,_,hk,rfl,rfl,rfl,by rw[List.size_toArray,lenV];exact hl,by simpa using rv⟩) (fun b u z=>by have z':(none:Option HO)=some u:=z;cases z') (fun b z=>absurd rfl z) fun z=>absurd rfl z
 | none=>
  refine core (fun b=>if b=a then some (.frz { cls:=.type "list",data:=.seq vs.toArray } (.lst (ns.map V.int))) else none) (fun b=>?_) (.inl (.inr ⟨{ cls:=.type "list",data:=.seq vs.toArray },if_pos rfl⟩)) (fun b u z=>?_) (fun b z=>?_) fun _=>hk
  ·by_cases hb:b=a
   ·exact .inr ⟨_,_,if_pos hb⟩
   ·exact .inl (if_neg hb)
  ·by_cases hb:b=a
   ·have z':=(if_pos hb).symm.trans z
    cases z'
    subst hb
    exact⟨ha,by rw[List.length_map];exact hl,vs,_,rv,ha⟩
   ·have z':=(if_neg hb).symm.trans z
    cases z'
  ·by_cases hb:b=a
   ·exact hb
   ·exact absurd (if_neg hb) z
end L2
namespace L2
open PySem PySem.Spec PyProof.Rows
theorem walk_of{l:PySem.W.OpenLaw}{n k:Nat}{q:Program}{loose:List Str}{XP:(Str→Option Value)→Heap→Prop}{YP:World→Heap→Prop}{d:DefRec}{K:Params→PySem.W.Frag}{CX:World→CXT}{sp:World→Sp}{x:Str}
  (hn:l.most=some n) (hn2:n≤sizeLine) (hdf:d.params.defaults=[]) (hr:Room k callerA)
  (hY:∀(w:World) (h:Heap),YP w h→(K w.params).In h)
  (F:∀(w:World) (mg:Str→Option Value) (fa:Addr) (h:Heap),(K w.params).In h→h.Ns mainGlobals mg→mg d.name=some (.ref fa)→
   ∃fd:FuncData,(∀(s:Shared) (u:Value),BindsTo s fd ⟨[u],[]⟩ [(x,u)])∧
    ∀base:Heap,(K w.params).In base→base.Ns mainGlobals mg→FnOk l.prog w (K w.params) mg base (CX w) k fa fd [x] (sp w))
  (hsp:∀(w:World) (H:Hp) (a:Addr) (ns:List Int),ns.length≤n→Only H→SqL (K w.params) H a (ns.map V.int)→sp w [.ref a] H (fun v _=>v=.bl true) fun _ _ _=>False)
  (hCX:∀(w:World) (H:Hp) (s:Shared) (e:Value) (s':Shared),CX w [] H s (fun _ _ _=>False) e s'→False) :
  PySem.W.WalkO q loose XP YP l.row.toRowW d [] (fun f vs=>PySem.call f vs):=by
 refine Att.attach_call hn hdf fun w s₀ s₁ mg mb fa o pm cd doc a vs ns G Y ho hd hcd hmg hobj hints hlen hg=>?_
 have KX:=hY w _ Y
 obtain⟨fd,hb,hF⟩:=F w mg fa _ KX G.T.g hmg
 exact kY KX G.T.g G.T.b G.T.builtins G.T.nolimit hg hobj hints (Nat.le_trans hlen hn2) hr hF hb (fun H hO hS=>hsp w H a ns hlen hO hS) fun H e s'=>hCX w H s₁ e s'
end L2
namespace L2
open PySem PySem.Spec PyProof.Rows
noncomputable def defArgs(s:Stmt):Arguments:=match s with
 | .FunctionDef _ a _ _ _ _ _ _ _ _=>a
 | _=>{ posonlyargs:=[],args:=[],vararg:=none,kwonlyargs:=[],kw_defaults:=[],kwarg:=none,defaults:=[] }
noncomputable def defBody(s:Stmt):List Stmt:=match s with
 | .FunctionDef _ _ b _ _ _ _ _ _ _=>b
 | _=>[]
noncomputable def defScope(s:Stmt):Scope:=match s with
 | .FunctionDef _ _ _ _ _ _ sc _ _ _=>sc
 | _=>{ kind:=.function,names:=[],isGenerator:=false,isCoroutine:=false }
noncomputable abbrev CX0:CXT:=fun _ _ _ _ _ _=>False
noncomputable abbrev E0:XK:=fun _ _ _=>False
theorem xY{X:Cx}:Passes CX0 X E0:=fun _ _ _ _ _ _ _ h=>h.elim
structure Fun(K:PySem.W.Frag)(x qual:Str)(st:Stmt)(f:Addr)(fd:FuncData):Prop where
 ex:∃(oc:Value) (od:Option Addr) (kV doc pm:Value) (an:Option Addr) (cdv ct:Value) (osl:Array (Option Value)),
  fd=PySem.W.fnOf x qual (defArgs st) (defBody st) (defScope st) .none kV doc pm an cdv ct∧K.lookup f=some ⟨oc,od,.func fd,osl⟩∧PySem.W.codeIn K cdv qual=true
 kp:PySem.W.keepIn K (.ref f)=true
section
variable{P:Program}{w:World}{K:PySem.W.Frag}{mg:Str→Option Value}{base:Heap}
theorem Fun.ok{x qual:Str}{st:Stmt}{f:Addr}{fd:FuncData}{N ps:List Str}{k:Nat}{sp:Sp}(F:Fun K x qual st f fd)(S:FnScope N ps (defScope st))(len:∀vs H Q E,sp vs H Q E→vs.length=ps.length)
  (hbody:∀(cdv:Value) (A:Around) (outer:List Env) (s:Shared) (H:Hp) (vs:List V) (Q:VK) (E:XK),Room k (A.deeper (envOfC qual (defScope st) s.heap.objs.size f cdv))→sp vs H Q E→
   ∃t,PSs (cxOf CX0 P w K mg base N qual (defScope st) f cdv A outer s H E).nox (defBody st) t∧t { nx:=fun _ H'=>Q .non H',rt:=Q } (start N vs) H):FnOk P w K mg base CX0 (k+1) f fd ps sp:=by
 obtain⟨oc,od,kV,doc,pm,an,cdv,ct,osl,rfl,lk,hcd⟩:=F.ex
 refine yP lk hcd S len fun A outer s H vs Q E hr hsp=>?_
 obtain⟨t,h,q⟩:=hbody cdv A outer s H vs Q E hr hsp
 exact⟨t,h.nox,q⟩
theorem Fun.binds{x qual:Str}{st:Stmt}{f:Addr}{fd:FuncData}{ps:List Str}(F:Fun K x qual st f fd)
  (h:∀(kV doc pm:Value) (an:Option Addr) (cdv ct:Value) (us:List Value),us.length=ps.length→bindArgs (PySem.W.fnOf x qual (defArgs st) (defBody st) (defScope st) .none kV doc pm an cdv ct) ⟨us,[]⟩=pure (ps.zip us)):Binds K fd ps []:=by
 obtain⟨oc,od,kV,doc,pm,an,cdv,ct,osl,rfl,lk,hcd⟩:=F.ex
 exact .all (h kV doc pm an cdv ct)
theorem EY{x qual:Str}{st:Stmt}{f:Addr}{oc:Value}{od an:Option Addr}{osl:Array (Option Value)}{kV doc pm cdv ct:Value}(l:K.lookup f=some ⟨oc,od,.func (PySem.W.fnOf x qual (defArgs st) (defBody st) (defScope st) .none kV doc pm an cdv ct),osl⟩)
  (c:PySem.W.codeIn K cdv qual=true) (k:PySem.W.keepIn K (.ref f)=true):Fun K x qual st f (PySem.W.fnOf x qual (defArgs st) (defBody st) (defScope st) .none kV doc pm an cdv ct):=⟨⟨oc,od,kV,doc,pm,an,cdv,ct,osl,rfl,l,c⟩,k⟩
end
theorem GD{A:Around}{k:Nat}(hr:Room k A):A.units+1<cLine:=Nat.lt_of_le_of_lt (Nat.add_le_add_left (by decide:1≤64) _) hr.units
section
variable{X:Cx}
theorem pv(i:Nat){x:Str}{pos:Pos}(hN:X.N[i]?=some x:=by rfl)(hv:Vis X.env.scope x:=by first | exact Or.inl rfl | exact Or.inr (Or.inl rfl) | exact Or.inr (Or.inr rfl))(hd:(x==("__debug__" : Str))=false:=by decide)
  (hcd:(x==("__classdict__" : Str))=false:=by decide):PE X (.Name x pos) (tVar i):=jD hN hv hd hcd
end
def Same(H H':Hp):Prop:=∀b o,H b=some o→H' b=some o
theorem Same.refl(H:Hp):Same H H:=fun _ _ h=>h
section
variable{X:Cx}
end
section
variable{κ:Type}[DecidableEq κ]
end
end L2
end
section
namespace L2
open PySem PySem.Spec PyProof.Rows
noncomputable def closL(cells:List (Str×Addr)):List (Str×NameKind)→List (Str×Addr)→List (Str×Addr)
 | [],acc=>acc
 | (n,k)::r,acc=>closL cells r (if k==.free then (match cells.lookup n with | some c=>(n,c)::acc | none=>acc) else acc)
theorem OJ{cells:List (Str×Addr)}:∀{names:List (Str×NameKind)} {acc:List (Str×Addr)} {x:Str} {c:Addr},(∀x c,acc.lookup x=some c→cells.lookup x=some c)→
  (closL cells names acc).lookup x=some c→cells.lookup x=some c
 | [],acc,x,c,h,e=>h x c e
 | (n,k)::r,acc,x,c,h,e=>by
  refine OJ (names:=r) (fun y d q=>?_) e
  by_cases hk:(k==NameKind.free)=true
  ·rw[if_pos hk]at q
   cases hl:cells.lookup n with
   | none=>rw[hl]at q;exact h y d q
   | some c'=>
    rw[hl]at q
    simp only[List.lookup_cons]at q
    cases hy:y==n with
    | true=>
     rw[hy]at q
     have:y=n:=by simpa using hy
     subst this
     cases q
     exact hl
    | false=>rw[hy]at q;exact h y d q
  ·rw[if_neg hk]at q
   exact h y d q
theorem RK{cells:List (Str×Addr)}:∀{names:List (Str×NameKind)} {acc:List (Str×Addr)} {x:Str},(acc.lookup x).isSome=true→((closL cells names acc).lookup x).isSome=true
 | [],_,_,h=>h
 | (n,k)::r,acc,x,h=>by
  refine RK (names:=r) ?_
  split
  ·split
   ·simp only[List.lookup_cons]
    cases hx:x==n with
    | true=>rfl
    | false=>exact h
   ·exact h
  ·exact h
theorem T9{cells:List (Str×Addr)}:∀{names:List (Str×NameKind)} {acc:List (Str×Addr)} {x:Str},(x,NameKind.free)∈names→(cells.lookup x).isSome=true→((closL cells names acc).lookup x).isSome=true
 | [],_,_,h,_=>nomatch h
 | (n,k)::r,acc,x,h,hc=>by
  rcases List.mem_cons.mp h with e | h
  ·cases e
   refine RK (names:=r) ?_
   rw[if_pos (by rfl)]
   cases hl:cells.lookup n with
   | none=>rw[hl]at hc;cases hc
   | some c=>simp[List.lookup_cons]
  ·exact T9 (names:=r) h hc
theorem LQ{scope:Scope}{env:Env}(h:∀y∈scope.names,y.2=.free→(env.cells.lookup y.1).isSome=true):closureFor scope env=pure (closL env.cells scope.names []):=by
 have go:∀(names:List (Str×NameKind)) (acc:List (Str×Addr)),(∀y∈names,y.2=.free→(env.cells.lookup y.1).isSome=true)→
   (forIn names acc (fun(x:Str×NameKind) (cs:List (Str×Addr))=>match x with
    | (name,kind)=>if (kind==NameKind.free)=true then (do let c ←cellOf env name;pure (ForInStep.yield ((name,c)::cs)):Sem _) else pure (ForInStep.yield cs)):Sem _)=pure (closL env.cells names acc):=by
  intro names
  induction names with
  | nil=>intro acc _;rfl
  | cons y r ih=>
   intro acc hy
   obtain⟨n,k⟩:=y
   rw[List.forIn_cons]
   by_cases hk:(k==NameKind.free)=true
   ·have hs:=hy (n,k) List.mem_cons_self (by simpa using hk)
    obtain⟨c,hc⟩:=Option.isSome_iff_exists.mp hs
    have hc:env.cells.lookup n=some c:=hc
    have e:cellOf env n=pure c:=by unfold cellOf;rw[hc]
    have e2:=ih ((n,c)::acc) fun z hz=>hy z (List.mem_cons_of_mem _ hz)
    simp only[hk,if_true,e,closL,hc]
    exact e2
   ·have e2:=ih acc fun z hz=>hy z (List.mem_cons_of_mem _ hz)
    simp only[hk,closL]
    exact e2
 unfold closureFor
 have g:=go scope.names [] h
 exact(congrArg (fun m=>m >>= fun cs=>(pure cs:Sem _)) g).trans rfl
noncomputable abbrev blkEnv (X:Cx) (scope:Scope) (C:Addr):Env:=compEnvC scope (closL X.env.cells scope.names []) C X.env
noncomputable abbrev cxC (X:Cx) (scope:Scope) (own:List Str) (C:Addr) (s₀:Shared) (H₀:Hp) (ex:List Addr):Cx where
 prog:=X.prog
 w:=X.w
 K:=X.K
 mg:=X.mg
 base:=X.base
 A:=X.A
 N:=X.N++own
 s₀:=s₀
 H₀:=H₀
 env:=blkEnv X scope C
 outer:=X.stack
 stack:=X.stack
 ex:=ex
 fn:=fun _=>false
 calm:=X.calm
 pn:=[]
 xe:=fun _ _=>False
structure BlkOk(X:Cx)(scope:Scope)(own:List Str):Prop where
 kind:scope.kind=.function
 fr:(scope.names.all fun y=>y.2 != .free||X.env.kindOf y.1==some .cell)=true
 cell:(scope.names.all fun y=>y.2 != .cell)=true
 nm:(scope.names.all fun y=>y.2 != .local||scope.names.lookup y.1==some .local)=true
 apart:(X.N.all fun x=>scope.names.lookup x != some .local)=true
 fun':X.env.scope.kind=.function
theorem BlkOk.fr'{X:Cx}{scope:Scope}{own:List Str}(B:BlkOk X scope own):∀y∈scope.names,y.2=.free→X.env.kindOf y.1=some .cell:=fun y hy e=>by
 have:=List.all_eq_true.mp B.fr y hy
 rw[e]at this
 simpa using this
theorem BlkOk.cell'{X:Cx}{scope:Scope}{own:List Str}(B:BlkOk X scope own):∀y∈scope.names,y.2≠.cell:=fun y hy e=>by
 have:=List.all_eq_true.mp B.cell y hy
 rw[e]at this
 simp at this
theorem BlkOk.nm'{X:Cx}{scope:Scope}{own:List Str}(B:BlkOk X scope own):∀y∈scope.names,y.2=.local→scope.names.lookup y.1=some .local:=fun y hy e=>by
 have:=List.all_eq_true.mp B.nm y hy
 rw[e]at this
 simpa using this
theorem IW{X:Cx}{scope:Scope}{own:List Str}(B:BlkOk X scope own):∀{names:List (Str×NameKind)} {x:Str},(∀y∈names,y∈scope.names)→
  ((names.map fun(n,k)=>if (k==NameKind.free&&X.env.scope.kind==.function&&X.env.kindOf n==some .cell) then (n,NameKind.cell) else (n,k)).lookup x=some .cell∨
   (names.map fun(n,k)=>if (k==NameKind.free&&X.env.scope.kind==.function&&X.env.kindOf n==some .cell) then (n,NameKind.cell) else (n,k)).lookup x=some .free)→(x,NameKind.free)∈names∧X.env.kindOf x=some .cell
 | [],x,_,h=>by simp at h
 | (n,k)::r,x,hs,h=>by
  have ih:=@IW X scope own B r x (fun y hy=>hs y (List.mem_cons_of_mem _ hy))
  have hn:=hs (n,k) List.mem_cons_self
  simp only[List.map_cons]at h
  by_cases hx:(x==n)=true
  ·have e:x=n:=by simpa using hx
   subst e
   by_cases hk:k=.free
   ·subst hk
    exact⟨List.mem_cons_self,B.fr' _ hn rfl⟩
   ·have hc:=B.cell' _ hn
    have hkf:(k==NameKind.free)=false:=by simpa using hk
    simp only[hkf,Bool.false_and,Bool.false_eq_true,if_false,List.lookup_cons,beq_self_eq_true]at h
    rcases h with h | h
    ·cases h;exact absurd rfl hc
    ·cases h;exact absurd rfl hk
  ·have hx':(x==n)=false:=by simpa using hx
   have key:∀kk:NameKind,(List.lookup x ((if (k==NameKind.free&&X.env.scope.kind==.function&&X.env.kindOf n==some .cell)=true then (n,NameKind.cell) else (n,k))::(r.map fun(n,k)=>if (k==NameKind.free&&X.env.scope.kind==.function&&X.env.kindOf n==some .cell) then (n,NameKind.cell) else (n,k)))=some kk)→
     (r.map fun(n,k)=>if (k==NameKind.free&&X.env.scope.kind==.function&&X.env.kindOf n==some .cell) then (n,NameKind.cell) else (n,k)).lookup x=some kk:=by
    intro kk q
    split at q<;>simpa only [List.lookup_cons,hx'] using q
   have:=ih (h.imp (key _) (key _))
   exact⟨List.mem_cons_of_mem _ this.1,this.2⟩
theorem JB{X:Cx}{scope:Scope}{own:List Str}(B:BlkOk X scope own):∀{names:List (Str×NameKind)} {x:Str},(∀y∈names,y∈scope.names)→
  (names.map fun(n,k)=>if (k==NameKind.free&&X.env.scope.kind==.function&&X.env.kindOf n==some .cell) then (n,NameKind.cell) else (n,k)).lookup x=some .local→scope.names.lookup x=some .local
 | [],x,_,h=>by simp at h
 | (n,k)::r,x,hs,h=>by
  have ih:=@JB X scope own B r x (fun y hy=>hs y (List.mem_cons_of_mem _ hy))
  have hn:=hs (n,k) List.mem_cons_self
  simp only[List.map_cons]at h
  by_cases hx:(x==n)=true
  ·have e:x=n:=by simpa using hx
   subst e
   split at h
   ·simp only[List.lookup_cons,beq_self_eq_true]at h
    cases h
   ·simp only[List.lookup_cons,beq_self_eq_true]at h
    cases h
    exact B.nm' _ hn rfl
  ·have hx':(x==n)=false:=by simpa using hx
   refine ih ?_
   split at h<;>simpa only [List.lookup_cons,hx'] using h
section
variable{X:Cx}{scope:Scope}{own:List Str}{pins:List (Addr×Obj)}{σ:St}{H:Hp}{s:Shared}{fp:List Addr}
theorem gP(B:BlkOk X scope own)(I:Inv X pins σ H s)(hf:∀b∈fp,FpOk X pins H b)(hfo:∀b∈fp,∃o,s.heap.get? b=some o){h':Heap}{t':Nat}
  (hn:h'.Ns s.heap.objs.size (fun _=>none)) (hk:∀b o,s.heap.get? b=some o→h'.get? b=some o) :
  Inv (cxC X scope own s.heap.objs.size s H fp) [] (σ++List.replicate own.length none) H { s with heap:=h',toks:=t' }:=by
 have hcl:∀x c,(closL X.env.cells scope.names []).lookup x=some c→X.env.cells.lookup x=some c:=fun x c e=>OJ (names:=scope.names) (acc:=[]) (fun _ _ z=>by simp at z) e
 have hhas:∀x,(x,NameKind.free)∈scope.names→X.env.kindOf x=some .cell→∃c,(closL X.env.cells scope.names []).lookup x=some c:=fun x hx hk=>by
  obtain⟨c,e⟩:=I.ok.has x (.inl hk)
  exact Option.isSome_iff_exists.mp (T9 hx (by rw[e];rfl))
 have fpl:∀b∈fp,b<s.heap.objs.size:=fun b hb=>let ⟨o,e⟩:=hfo b hb;Heap.lt_size e
 refine⟨⟨I.mod,B.kind,I.ok.glob,I.ok.blt,Nat.le_refl _,fun x y c h1 h2=>I.ok.inj x y c (hcl x c h1) (hcl y c h2),fun x hx=>?_,fun x c hf _=>absurd hf Bool.false_ne_true,I.ok.hd,I.ok.frames,.inl rfl,fun b hb=>⟨Nat.ne_of_lt (fpl b hb),fun x c e=>(hf b hb).2.2.2.2.1 x c (hcl x c e)⟩,
   I.bs,Nat.le_trans I.ok.bsz I.sz,fun b o e hb=>?_,fun b hb z=>?_,I.stack,I.stkFree⟩,rfl,I.bare,Un.kept hk,⟨_,hn,fun i x v e1 e2 e3=>?_⟩,fun x c e=>?_,I.hok.fresh (Nat.le_refl _),fun x c e=>I.freeC x c (hcl x c e),fun p hp=>absurd (show p∈([]:List (Addr×Obj)) from hp) (by simp),I.hok.kept hk,?_⟩
 ·have q:=IW B (names:=scope.names) (x:=x) (fun _ z=>z) hx
  exact hhas x q.1 q.2
 ·rcases(hf b hb).2.2.2.1 with z | z
  ·exact I.ok.noex b o e z
  ·exact absurd (Nat.lt_of_lt_of_le (Heap.lt_size e) (Nat.le_trans I.ok.bsz z)) (Nat.lt_irrefl _)
 ·rcases List.mem_cons.mp (I.stkSub b z) with e | e
  ·exact(hf b hb).2.1 e
  ·exact(hf b hb).2.2.1 e
 ·have hi:i<σ.length:=by
   by_cases hi:i<σ.length
   ·exact hi
   ·rw[List.getElem?_append_right (Nat.le_of_not_lt hi),List.getElem?_replicate]at e2
    split at e2<;>cases e2
  rw[List.getElem?_append_left hi]at e2
  rw[List.getElem?_append_left (by rw[←I.len];exact hi)]at e1
  obtain⟨m,hm,hl⟩:=I.loc
  have nl:scope.names.lookup x≠some .local:=by
   have:=List.all_eq_true.mp B.apart x (List.mem_of_getElem? e1)
   simpa using this
  have q:(x,NameKind.free)∈scope.names∧X.env.kindOf x=some .cell:=by
   rcases e3 with e3 | e3 | e3
   ·exact absurd (JB B (names:=scope.names) (fun _ z=>z) e3) nl
   ·exact IW B (names:=scope.names) (fun _ z=>z) (.inl e3)
   ·exact IW B (names:=scope.names) (fun _ z=>z) (.inr e3)
  obtain⟨u,r,lk⟩:=hl i x v e1 e2 (.inr (.inl q.2))
  refine⟨u,r,?_⟩
  rcases lk with ⟨k1,_⟩ | ⟨_,c,ec,z⟩
  ·rw[q.2]at k1;cases k1
  ·obtain⟨c',ec'⟩:=hhas x q.1 q.2
   have:c'=c:=by
    have:=hcl x c' ec'
    rw[ec]at this
    exact(Option.some.inj this).symm
   subst this
   refine .inr ⟨?_,c',ec',?_⟩
   ·rcases e3 with e3 | e3 | e3
    ·exact absurd (JB B (names:=scope.names) (fun _ z=>z) e3) nl
    ·exact .inl e3
    ·exact .inr e3
   ·obtain⟨o,ho,hd⟩:=z
    exact⟨o,hk _ _ ho,hd⟩
 ·obtain⟨v,o,ho,hd⟩:=I.cell x c (hcl x c e)
  exact⟨v,o,hk _ _ ho,hd⟩
 ·show (σ++List.replicate own.length none).length=(X.N++own).length
  rw[List.length_append,List.length_append,List.length_replicate,I.len]
theorem tH(I:Inv X pins σ H s)(hf:∀b∈fp,FpOk X pins H b){σ':St}{H':Hp}{s':Shared}{h'':Heap}
  (J:Inv (cxC X scope own s.heap.objs.size s H fp) [] σ' H' s') (hs:Heap.SameBut s.heap.objs.size s'.heap h''):Inv X pins σ H' { s' with heap:=h'' }:=by
 have hC:H' s.heap.objs.size=none:=J.free
 have hok:HOk X.prog X.w H' h'':=fun b u e=>(J.hok b u e).stay (fun c v hc q=>(hs.2 c ?_).trans q) (fun _ q=>q) fun _ _ q=>q
 ·refine I.call' (s':={ s' with heap:=h'' }) (ch:=fp) J.os ⟨fun b o e n hb hx=>?_,fun b o e n hb hx=>?_,J.base.free,fun b o e hx=>?_,J.base.tups,J.base.frzs,J.base.tbls⟩ hok J.bare fun b hb=>?_
  ·exact(hs.2 b (Nat.ne_of_lt (Heap.lt_size e))).trans (J.base.keep b o e n hb hx)
  ·obtain⟨sl,q⟩:=J.base.slot b o e n hb hx
   exact⟨sl,(hs.2 b (Nat.ne_of_lt (Heap.lt_size e))).trans q⟩
  ·obtain⟨o',q⟩:=J.base.there b o e hx
   exact⟨o',(hs.2 b (Nat.ne_of_lt (Heap.lt_size e))).trans q⟩
  ·obtain⟨_,f1,_,f3,f4,f5⟩:=hf b hb
   exact⟨f3,f1,f4,f5⟩
 ·intro z
  subst z
  rcases hc with z | z
  ·rw[←z,hC]at e;cases e
  ·rw[hC]at z;cases z
end
def PTs(X:Cx)(ifs:List Expr)(t:TT):Prop:=
 ∀(pins:List (Addr×Obj)) (s:Shared) (σ:St) (H:Hp) (Q:Bool→Hp→Prop),Inv X pins σ H s→t σ H Q→
  wpAny (model X.prog X.w) X.A (forIn ifs true fun c r=>if r=true then do let ok ←isTrue c X.env (eval c X.env);pure (ForInStep.yield ok) else pure (ForInStep.yield r)) (TP X pins σ Q) X.xe s
noncomputable def tYes:TT:=fun _ H Q=>Q true H
theorem pJ{X:Cx}:PTs X [] tYes:=fun _ _ _ H _ I h=>wpAny_tests_nil ⟨H,I,h⟩
theorem pI{X:Cx}{c:Expr}{t:TT}(h:PT X c t):PTs X [c] t:=fun pins s σ H Q I hw=>wpAny_tests_one (h pins s σ H Q I hw)
section
variable{prog:Program}{w:World}{A:Around}{R:Result→Shared→Prop}{s:Shared}
theorem W7{elt target iter:Expr}{ifs:List Expr}{scope:Scope}{pos:Pos}{it acc:Value}{env:Env}(I:Nat→Shared→Prop)
  (turn:∀n s,I n s→wpAny (model prog w) A (pyNext it) (fun r s₁=>match r with
   | none=>R (.ok .next) s₁
   | some v=>wpAny (model prog w) A (letOwnedTupleGo target it v) (fun _ s₁=>wpAny (model prog w) A (assign target env v) (fun _ s₂=>
     wpAny (model prog w) A (forIn ifs true fun c r=>if r=true then do let ok ←isTrue c env (eval c env);pure (ForInStep.yield ok) else pure (ForInStep.yield r)) (fun ok s₃=>
      if ok=true then wpAny (model prog w) A (eval elt env) (fun x s₄=>
       wpAny (model prog w) A (call (.builtin "list.append") [acc,x]) (fun _ s₅=>∃m,m<n∧I m s₅) (fun _ _=>False) s₄) (fun _ _=>False) s₃
      else ∃m,m<n∧I m s₃) (fun _ _=>False) s₂) (fun _ _=>False) s₁) (fun _ _=>False) s₁) (fun _ _=>False) s)
  (n:Nat) (h:I n s) :
  codeAny (model prog w) A (.compLoop (.ListComp elt [⟨target,iter,ifs,0⟩] scope pos) 0 it acc env) R s:=by
 refine codeAny_loop rfl I (fun n s hI=>?_) n h
 show wpAny _ A ((compTurn (.ListComp elt [⟨target,iter,ifs,0⟩] scope pos) 0 it acc env).onRaise (fun x=>do noteFrame x env;theTreesLotGoes x)) _ _ s
 refine wpAny_noted ?_
 rw[compTurn_list]
 refine wpAny_bind (wpAny_standAt (wpAny_bind (wpAny_mono (turn n s hI) (fun r s₁ h₁=>?_) fun _ _ h'=>h'.elim)))
 cases r with
 | none=>exact wpAny_pure h₁
 | some v=>
  refine wpAny_bind (wpAny_mono h₁ (fun _ s₁ h₁=>?_) fun _ _ h'=>h'.elim)
  refine wpAny_bind (wpAny_mono h₁ (fun _ s₂ h₂=>wpAny_bind (wpAny_mono h₂ (fun ok s₃ h₃=>?_) fun _ _ h'=>h'.elim)) fun _ _ h'=>h'.elim)
  cases ok with
  | false=>exact wpAny_pure ⟨rfl,h₃⟩
  | true=>
   exact wpAny_bind (wpAny_bind (wpAny_mono h₃ (fun x s₄ h₄=>wpAny_bind (wpAny_mono h₄ (fun _ s₅ h₅=>wpAny_pure (wpAny_pure ⟨rfl,h₅⟩)) fun _ _ h'=>h'.elim)) fun _ _ h'=>h'.elim))
end
noncomputable def tComp(wi:TI)(k:Nat)(g:TG)(tt:TT)(te:TE):TE:=fun σ H Q=>wi σ H fun J H1=>∀D,H1 D=none→∃W:Nat→Nat→St→Hp→Prop,
 (∃m,W 0 m (σ++List.replicate k none) (upd H1 D (.lst [])))∧∀i m σ' H',W i m σ' H'→
  (J.stop i H'∧Q (.ref D) H')∨(J.go i H'∧∀x H2,J.yld i H' x H2→g x σ' H2 fun σ2 H3=>tt σ2 H3 fun c H4=>
   if c=true then te σ2 H4 fun y H5=>∃ys,H5 D=some (.lst ys)∧ys.length<sizeLine∧∃m',m'<m∧W (i+1) m' σ2 (upd H5 D (.lst (ys++[y])))
   else ∃m',m'<m∧W (i+1) m' σ2 H4)
section
variable{X:Cx}{scope:Scope}{own:List Str}{elt tg iter:Expr}{ifs:List Expr}{pos:Pos}{wi:TI}{g:TG}{tt:TT}{te:TE}
theorem dR(B:BlkOk X scope own)(hc:X.calm=true)(hg:∀C s₀ H₀ ex,PG (cxC X scope own C s₀ H₀ ex) tg g)(ht:∀C s₀ H₀ ex,PTs (cxC X scope own C s₀ H₀ ex) ifs tt)(he:∀C s₀ H₀ ex,PE (cxC X scope own C s₀ H₀ ex) elt te)
  {pins:List (Addr×Obj)} {σ:St} {H2:Hp} {s₂:Shared} {it:Addr} {fp:List Addr} {tn:Nat→Heap→Prop} {J:It} {Q:VK} {E:Value→Shared→Prop} (I2:Inv X pins σ H2 s₂) (T:Turn X.prog X.w X.K tg J fp it tn) (st:tn 0 s₂.heap) (f2:∀b∈fp,FpOk X pins H2 b)
  (q2:∀D,H2 D=none→∃W:Nat→Nat→St→Hp→Prop,
   (∃m,W 0 m (σ++List.replicate own.length none) (upd H2 D (.lst [])))∧∀i m σ' H',W i m σ' H'→
    (J.stop i H'∧Q (.ref D) H')∨(J.go i H'∧∀x H2,J.yld i H' x H2→g x σ' H2 fun σ2 H3=>tt σ2 H3 fun c H4=>
     if c=true then te σ2 H4 fun y H5=>∃ys,H5 D=some (.lst ys)∧ys.length<sizeLine∧∃m',m'<m∧W (i+1) m' σ2 (upd H5 D (.lst (ys++[y])))
     else ∃m',m'<m∧W (i+1) m' σ2 H4))
  {RR:Value→Addr→Result→Shared→Prop}
  (hR:∀D C H' s' m,s'.heap.Ns C m→(∀h'',Heap.SameBut C s'.heap h''→Inv X pins σ H' { s' with heap:=h'' })→C≠X.env.locals→(∀x c,X.env.cells.lookup x=some c→c≠C)→s₂.heap.objs.size<C→H' C=none→Q (.ref D) H'→RR (.ref D) C (.ok .next) s') :
  wpAny (model X.prog X.w) X.A (newList []) (fun acc s₃=>wpAny (model X.prog X.w) X.A (newFunctionEnv scope X.env.globals (closL X.env.cells scope.names []) [] X.env.qual none .none (some X.env)) (fun cenv s₄=>
   codeAny (model X.prog X.w) X.A (.compStart (.ListComp elt [⟨tg,iter,ifs,0⟩] scope pos) 0 (.ref it) acc { cenv with scope:=relabel scope X.env }) (RR acc cenv.locals) s₄) E s₃) E s₂:=by
 have I3:=I2.lnew (ys:=[]) (its:=[]) (t':=s₂.toks) .nil (by simp)
 refine wpAny_newObj_type (wpAny_newFunctionEnv B.cell' (by intro y hy;simp at hy) (fun h₁ hns₁ hsb₁=>?_) B.kind)
 have hfr:H2 s₂.heap.objs.size=none:=I2.fresh
 obtain⟨W,⟨m0,w0⟩,turn⟩:=q2 s₂.heap.objs.size hfr
 generalize hs3:({ s₂ with heap:=s₂.heap.push { cls:=.type "list",data:=.seq ([]:List Value).toArray },toks:=s₂.toks }:Shared)=s₃ at I3
 have e3:s₃.heap=s₂.heap.push { cls:=.type "list",data:=.seq ([]:List Value).toArray }:=by rw[←hs3]
 have k3:∀b o,s₂.heap.get? b=some o→s₃.heap.get? b=some o:=fun b o e=>by rw[e3];exact Heap.get?_push_of_some _ e
 have f3:∀b∈fp,FpOk X pins (upd H2 s₂.heap.objs.size (.lst [])) b:=fun b hb=>by
  obtain⟨o,e,_⟩:=T.obj 0 _ st b hb
  refine⟨?_,(f2 b hb).2⟩
  rw[CJ (Nat.ne_of_lt (Heap.lt_size e))]
  exact(f2 b hb).1
 have fo3:∀b∈fp,∃o,s₃.heap.get? b=some o:=fun b hb=>by
  obtain⟨o,e,_⟩:=T.obj 0 _ st b hb
  exact⟨o,k3 b o e⟩
 have k4:∀b o,s₃.heap.get? b=some o→h₁.get? b=some o:=fun b o e=>by
  have hb:b<s₃.heap.objs.size:=Heap.lt_size e
  have q:(s₃.heap.push { cls:=.type (if (some X.env).isSome then "dict" else "frame"),data:=.dict #[] }).get? b=some o:=Heap.get?_push_of_some _ e
  have hsb:Heap.SameBut s₃.heap.objs.size (s₃.heap.push { cls:=.type (if (some X.env).isSome then "dict" else "frame"),data:=.dict #[] }) h₁:=by rw[e3];exact hsb₁
  exact(hsb.2 b (Nat.ne_of_lt hb)).trans q
 have hn4:h₁.Ns s₃.heap.objs.size (fun _=>none):=by
  rw[e3]
  exact hns₁
 have J4:=gP (own:=own) (t':=s₃.toks+([]:List (Str×Value)).length) B I3 f3 fo3 hn4 k4
 have tn4:tn 0 h₁:=T.keep 0 _ _ st fun b _ o e=>k4 b o (k3 b o e)
 have stat:∀{H':Hp},(∀b∈fp,H' b=none)→∀b∈fp,FpOk (cxC X scope own s₃.heap.objs.size s₃ (upd H2 s₂.heap.objs.size (.lst [])) fp) [] H' b:=fun {H'} hn b hb=>by
  obtain⟨_,g1,g2,g3,g4,g5⟩:=f3 b hb
  obtain⟨o,e⟩:=fo3 b hb
  refine⟨hn b hb,Nat.ne_of_lt (Heap.lt_size e),fun z=>?_,.inl hb,fun x c e=>g4 x c (OJ (names:=scope.names) (acc:=[]) (fun _ _ z=>by simp at z) e),fun p hp=>absurd (show p∈([]:List (Addr×Obj)) from hp) (by simp)⟩
  rcases List.mem_cons.mp (I3.stkSub b z) with e | e
  ·exact g1 e
  ·exact g2 e
 have loop:∀s4:Shared,s4={ s₃ with heap:=h₁,toks:=s₃.toks+([]:List (Str×Value)).length }→
   codeAny (model X.prog X.w) X.A (.compLoop (.ListComp elt [⟨tg,iter,ifs,0⟩] scope pos) 0 (.ref it) (.ref s₂.heap.objs.size) (blkEnv X scope s₃.heap.objs.size)) (RR (.ref s₂.heap.objs.size) s₃.heap.objs.size) s4:=by
  rintro s4 rfl
  refine W7 (fun n s'=>∃i σ' H',Inv (cxC X scope own s₃.heap.objs.size s₃ (upd H2 s₂.heap.objs.size (.lst [])) fp) [] σ' H' s'∧tn i s'.heap∧(∀b∈fp,H' b=none)∧W i n σ' H') ?_ m0
   ⟨0,_,_,J4,tn4,fun b hb=>(f3 b hb).1,w0⟩
  rintro n s5 ⟨i,σ5,H5,I5,st5,fr5,w5⟩
  rcases turn i n σ5 H5 w5 with ⟨stop,qn⟩ | ⟨go,step⟩
  ·refine thn (T.done (cxC X scope own s₃.heap.objs.size s₃ (upd H2 s₂.heap.objs.size (.lst [])) fp) rfl rfl rfl hc i [] s5 σ5 H5 _ I5 (stat fr5) st5 stop) fun r s6 hq0=>?_
   obtain⟨hr,I6⟩:=hq0
   subst hr
   obtain⟨m6,n6,_⟩:=I6.loc
   refine hR _ _ H5 s6 m6 n6 (fun h'' hs=>tH I3 f3 I6 hs) (Nat.ne_of_gt I3.lt) (fun x c e=>?_) (by rw[e3,Heap.size_push];exact Nat.lt_succ_self _) I6.free qn
   obtain⟨v,z⟩:=I3.cell x c e
   exact Nat.ne_of_lt z.lt
  ·refine thn (T.item (cxC X scope own s₃.heap.objs.size s₃ (upd H2 s₂.heap.objs.size (.lst [])) fp) rfl rfl rfl hc i [] s5 σ5 H5 _ I5 (stat fr5) st5 go) fun r s6 hq0=>?_
   obtain⟨u,hr,h6⟩:=hq0
   subst hr
   refine thn h6 fun _ s7 hq0=>?_
   obtain⟨x,H7,I7,r7,y7,st7,fr7⟩:=hq0
   have I7':=I7.pinned (stat fr7) (T.obj _ _ st7)
   refine thn (hg _ _ _ _ _ s7 σ5 H7 x u _ I7' r7 (step x H7 y7)) fun _ s8 hq0=>?_
   obtain⟨σ8,H8,I8,q8⟩:=hq0
   refine thn (ht _ _ _ _ _ s8 σ8 H8 _ I8 q8) fun c s9 hq0=>?_
   obtain⟨H9,I9,q9⟩:=hq0
   have again:∀{s10:Shared} {H10:Hp},Inv (cxC X scope own s₃.heap.objs.size s₃ (upd H2 s₂.heap.objs.size (.lst [])) fp) ([]++pinsAt fp s7.heap) σ8 H10 s10→(∃m',m'<n∧W (i+1) m' σ8 H10)→
     ∃m,m<n∧∃i σ' H',Inv (cxC X scope own s₃.heap.objs.size s₃ (upd H2 s₂.heap.objs.size (.lst [])) fp) [] σ' H' s10∧tn i s10.heap∧(∀b∈fp,H' b=none)∧W i m σ' H':=fun {s10 H10} I10 hq0=>by
    obtain⟨m',hm,w10⟩:=hq0
    refine⟨m',hm,i+1,σ8,H10,I10.unpinned,T.keep _ _ _ st7 fun b hb o e=>(I10.pin (b,o) (List.mem_append_right _ (List.mem_append_right _ (JM hb e)))).1,fun b hb=>?_,w10⟩
    obtain⟨o,e,d⟩:=T.obj _ _ st7 b hb
    exact(I10.pin (b,o) (List.mem_append_right _ (List.mem_append_right _ (JM hb e)))).2.1
   cases c with
   | false=>
    rw[if_neg Bool.false_ne_true]at q9 ⊢
    exact again I9 q9
   | true=>
    rw[if_pos rfl]at q9 ⊢
    refine thn (he _ _ _ _ _ s9 σ8 H9 _ I9 q9) fun y s10 hq0=>?_
    obtain⟨z,H10,I10,r10,q10⟩:=hq0
    obtain⟨ys,eD,hz,m',hm,w10⟩:=q10
    refine thn (SM _ s10 σ8 H10 (.ref s₂.heap.objs.size) [z] (.ref s₂.heap.objs.size) [y] (fun _ H11=>W (i+1) m' σ8 H11) I10 rfl (.cons r10 .nil) ⟨_,ys,z,rfl,rfl,eD,hz,w10⟩) fun _ s11 hq0=>?_
    obtain⟨_,H11,I11,_,q11⟩:=hq0
    exact again I11 ⟨m',hm,q11⟩
 exact codeAny_compStart_list (loop _ rfl) (T.self _ 0 _ _ _ tn4 (loop _ rfl))
theorem qF(B:BlkOk X scope own)(hc:X.calm=true)(hi:PI X tg iter wi)(hg:∀C s₀ H₀ ex,PG (cxC X scope own C s₀ H₀ ex) tg g)(ht:∀C s₀ H₀ ex,PTs (cxC X scope own C s₀ H₀ ex) ifs tt)(he:∀C s₀ H₀ ex,PE (cxC X scope own C s₀ H₀ ex) elt te)
  (hs:∀x,foldedSetIterable iter X.env x=pure x:=by intro _;rfl):PE X (.ListComp elt [⟨tg,iter,ifs,0⟩] scope pos) (tComp wi own.length g tt te):=by
 intro pins s σ H Q I h
 rw[eval_ListComp]
 have hclos:closureFor scope X.env=pure (closL X.env.cells scope.names []):=LQ fun y hy e=>by
  obtain⟨c,q⟩:=I.ok.has y.1 (.inl (B.fr' y hy e))
  rw[q];rfl
 refine wpAny_comprehension_free (use:=none) rfl hs hclos B.kind B.nm' (wpAny_mono (hi pins s σ H _ I h) (fun xv s₁ h₁=>wpAny_mono h₁ (fun itv s₂ h₂=>?_) fun _ _ e=>e) fun _ _ e=>e)
 obtain⟨it,fp,tn,J,H2,rfl,I2,T,st,f2,q2⟩:=h₂
 refine dR (RR:=fun acc C=>compPost (model X.prog X.w) X.A X.xe none (EP X pins σ Q) acc C) B hc hg ht he I2 T st f2 q2 fun D C H' s' m hn hI _ _ _ _ q=>?_
 exact⟨m,hn,fun h'' hs''=>⟨.ref D,H',hI h'' hs'',rfl,q⟩⟩
theorem pN{i:Nat}{y:Str}{py spos:Pos}(hN:X.N.Nodup)(hiN:X.N[i]?=some y)(hy:X.env.scope.names.lookup y=some .local)(B:BlkOk X scope own)(hc:X.calm=true)(hi:PI X tg iter wi)(hg:∀C s₀ H₀ ex,PG (cxC X scope own C s₀ H₀ ex) tg g)
  (ht:∀C s₀ H₀ ex,PTs (cxC X scope own C s₀ H₀ ex) ifs tt) (he:∀C s₀ H₀ ex,PE (cxC X scope own C s₀ H₀ ex) elt te)
  (hsw:swapsWith (.ListComp elt [⟨tg,iter,ifs,0⟩] scope pos) (some (.Name y py)) spos.line X.env=pure true:=by rfl)
  (hs:∀x,foldedSetIterable iter X.env x=pure x:=by intro _;rfl):PS X (.Assign [.Name y py] (.ListComp elt [⟨tg,iter,ifs,0⟩] scope pos) spos) (tAsg (tComp wi own.length g tt te) (gName i)):=by
 intro pins s σ H D I h
 have hclos:closureFor scope X.env=pure (closL X.env.cells scope.names []):=LQ fun y hy e=>by
  obtain⟨c,q⟩:=I.ok.has y.1 (.inl (B.fr' y hy e))
  rw[q];rfl
 rw[exec_Assign_Name_used _ _ _ _ hsw]
 refine wpAny_bind (wpAny_standAt (wpAny_bind ?_))
 show wpAny _ X.A (do let _ ←comprehension (.ListComp elt [⟨tg,iter,ifs,0⟩] scope pos) scope X.env _ (newList []) false (eval iter X.env) (some (assign (.Name y py) X.env))) _ _ s
 refine wpAny_bind (wpAny_mono (wpAny_comprehension_free (use:=some (assign (.Name y py) X.env)) (Q:=fun _ s'=>SP X pins D .next s') rfl hs hclos B.kind B.nm'
  (wpAny_mono (hi pins s σ H _ I h) (fun xv s₁ h₁=>wpAny_mono h₁ (fun itv s₂ h₂=>?_) fun _ _ e=>e) fun _ _ e=>e)) (fun _ s' hq=>wpAny_pure (wpAny_pure hq)) fun _ _ e=>e)
 obtain⟨it,fp,tn,J,H2,rfl,I2,T,st,f2,q2⟩:=h₂
 refine dR (Q:=fun x H1=>gName i x σ H1 D.nx) (RR:=fun acc C=>compPost (model X.prog X.w) X.A X.xe (some (assign (.Name y py) X.env)) (fun _ s'=>SP X pins D .next s') acc C) B hc hg ht he I2 T st f2 q2 fun L C H' s' m hn hI hCL hCc hlt hfree q=>?_
 show wpAny _ X.A (assign (.Name y py) X.env (.ref L)) _ _ _
 have I':=hI s'.heap (.refl ..)
 refine wpAny_assign_Name (S5 I' hN hiN (.inl hy) (v:=.ref L) rfl (fun s'' I'' hsame=>?_) (.inr hy))
 obtain⟨a,sb,ha⟩:=hsame
 have haC:C≠a:=by
  rcases ha with e | e
  ·rw[e];exact hCL
  ·exact fun z=>hCc y a e z.symm
 refine⟨m,hn.sameBut sb haC,fun h'' hs''=>⟨_,H',?_,q⟩⟩
 refine I''.turned (it:=C) (t':=s''.toks) (fun b o hb e=>(hs''.2 b hb).trans e) hfree hCL (.inr ?_) hCc fun p hp z=>?_
 ·exact Nat.le_trans I2.sz (Nat.le_of_lt hlt)
 ·have:=(I2.pin p hp).1
  rw[z]at this
  exact absurd (Heap.lt_size this) (Nat.not_lt.mpr (Nat.le_of_lt hlt))
end
end L2
end
section
namespace L2
open PySem PySem.Spec PyProof.Rows
theorem aA{ys:List Str}:∀{us:List Value},Vals (ys.map V.str) us→StrsAre us ys:=by
 induction ys with
 | nil=>intro us r;cases r;exact .nil
 | cons y ys ih=>
  intro us r
  cases r with
  | cons r t=>
   obtain⟨tk,rfl⟩:=r
   exact .cons y tk (ih t)
theorem eG{vs:List Value}{ss:List Str}(h:StrsAre vs ss):Vals (ss.map V.str) vs:=by
 induction h with
 | nil=>exact .nil
 | cons x t h ih=>exact .cons ⟨t,rfl⟩ ih
section
variable{X:Cx}
def rJoin(K:PySem.W.Frag):V→List V→Hp→VK→Prop:=fun x vs H Q=>∃sep a ys,x=.str sep∧vs=[.ref a]∧SqL K H a (ys.map V.str)∧(ys.map (·.length)).sum+ys.length*sep.length≤16777216∧Q (.str (Txt.join sep ys)) H
theorem qY:MtR X "str.join" (rJoin X.K):=by
 intro pins s σ H x vs v us Q I rx rv h
 obtain⟨sep,a,ys,rfl,rfl,hq,hok,q⟩:=h
 obtain⟨t,rfl⟩:=rx
 obtain⟨u,rfl,ru⟩:=rv.one
 cases ru
 obtain⟨its,r,p,hz⟩:=I.list hq
 refine join_list p.isList (ys:=ys) (by simpa using aA r) hok fun t' k=>⟨.str _,H,I.tok k,⟨t',rfl⟩,q⟩
def rSlS:V→Option Int→Option Int→Hp→VK→Prop:=fun x lo hi H Q=>∃z,x=.str z∧z.length≤sizeLine∧Q (.str (StrLaws.sliceText z lo hi)) H
theorem part_of{v:Value}{o:Option Int}(p:IsPart v o):∃q:Option (Int×Tok),v=partValue q∧q.map (·.1)=o:=by
 cases p with
 | none=>exact⟨none,rfl,rfl⟩
 | int i t=>exact⟨some (i,t),rfl,rfl⟩
theorem uK:SlR X rSlS:=by
 intro pins s σ H x v vl vu lo hi sl Q I rx hs pl pu h
 obtain⟨z,rfl,hz,q⟩:=h
 obtain⟨t,rfl⟩:=rx
 obtain⟨ql,rfl,el⟩:=part_of pl
 obtain⟨qu,rfl,eu⟩:=part_of pu
 refine⟨"str",_,F.slot_str_getitem.lookup,typeIs_str s z t,?_⟩
 refine wpAny_getItem_str_slice (l:=ql) (u:=qu) (st:=none) ?_ (by rfl) ?_
 ·obtain⟨o,ho,hc,hd⟩:=hs
  exact⟨o,ho,hc,hd⟩
 ·unfold sliceMade
  have e:StrLaws.sliceText z lo hi=if (((none:Option (Int×Tok)).map (·.1)).getD 1==1&&(slicePicked z ql qu none).length==z.length)=true then z else ⟨((slicePicked z ql qu none).filterMap (z.cps[·]?)).toArray⟩:=by
   unfold StrLaws.sliceText slicePicked
   rw[el,eu]
   rfl
  rw[e]at q
  split
  ·rename_i c
   rw[if_pos c]at q
   exact⟨.str z,H,I,⟨t,rfl⟩,q⟩
  ·rename_i c
   rw[if_neg c]at q
   refine⟨?_,.str _,H,I.tok _,⟨_,rfl⟩,q⟩
   show (List.filterMap _ (slicePicked z ql qu none)).toArray.size≤sizeLine
   rw[List.size_toArray]
   exact Nat.le_trans (Nat.le_trans (List.length_filterMap_le _ _) (sliceIndices_le _ _ _)) hz
def rIndex(K:PySem.W.Frag):V→List V→Hp→VK→Prop:=fun x vs H Q=>∃a xs y,x=.ref a∧vs=[y]∧SqL K H a xs∧flatV y=true∧xs.all flatV=true∧xs.length<1000∧
 inV y xs=true∧∀j:Nat,j<xs.length→(∃z,xs[j]?=some z∧eqV z y=true)→(∀i z,i<j→xs[i]?=some z→eqV z y=false)→Q (.int j) H
theorem T6{α:Type}(e:α→Bool):∀l:List α,l.any e=true→∃j,∃h:j<l.length,e l[j]=true∧∀m (hm:m<l.length),m<j→e l[m]=false
 | [],h=>by simp at h
 | a::r,h=>by
  by_cases ha:e a=true
  ·exact⟨0,by simp,by simpa using ha,fun m _ hm=>absurd hm (Nat.not_lt_zero _)⟩
  ·have hr:r.any e=true:=by
    rw[List.any_cons,Bool.or_eq_true]at h
    exact h.resolve_left ha
   obtain⟨j,hj,h1,h2⟩:=T6 e r hr
   refine⟨j+1,by simpa using hj,by simpa using h1,fun m hm hlt=>?_⟩
   cases m with
   | zero=>simpa using ha
   | succ m=>simpa using h2 m (by simpa using hm) (by lia)
theorem jX:MtR X "list.index" (rIndex X.K):=by
 intro pins s σ H x vs v us Q I rx rv h
 obtain⟨a,xs,y,rfl,rfl,hq,fy,fx,hn,hin,q⟩:=h
 cases rx
 obtain⟨u,rfl,ru⟩:=rv.one
 obtain⟨its,r,⟨o,n,ho,hc,hd,hdat⟩,hz⟩:=I.list hq
 have hl:=r.length
 have hany:its.any (eqU y)=true:=by rw[WT r fx];exact hin
 obtain⟨j,hj,h1,h2⟩:=T6 (eqU y) its hany
 obtain⟨oc,od,odt,osl⟩:=o
 simp only at hc hd hdat
 subst hc hd hdat
 have hs:its.toArray.size=its.length:=by simp
 refine call_meets F.slot_list_index ⟨_,ho,rfl⟩ F.entry_list_index (F.args_list_index_2 _ _) (SeqAt.list_indexAt a its.toArray n none osl u (eqU y) j (by simpa using hj) (by omega) (by simpa using h1) (fun m hm hlt=>by
  have:=h2 m (by simpa using hm) hlt
  simpa using this)) ⟨ho,fun w hw=>?_,?_⟩
 ·exact R5 ru fy r fx w (by simpa using hw)
 ·refine⟨.int j,H,I.tok _,⟨_,rfl⟩,q j (by omega) ?_ fun i z hi hz'=>?_⟩
  case refine_2=>
   obtain⟨w,hw,rw'⟩:=r.get hz'
   have hil:i<its.length:=by omega
   have e:its[i]=w:=by
    have:its[i]?=some its[i]:=by simp[hil]
    rw[hw]at this
    exact(Option.some.inj this).symm
   have h3:=h2 i hil hi
   rw[e,VP rw' (List.all_eq_true.mp fx _ (List.mem_of_getElem? hz'))]at h3
   exact h3
  have hx:xs[j]?=some xs[j]:=by simp[show j<xs.length by omega]
  obtain⟨w,hw,rw'⟩:=r.get hx
  refine⟨_,hx,?_⟩
  have e:its[j]=w:=by
   have:its[j]?=some its[j]:=by simp[hj]
   rw[hw]at this
   exact(Option.some.inj this).symm
  rw[e,VP rw' (List.all_eq_true.mp fx _ (List.mem_of_getElem? hx))]at h1
  exact h1
theorem RV(hc:X.calm=true):CallR X (.builtin "max") (fun xs H Q=>∃(a:Addr) (ns:List Int),xs=[.ref a]∧SqL X.K H a (ns.map V.int)∧0<ns.length∧∀M,M∈ns→(∀a,a∈ns→a≤M)→Q (.int M) H):=by
 intro pins s σ H xs us Q I r h
 obtain⟨a,ns,rfl,hq,hn,q⟩:=h
 obtain⟨u,rfl,ru⟩:=vals1 r
 cases ru
 obtain⟨its,rv,p,hz⟩:=I.list hq
 have hi:IntsAre its ns:=intsAre_of rv
 obtain⟨xs,e⟩:=hi.allInts.items
 have hns:ns=xs.toList.map (·.1):=by rw[←hi.numsOf,←nums_intItems,←e]
 have hsz:0<xs.size:=by
  have h3:=hn;rw[hns,List.length_map,Array.length_toList]at h3;exact h3
 have pl:=p.isList
 rw[e]at pl
 refine max_intList (I.ok.hd hc) pl hsz fun v h' tk hv hk=>?_
 obtain⟨t,rfl⟩:=intItems_at hv
 obtain⟨h1,h2⟩:=argBest_gt (numAt xs) (xs.size-1)
 refine⟨.int _,H,I.kept hk,⟨t,rfl⟩,q _ ?_ fun a ha=>?_⟩
 ·rw[hns,numAt_eq];exact getD_mem (by rw[List.length_map,Array.length_toList];omega)
 ·rw[hns]at ha
  obtain⟨j,hj,rfl⟩:=mem_getD ha
  rw[List.length_map,Array.length_toList]at hj
  rw[←numAt_eq];exact h2 j (by omega)
end
end L2
end
section
namespace L2
open PySem PySem.Spec PyProof.Rows
section
variable{X:Cx}{pins:List (Addr×Obj)}{σ:St}{H:Hp}{s:Shared}{h':Heap}{fp:List Addr}{p:Addr}{o:HO}
theorem Inv.turnedL{t':Nat}(I:Inv X pins σ H s)(hf:∀b∈fp,FpOk X pins H b)(k:∀b ob,b∉fp→s.heap.get? b=some ob→h'.get? b=some ob):Inv X pins σ H { s with heap:=h',toks:=t' }:=by
 refine I.step (g':=s.gens) (d':=s.drawn) (ch:=fp) (fun b hb=>?_) (fun b ob _ _ hc e _=>k b ob hc e) (fun b ob _ _ hc e _=>⟨ob.slots,k b ob hc e⟩) (fun _ _ _ _ n=>n) (fun b ob hc e=>⟨ob,k b ob hc e⟩) (fun _ _ e=>e) (fun _ _ _ e=>e) (fun b ps e=>⟨#[],by rw[e];simp⟩) (fun m hm=>?_) (fun b u e=>?_) I.bare
 ·obtain⟨_,f1,_,f3,f4,f5⟩:=hf b hb
  exact⟨f3,f1,f4,f5⟩
 ·obtain⟨ob,es,ep,ho,r⟩:=hm
  exact⟨ob,es,ep,k _ ob (fun z=>(hf _ z).2.1 rfl) ho,r⟩
 ·refine(I.hok b u e).stay (fun c v hc q=>k c v (fun z=>?_) q) (fun _ q=>q) fun _ _ q=>q
  have n:=(hf c z).1
  rcases hc with rfl | hc
  ·rw[n]at e;cases e
  ·rw[n]at hc;cases hc
theorem Inv.turnedNew{t':Nat}(I:Inv X pins σ H s)(hf:∀b∈fp,FpOk X pins H b)(k:∀b ob,b∉fp→s.heap.get? b=some ob→h'.get? b=some ob)(hp:s.heap.objs.size≤p)(new:ObjOk X.prog X.w (upd H p o) h' p o):
  Inv X pins σ (upd H p o) { s with heap:=h',toks:=t' }:=by
 have hn:=I.hok.fresh hp
 have up:∀b u,H b=some u→upd H p o b=some u:=fun b u e=>by rw[CJ (DR e hn)];exact e
 refine I.step (g':=s.gens) (d':=s.drawn) (ch:=fp) (fun b hb=>?_) (fun b ob _ _ hc e _=>k b ob hc e) (fun b ob _ _ hc e _=>⟨ob.slots,k b ob hc e⟩)
  (fun b ob _ e n=>by rw[CJ (Nat.ne_of_lt (Nat.lt_of_lt_of_le (Heap.lt_size e) hp))];exact n) (fun b ob hc e=>⟨ob,k b ob hc e⟩) (fun b xs e=>up b _ e) (fun b u xs e=>up b _ e) (fun b ps e=>⟨#[],by rw[up b _ e];simp⟩) (fun m hm=>?_) (fun b u e=>?_) I.bare
 ·obtain⟨_,f1,_,f3,f4,f5⟩:=hf b hb
  exact⟨f3,f1,f4,f5⟩
 ·obtain⟨ob,es,ep,ho,r⟩:=hm
  exact⟨ob,es,ep,k _ ob (fun z=>(hf _ z).2.1 rfl) ho,r⟩
 ·by_cases hb:b=p
  ·subst hb;rw[CV]at e;cases e;exact new
  ·rw[CJ hb]at e
   refine(I.hok b u e).stay (fun c v hc q=>k c v (fun z=>?_) q) (fun c q=>up c _ q) fun c xs q=>up c _ q
   have n:=(hf c z).1
   rcases hc with rfl | hc
   ·rw[n]at e;cases e
   ·rw[n]at hc;cases hc
theorem rN(hf:∀b∈fp,H b=none)(hlt:∀b∈fp,b<p):∀b∈fp,upd H p o b=none:=fun b hb=>by
 rw[CJ (Nat.ne_of_lt (hlt b hb))];exact hf b hb
end
noncomputable def Ite(K:PySem.W.Frag)(a:Addr):It:=
 ⟨fun i H=>∃xs x,SqL K H a xs∧xs[i]?=some x,fun i H x H'=>∃p y,H p=none∧x=.ref p∧(∃o:Obj,o.cls=.type "tuple"∧o.dict=none∧H'=upd H p (.frz o (.tup [.int i,y])))∧∀xs,SqL K H a xs→xs[i]?=some y,fun i H=>∃xs,SqL K H a xs∧xs.length≤i⟩
theorem eU{P:Program}{w:World}{K:PySem.W.Frag}{elts:List Expr}{k:Nat}{pos:Pos}(a e it:Addr)(hne:e≠it):
  Turn P w K (.Tuple elts k pos) (Ite K a) [e,it] e (fun i h=>(∃old,IsEnum h e it i old)∧h.IsListIter it a i) where
 mem:=by simp
 obj:=fun i h st b hb=>by
  obtain⟨⟨old,he⟩,o,ho,hc,hd⟩:=st
  rcases List.mem_cons.mp hb with rfl | hb
  ·exact⟨_,he,fun v z=>by cases z⟩
  ·have:b=it:=by simpa using hb
   subst this
   exact⟨o,ho,fun v z=>by rw[hd]at z;cases z⟩
 keep:=fun i h h' st k=>⟨let ⟨old,he⟩:=st.1;⟨old,k e (by simp) _ he⟩,st.2.at fun o q=>k it (by simp) o q⟩
 item:=by
  intro X hP hw hK hc i pins s σ H E I hf st hg
  subst hP hw hK
  obtain⟨xs,x,hq,hx⟩:=hg
  obtain⟨its,rv,p,hz⟩:=I.list hq
  obtain⟨u,hu,ru⟩:=rv.get hx
  obtain⟨⟨old,he⟩,hit⟩:=st
  refine wpAny_pyNext_enum_item he hit p.isList (x:=u) (by simpa using hu) hne fun h1 he1 hit1 ht1 hs1 hk1=>⟨_,rfl,?_⟩
  refine wpAny_letOwnedTupleGo_enum (s:={ s with heap:=h1,toks:=s.toks+1 }) he1 fun h2 he2 hs2=>?_
  have elt:e<s.heap.objs.size:=Heap.lt_size he
  have ilt:it<s.heap.objs.size:=by obtain⟨_,q,_⟩:=hit;exact Heap.lt_size q
  have hkk:∀b ob,b∉[e,it]→s.heap.get? b=some ob→h2.get? b=some ob:=fun b ob hb q=>by
   have h3:b≠e:=fun z=>hb (by simp[z])
   have h4:b≠it:=fun z=>hb (by simp[z])
   exact hs2.extBut b ob h3 (hk1 b ob h3 h4 q)
  have ht2:h2.get? s.heap.objs.size=some { cls:=.type "tuple",data:=.seq #[.int i s.toks,u] }:=hs2.extBut _ _ (Nat.ne_of_gt elt) ht1
  have I2:Inv X pins σ (upd H s.heap.objs.size (.frz { cls:=.type "tuple",data:=.seq #[.int i s.toks,u] } (.tup [.int i,x]))) { s with heap:=h2,toks:=s.toks+1 }:=
   I.turnedNew (fp:=[e,it]) (o:=.frz { cls:=.type "tuple",data:=.seq #[.int i s.toks,u] } (.tup [.int i,x])) hf hkk (Nat.le_refl _) ⟨ht2,by show 2≤sizeLine;decide,[.int i s.toks,u],.cons ⟨_,rfl⟩ (.cons ru .nil),⟨_,ht2,rfl,_,rfl⟩⟩
  refine⟨.ref s.heap.objs.size,_,I2,rfl,⟨_,x,I.hok.fresh (Nat.le_refl _),rfl,⟨_,rfl,rfl,rfl⟩,fun ys hy=>by rw[I.list_inj hy hq];exact hx⟩,⟨⟨u,?_⟩,?_⟩,?_⟩
  ·exact he2
  ·exact hit1.extBut hs2.extBut (Ne.symm hne)
  ·refine rN (fun b hb=>(hf b hb).1) fun b hb=>?_
   rcases List.mem_cons.mp hb with rfl | hb
   ·exact elt
   ·have:b=it:=by simpa using hb
    subst this;exact ilt
 done:=by
  intro X hP hw hK hc i pins s σ H E I hf st hg
  subst hP hw hK
  obtain⟨xs,hq,hx⟩:=hg
  obtain⟨its,rv,p,hz⟩:=I.list hq
  obtain⟨⟨old,he⟩,hit⟩:=st
  have hl:=rv.length
  exact wpAny_pyNext_enum_end (I.ok.hd hc) he hit p.isList (by simp;lia) fun h1 eb=>⟨rfl,I.turnedL (t':=s.toks) (fp:=[e,it]) hf fun b ob hb q=>eb b ob (fun z=>hb (by simp[z])) q⟩
 self:=fun A i s Q E st h=>let ⟨old,he⟩:=st.1;wpAny_pyIter_enum he h
section
variable{X:Cx}
noncomputable def iEnum(K:PySem.W.Frag)(ta:TA):TI:=fun σ H R=>ta σ H fun vs H1=>∃a,vs=[.ref a]∧(∃xs,SqL K H1 a xs)∧R (Ite K a) H1
theorem pW{l:Expr}{ta:TA}{p pos pt:Pos}{elts:List Expr}{k:Nat}(hg:Gl X "enumerate")(hm:X.mg "enumerate" = none)(ha:PA X [l] ta)(hs:starEach [l] X.env=[(false,eval l X.env)]:=by rfl):
  PI X (.Tuple elts k pt) (.Call (.Name "enumerate" p) [l] [] pos) (iEnum X.K ta):=by
 intro pins s σ H R I h
 refine Call_ (JC I hg hm boot_enumerate (PyProof.Rows.callWith_type1 (thn (ha pos pins s σ H _ I h) fun us s1 hq0=>?_) hs rfl))
 obtain⟨vs,H1,I1,r1,q1⟩:=hq0
 obtain⟨a,rfl,⟨xs,hq⟩,q⟩:=q1
 obtain⟨u,rfl,ru⟩:=r1.one
 cases ru
 obtain⟨its,rv,pl,hz⟩:=I1.list hq
 refine call_enumerate_list pl.isList fun h' he hi hsz hk=>?_
 refine wpAny_pyIter_enum he ?_
 have I2:Inv X pins σ H1 { s1 with heap:=h' }:=I1.kept (t':=s1.toks) hk
 refine⟨_,[s1.heap.objs.size+1,s1.heap.objs.size],_,_,H1,rfl,I2,eU a _ _ (Nat.succ_ne_self _),⟨⟨_,he⟩,hi⟩,fun b hb=>?_,q⟩
 have hb':s1.heap.objs.size≤b:=by
  rcases List.mem_cons.mp hb with rfl | hb
  ·exact Nat.le_succ _
  ·have:b=s1.heap.objs.size:=by simpa using hb
   rw[this];exact Nat.le_refl _
 exact I1.fpOk hb' (I1.hok.fresh hb')
end
end L2
end
section
namespace PySem
open Sem (wp)
open AutoSeq1 (wpAny_loadPart')
namespace F
end F
section
variable{prog:Program}{w:World}{A:Around}{E:Value→Shared→Prop}{s:Shared}
theorem PN{h:Heap}{it:Addr}{Q:Option Value→Shared→Prop}(hh:A.handled=none)(hk:Heap.ExtBut it h s.heap)
  (hQ:∀h',Heap.ExtBut it h h'→Q none { s with heap:=h' }) :
  wpAny (model prog w) A.in1 (Builtin.SmallTypes.stopIteration:Sem α) (fun _ _=>False)
   (fun e s'=>wpAny (model prog w) A (match (Except.error e:Except Value (Option Value)) with
    | .ok (some v)=>pure (some v)
    | .ok none=>unsupported "iter:the-iterator's-class-has-lost-its-__next__-amid-the-walk"
    | .error e=>do if ←isInstance e (.type "StopIteration") then pure none else throw e) Q E s') s:=by
 unfold Builtin.SmallTypes.stopIteration
 refine wpAny_bind ?_
 simp only[newExc,newTuple]
 refine wpAny_bind (wpAny_newObj_type ?_ (by size_fits))
 refine wpAny_bind (m:=firstArgMember _ _) (wpAny_of_eq (a:=Value.none) (by first | rfl | (simp only[firstArgMember];rfl)) ?_)
 refine wpAny_newObj_type ?_ (by size_fits)
 simp only[raiseNew]
 refine wpAny_bind (wpAny_handled ?_)
 rw[show A.in1.handled=none from hh]
 refine wpAny_bind (wpAny_pure (wpAny_throw ?_))
 refine wpAny_bind (wpAny_isInstance (T:="StopIteration") (b:=true) ⟨_,Heap.get?_push_size _ rfl,rfl⟩ isSubtype_stop ?_)
 exact wpAny_pure (hQ _ ((hk.push _).push _))
end
end PySem
end
section
namespace PySem
open Sem (wp)
open AutoSeq1 (wpAny_loadPart')
namespace F
end F
section
variable{prog:Program}{w:World}{A:Around}{E:Value→Shared→Prop}{s:Shared}
end
end PySem
namespace L2
open PySem PySem.Spec PyProof.Rows
section
variable{X:Cx}
end
end L2
end
section
namespace PySem
open Sem (wp)
namespace F
theorem dp_nokeys:typeLookup (.type "tuple") (Str.ofString "keys")=pure none:=by rw[typeLookup_type,builtinLookup_eq_fast];kernel_rfl
end F
theorem gH{prog:Program}{w:World}{A:Around}{E:Value→Shared→Prop}{s:Shared}{a:Addr}{o:Obj}{xs:Array Value}{k:Nat}{Q:Option Value→Shared→Prop}
  (hx:s.heap.get? a=some o) (hc:o.cls=.type "tuple") (hdat:o.data=.seq xs k) (hd:o.dict=none) (hA:A.handled=none)
  (h:∀h' tk,(∀b ob,s.heap.get? b=some ob→h'.get? b=some ob)→Q none { s with heap:=h',toks:=tk }):wpAny (model prog w) A (getAttr? (.ref a) "keys") Q E s:=by
 obtain⟨c,dct,dat,sl⟩:=o
 simp only at hc hdat hd
 subst hc hdat hd
 obtain⟨hp,g,d,tk,os⟩:=s
 have hT:∀tk',(⟨hp,g,d,tk',os⟩:Shared).TypeIs (.ref a) "tuple":=fun _=>⟨_,hx,rfl⟩
 have f1:=sub_AttributeError
 have f3:=F.slot_tuple_getattribute.lookup
 have f4:=F.slot_tuple_getattribute.bind (.ref a)
 have f5:=am_tuple_getattr_none
 have n1:(["__module__","__name__","__qualname__","__doc__","__annotations__"]:List Str).contains (Str.ofString "keys")=false:=by decide +kernel
 have n2:(Str.ofString "keys").length+100≤sizeLine:=by decide +kernel
 unfold getAttr? getAttrBy? getAttrBy
 repeat (any_goals (first | assumption | exact hT _ | ((with_reducible show wpAny _ _ (call (Value.builtin "tuple.__getattribute__") _ _) _ _ _);refine call_meets F.slot_tuple_getattribute (hT _) am_entry_tuple_getattribute (F.args_tuple_getattribute_2 _ _) (meets_getattribute_miss_tuple a xs k sl (Str.ofString "keys") _ F.dp_nokeys n1 n2) ⟨hx,hA,fun h' tk' e hx'=>?_⟩) | wp_step))
 obtain⟨t',u',he⟩:=hx'.there
 show wpAny _ _ (getattributeRaised _ _ _ _ _ _ _) _ _ _
 unfold getattributeRaised
 repeat (any_goals (first | assumption | wp_step))
 exact h _ _ hx'.keeps
namespace F
theorem dp_plain:plainId "dict.update.loop" = true:=by decide +kernel
theorem dp_entry:entryFor table "dict.update.loop" = some Builtin.«dict.update.loop»:=entryFor_of_tree (by kernel_rfl)
end F
section
variable{prog:Program}{w:World}{K:Type}[DecidableEq K]{knd:KeyKind prog w K}{A:Around}{s:Shared}{R:Result→Shared→Prop}
def PairsAt(knd:KeyKind prog w K)(h:Heap):List Value→List (K×Value)→Prop:=Paired fun u p=>∃a key,u=Value.ref a∧knd.is p.1 key=true∧PyProof.Rows.IsTup h a #[key,p.2]
theorem PairsAt.keep{h h':Heap}{us:List Value}{ps:List (K×Value)}{d it:Addr}(x:PairsAt knd h us ps)(hd:∀u∈us,u≠.ref d∧u≠.ref it)(k:∀b o,b≠d→b≠it→h.get? b=some o→h'.get? b=some o):PairsAt knd h' us ps:=by
 induction x with
 | nil=>exact .nil
 | cons q t ih=>
  obtain⟨a,key,e,hk,o,ho,hc⟩:=q
  refine .cons ⟨a,key,e,hk,o,k _ _ ?_ ?_ ho,hc⟩ (ih fun u hu=>hd u (List.mem_cons_of_mem _ hu))
  ·rintro rfl;exact(hd _ List.mem_cons_self).1 e
  ·rintro rfl;exact(hd _ List.mem_cons_self).2 e
theorem eX(kvs:List (K×Value))(k:K)(v:Value):(stored kvs k v).length≤kvs.length+1:=by
 unfold stored
 split
 ·rw[List.length_map];lia
 ·rw[List.length_append,List.length_singleton];lia
theorem sJ{d it t:Addr}{us:List Value}(hh:A.handled=none)(hdt:d≠t)(hit:it≠t)(hdi:d≠it)(hun:∀u∈us,u≠.ref d∧u≠.ref it)(hz:us.length≤1000):
  ∀(n i:Nat) (s:Shared) (ps:List (K×Value)) (kvs:List (K×Value)),us.length-i=n→i≤us.length→s.heap.IsTupleIter it t i→PyProof.Rows.IsTup s.heap t us.toArray→PairsAt knd s.heap (us.drop i) ps→s.heap.DictOf knd d kvs→kvs.length+ps.length≤2000→
   (∀h' tk,h'.DictOf knd d (ps.foldl (fun acc p=>stored acc p.1 p.2) kvs)→(∀b o,b≠d→b≠it→s.heap.get? b=some o→h'.get? b=some o)→R (.ok (.ret .none)) { s with heap:=h',toks:=tk })→
   codeAny (model prog w) A (.builtin "dict.update.loop" ⟨[.ref d,.ref it,rawInt i,.none],[]⟩) R s:=by
 intro n
 induction n with
 | zero=>
  intro i s ps kvs hn hi hI hT hP hD hl hR
  refine codeAny_builtin F.dp_entry ?_
  rw[Around.under_plainId F.dp_plain _]
  unfold Builtin.«dict.update.loop»
  have hnil:us.drop i=[]:=List.drop_eq_nil_of_le (by lia)
  rw[hnil]at hP
  cases hP
  refine wpAny_bind (wpAny_pyNext_tuple_end (A:=A.in1) hh hI (show s.heap.IsTuple t us.toArray from hT) (by simp;lia) fun h' hk=>?_)
  refine wpAny_bind (m:=Builtin.Dict.addKeywords d []) (wpAny_pure ?_)
  refine wpAny_pure (hR h' s.toks ?_ fun b o _ hb e=>hk b o hb e)
  obtain⟨o,es,ep,ho,r⟩:=hD
  exact⟨o,es,ep,hk _ _ hdi ho,r⟩
 | succ n ih=>
  intro i s ps kvs hn hi hI hT hP hD hl hR
  refine codeAny_builtin F.dp_entry ?_
  rw[Around.under_plainId F.dp_plain _]
  unfold Builtin.«dict.update.loop»
  have hlt:i<us.length:=by lia
  have hdr:us.drop i=us[i]::us.drop (i+1):=List.drop_eq_getElem_cons hlt
  rw[hdr]at hP
  cases hP with
  | @cons u p us' ps' q rest=>
  obtain⟨a,key,ea,hk,ha⟩:=q
  have hmem:=hun us[i] (List.getElem_mem hlt)
  refine wpAny_bind (wpAny_pyNext_tuple_item hI (show s.heap.IsTuple t us.toArray from hT) (x:=us[i]) (by simp[hlt]) fun h1 hI1 hs1=>?_)
  have ha1:PyProof.Rows.IsTup h1 a #[key,p.2]:=let ⟨o,ho,hc⟩:=ha;⟨o,(hs1.2 a (fun z=>hmem.2 (by rw[ea,z]))).trans ho,hc⟩
  have hT1:PyProof.Rows.IsTup h1 t us.toArray:=let ⟨o,ho,hc⟩:=hT;⟨o,(hs1.2 t (Ne.symm hit)).trans ho,hc⟩
  have hD1:h1.DictOf knd d kvs:=let ⟨o,es,ep,ho,r⟩:=hD;⟨o,es,ep,(hs1.2 d hdi).trans ho,r⟩
  have hP1:PairsAt knd h1 (us.drop (i+1)) ps':=PairsAt.keep (d:=d) (it:=it) rest (fun u hu=>hun u (List.mem_of_mem_drop hu)) fun b o _ hb e=>(hs1.2 b hb).trans e
  dsimp only
  rw[ea]
  refine wpAny_bind (wpAny_holding ?_)
  have pair:wpAny (model prog w) A.in1 (Builtin.Dict.pairItems (.ref a)) (fun l s'=>l=[key,p.2]∧s'={ s with heap:=h1 }) (fun _ _=>False) { s with heap:=h1 }:=by
   obtain⟨o,ho,hc,m,hd⟩:=ha1
   unfold Builtin.Dict.pairItems
   refine wpAny_bind (wpAny_typeOf (T:="tuple") ⟨o,ho,hc⟩ ?_)
   rw[if_pos (by simp)]
   refine wpAny_bind (wpAny_seqItems ho hd (wpAny_pure ⟨by simp,rfl⟩))
  refine wpAny_bind (wpAny_tryCatch (wpAny_mono pair (fun l s' hl'=>?_) fun _ _ f=>f.elim))
  obtain⟨rfl,rfl⟩:=hl'
  have hlen:kvs.length≤sizeLine:=by rw[sizeLine_eq];lia
  refine wpAny_holding (wpAny_dictSet_pairs (s:={ s with heap:=h1 }) hk hD1 (fun h2 hD2 hs2=>?_) hlen)
  refine wpAny_pure ⟨plainId_quiet F.dp_plain _,?_⟩
  have ei:(i:Int)+1=((i+1:Nat):Int):=by lia
  rw[ei]
  have hkk:∀b o,b≠d→h1.get? b=some o→h2.get? b=some o:=fun b o hb e=>(hs2.2 b hb).trans e
  refine ih (i+1) { s with heap:=h2,toks:=s.toks+1 } ps' (stored kvs p.1 p.2) (by lia) (by lia) (hI1.at fun o e=>hkk it o (Ne.symm hdi) e) (let ⟨o,ho,hc⟩:=hT1;⟨o,hkk t o (Ne.symm hdt) ho,hc⟩)
   (PairsAt.keep (d:=d) (it:=it) hP1 (fun u hu=>hun u (List.mem_of_mem_drop hu)) fun b o hb _ e=>hkk b o hb e) hD2 ?_ fun h' tk hD' hk'=>?_
  ·have:=eX kvs p.1 p.2
   rw[List.length_cons]at hl
   lia
  ·exact hR h' tk hD' fun b o hb1 hb2 e=>hk' b o hb1 hb2 (hkk b o hb1 ((hs1.2 b hb2).trans e))
end
end PySem
end
section
namespace PySem
open Sem (wp)
section
variable{prog:Program}{w:World}{K:Type}[DecidableEq K]{knd:KeyKind prog w K}{A:Around}{s:Shared}{E:Value→Shared→Prop}
theorem PairsAt.mem{h:Heap}{us:List Value}{ps:List (K×Value)}(x:PairsAt knd h us ps):∀u∈us,∃a,u=.ref a∧a<h.objs.size:=by
 induction x with
 | nil=>intro u hu;cases hu
 | cons q _ ih=>
  intro u hu
  rcases List.mem_cons.mp hu with e | e
  ·subst e
   obtain⟨a,key,rfl,_,ob,hob,_⟩:=q
   exact⟨a,rfl,Heap.lt_size hob⟩
  ·exact ih u e
theorem sO{t:Addr}{o:Obj}{us:List Value}{m:Nat}{ps:List (K×Value)}{Q:Value→Shared→Prop}(hh:A.handled=none)(ho:s.heap.get? t=some o)(hc:o.cls=.type "tuple")(hd:o.dict=none)(hdat:o.data=.seq us.toArray m)
  (hP:PairsAt knd s.heap us ps) (hz:us.length≤1000) (hbig:sysModules<s.heap.objs.size)
  (h:∀h' tk,h'.DictOf knd s.heap.objs.size (ps.foldl (fun acc p=>stored acc p.1 p.2) [])→(∀b ob,s.heap.get? b=some ob→h'.get? b=some ob)→Q (.ref s.heap.objs.size) { s with heap:=h',toks:=tk }) :
  wpAny (model prog w) A (call (.type "dict") [.ref t]) Q E s:=by
 refine callType_codes (Q₁:=fun obj s₁=>obj=.ref s.heap.objs.size∧s₁={ s with heap:=s.heap.push { cls:=.type "dict",data:=.dict #[] } }) F.kt_called_dict (F.kt_typeCall_dict_1 _) F.entry_dict_init (kt_code_dict_new _ ⟨rfl,rfl⟩) ?_
 rintro obj s₁ ⟨rfl,rfl⟩
 have hnew:(s.heap.push { cls:=.type "dict",data:=.dict #[] }).DictOf knd s.heap.objs.size []:=Heap.DictOf.new s.heap
 refine⟨hnew.typeIs,F.args_dict_init_2 _ _,?_⟩
 generalize hH:s.heap.push { cls:=.type "dict",data:=.dict #[] }=H1 at hnew
 have k1:∀b ob,s.heap.get? b=some ob→H1.get? b=some ob:=fun b ob e=>by rw[←hH];exact Heap.get?_push_of_some _ e
 have hs1:H1.objs.size=s.heap.objs.size+1:=by rw[←hH,Heap.size_push]
 have htlt:t<s.heap.objs.size:=Heap.lt_size ho
 unfold Builtin.«dict.__init__»
 refine wpAny_bind ?_
 unfold Builtin.Dict.selfAndRest
 refine wpAny_bind (wpAny_notOrdered_dict hnew.typeIs ?_)
 show wpAny _ _ (pure (s.heap.objs.size,[Value.ref t])) _ _ _
 refine wpAny_pure ?_
 show wpAny _ _ (Builtin.Dict.updateFrom "dict.__init__" s.heap.objs.size (.ref t) [] .none) _ _ _
 unfold Builtin.Dict.updateFrom
 refine wpAny_bind (wpAny_typeOf (T:="tuple") ⟨o,k1 _ _ ho,hc⟩ ?_)
 rw[if_pos (by decide)]
 refine wpAny_bind (gH (s:={ s with heap:=H1 }) (k1 _ _ ho) hc hdat hd (show A.in1.in1.handled=none from hh) fun H2 tk k2=>?_)
 rw[if_pos (by rfl)]
 refine wpAny_bind (wpAny_rule ?_)
 have hT2:PyProof.Rows.IsTup H2 t us.toArray:=⟨o,k2 _ _ (k1 _ _ ho),hc,m,hdat⟩
 refine wpAny_bind (wpAny_pyIter_tuple (s:={ s with heap:=H2,toks:=tk }) (show H2.IsTuple t us.toArray from hT2) ?_)
 refine wpAny_pure ⟨plainId_quiet F.dp_plain _,?_⟩
 have hlt2:s.heap.objs.size<H2.objs.size:=by
  obtain⟨od,_,_,hod,_⟩:=hnew
  exact Heap.lt_size (k2 _ _ hod)
 have hun:∀u∈us,∃a,u=.ref a∧a<s.heap.objs.size:=fun u hu=>hP.mem u hu
 have k3:∀b ob,H2.get? b=some ob→(H2.push { cls:=.type "tuple_iterator",data:=.fields #[.ref t,.int 0 0] }).get? b=some ob:=fun b ob e=>Heap.get?_push_of_some _ e
 refine sJ (knd:=knd) (A:=A.in1) (it:=H2.objs.size) (t:=t) (us:=us) hh (Nat.ne_of_gt htlt) (Nat.ne_of_gt (Nat.lt_trans htlt hlt2)) (Nat.ne_of_lt hlt2) (fun u hu=>?_) hz us.length 0 _ ps [] (by lia) (Nat.zero_le _) ⟨_,Heap.get?_push_size _ rfl,rfl,rfl⟩
  (let ⟨ob,e,c⟩:=hT2;⟨ob,k3 _ _ e,c⟩) ?_ ?_ ?_ fun h' tk' hD hk=>?_
 ·obtain⟨a,rfl,ha⟩:=hun u hu
  exact⟨fun z=>by cases z;exact Nat.lt_irrefl _ ha,fun z=>by cases z;exact Nat.lt_irrefl _ (Nat.lt_trans ha hlt2)⟩
 ·rw[List.drop_zero]
  refine PairsAt.keep (d:=s.heap.objs.size) (it:=s.heap.objs.size) hP (fun u hu=>?_) fun b ob _ _ e=>k3 _ _ (k2 _ _ (k1 _ _ e))
  obtain⟨a,rfl,ha⟩:=hun u hu
  exact⟨fun z=>by cases z;exact Nat.lt_irrefl _ ha,fun z=>by cases z;exact Nat.lt_irrefl _ ha⟩
 ·obtain⟨od,es,ep,hod,r⟩:=hnew
  exact⟨od,es,ep,k3 _ _ (k2 _ _ hod),r⟩
 ·have e:us.length=ps.length:=Paired.length hP
  simp only[List.length_nil]
  lia
 ·refine⟨rfl,h h' tk' hD fun b ob e=>hk b ob (Nat.ne_of_lt (Heap.lt_size e)) (Nat.ne_of_lt (Nat.lt_trans (Heap.lt_size e) hlt2)) (k3 _ _ (k2 _ _ (k1 _ _ e)))⟩
end
end PySem
namespace L2
open PySem PySem.Spec PyProof.Rows
def PrsV(K:PySem.W.Frag)(H:Hp):List V→List (Key×V)→Prop:=Paired fun v kv=>∃b,v=.ref b∧SqT K H b [kV kv.1,kv.2]
theorem YH(kvs:List (Key×V)){P:Program}{w:World}:∀{vs:List (Key×Value)} {acc:List (Key×V)} {acc':List (Key×Value)},KV kvs vs→KV acc acc'→KV (mergeK acc kvs) (vs.foldl (fun a p=>stored a p.1 p.2) acc'):=by
 induction kvs with
 | nil=>intro vs acc acc' r ra;cases r;exact ra
 | cons kv kvs ih=>
  intro vs acc acc' r ra
  cases r with
  | @cons a b l1 l2 q rr=>
   obtain⟨k,v⟩:=kv
   obtain⟨k',u⟩:=b
   obtain⟨e,rv⟩:=q
   have e:k=k':=e
   subst e
   show KV (mergeK (putK acc k v) kvs) (l2.foldl (fun a p=>stored a p.1 p.2) (stored acc' k u))
   exact ih rr (ra.put k rv)
section
variable{X:Cx}
theorem vC{pins:List (Addr×Obj)}{σ:St}{H:Hp}{s:Shared}(I:Inv X pins σ H s){vs:List V}{kvs:List (Key×V)}{us:List Value}(h:PrsV X.K H vs kvs)(g:Vals vs us):∃ps:List (Key×Value),KV kvs ps∧PairsAt (mixKind X.prog X.w) s.heap us ps:=by
 induction h generalizing us with
 | nil=>cases g;exact⟨[],.nil,.nil⟩
 | @cons v kv _ _ q t ih=>cases g with
  | cons r rr=>
   obtain⟨ps,h1,h2⟩:=ih rr
   obtain⟨b,rfl,hq⟩:=q
   cases r
   obtain⟨its,rv,ht,_⟩:=I.tuple hq
   obtain⟨u1,u2,rfl,r1,r2⟩:=rv.two
   exact⟨(kv.1,u2)::ps,.cons ⟨rfl,r2⟩ h1,.cons ⟨b,u1,rfl,YM r1,ht⟩ h2⟩
end
end L2
end
section
namespace L2
open PySem PySem.Spec PyProof.Rows
theorem LC:∀{vs:List Value} {ss:List Str} {n:Nat},vs.length=n→n=ss.length→(∀(j:Nat) (v:Value),vs[j]?=some v→∃x t,v=Value.str x t∧ss[j]?=some x)→StrsAre vs ss
 | [],[],_,_,_,_=>.nil
 | [],_::_,_,h1,h2,_=>by subst h1;simp at h2
 | _::_,[],_,h1,h2,_=>by subst h2;simp at h1
 | v::vs,x::ss,n,h1,h2,h=>by
  obtain⟨y,t,rfl,e⟩:=h 0 v rfl
  have e':x=y:=Option.some.inj e
  subst e'
  refine .cons x t (LC (n:=ss.length) ?_ rfl fun j u hj=>h (j+1) u hj)
  rw[h2]at h1
  simpa using h1
section
variable{prog:Program}{w:World}{A:Around}{E:Value→Shared→Prop}{s:Shared}
theorem UG{d:Addr}{kvs:List (Key×Value)}{ss:List Str}{Q:Value→Shared→Prop}(hh:A.handled=none)(lo:(d==sysModules)=false)(hD:s.heap.DictOf (mixKind prog w) d kvs)(hk:kvs.map (·.1)=ss.map Sum.inr)(h64:kvs.length<64)
  (h:∀(h1 h':Heap) (tk:Nat) (D:Addr) (out:Array Value) (ss':List Str) (c:Nat),(∀b o,s.heap.get? b=some o→h1.get? b=some o)→D=h1.objs.size→(∀b o,h1.get? b=some o→h'.get? b=some o)→h'.get? D=some { cls:=.type "list",data:=.seq out c }→StrsAre out.toList ss'→ss'.Perm ss→sortedS ss'=true→
   Q (.ref D) { s with heap:=h',toks:=tk }):wpAny (model prog w) A (call (.builtin "sorted") [.ref d]) Q E s:=by
 obtain⟨ep,hat⟩:=hD.dictAt
 refine Calls.call_function_entry kind_sorted plain_sorted entry_sorted (args_sorted1 _) ?_
 unfold Builtin.«sorted»
 refine wpAny_bind (m:=checkCount "sorted" 1 1 _) (wpAny_pure ?_)
 refine wpAny_bind (PySem.W.kdu_collect (A:=A.in1) (PySem.W.kdl_dict (knd:=mixKind prog w) (kvs:=kvs) (ep:=ep) lo) hh hat (by rw[sizeLine_eq];lia) fun h1 tk acc hk1 hacc=>?_)
 have hl:acc.toList.length=kvs.length:=by rw[Array.length_toList];exact hacc.1
 refine wpAny_bind (wpAny_newList ?_ (by rw[hl,sizeLine_eq];lia))
 have hS:StrsAre acc.toList ss:=by
  refine LC hl (by rw[←List.length_map (f:=(Sum.inr:Str→Key)),←hk,List.length_map]) fun j v e=>?_
  obtain⟨k,x,hx,hi⟩:=hacc.2 j v (by rw[←Array.getElem?_toList];exact e)
  have e1:(kvs.map (·.1))[j]?=some k:=by rw[List.getElem?_map,hx];rfl
  rw[hk,List.getElem?_map]at e1
  cases q:ss[j]? with
  | none=>rw[q]at e1;cases e1
  | some z=>
   rw[q]at e1
   have e2:Sum.inr z=k:=Option.some.inj e1
   subst e2
   rcases DW (k:=Sum.inr z) (v:=v) hi with ⟨i,t,e3,_⟩ | ⟨y,t,e3,e4⟩
   ·cases e3
   ·cases e3
    exact⟨z,t,e4,rfl⟩
 have ho:(h1.push (seqObj "list" acc.toList.toArray 0)).get? h1.objs.size=some (seqObj "list" acc.toList.toArray 0):=Heap.get?_push_size _ rfl
 refine wpAny_bind (wpAny_holding (wpAny_call_entry slot_list_sort ⟨_,ho,rfl⟩ entry_list_sort (list_sort_treeK strKind_oneLt ho hS.keysOf (fun v₁ v₂ rest e=>keyKind_strs (by rw[←e];exact hS)) (by rw[hl];exact h64) fun st' hp hs=>⟨_,rfl,?_⟩) (args_list_sort _)))
 obtain⟨ss',h1',h2',h3'⟩:=sorted_out_str hS hp hs
 refine wpAny_pure ⟨_,rfl,?_⟩
 obtain⟨c,hc⟩:=sortedHeap_at (vs:=acc.toList) (out:=(arrOf st').map (·.2)) ho
 refine h h1 _ tk _ _ ss' c hk1 rfl (fun b o e=>?_) hc h1' h2' h3'
 have hb:b<h1.objs.size:=Heap.lt_size e
 rw[sortedHeap_old (Nat.ne_of_lt hb) (by rw[Heap.size_push];exact Nat.lt_succ_of_lt hb)]
 exact Heap.get?_push_of_some _ e
end
theorem WK{X:Cx}(hc:X.calm=true):CallR X (.builtin "sorted") (fun xs H Q=>∃a kvs ss,xs=[.ref a]∧Rd H a (.dK kvs)∧kvs.map (·.1)=ss.map Sum.inr∧kvs.length<64∧
  ∀p ss',H p=none→ss'.Perm ss→sortedS ss'=true→Q (.ref p) (upd H p (.lst (ss'.map V.str)))):=by
 intro pins s σ H xs us Q I r h
 obtain⟨a,kvs,ss,rfl,ha,hk,h64,q⟩:=h
 obtain⟨u,rfl,ru⟩:=vals1 r
 cases ru
 obtain⟨z,lo,vs,rel,dd⟩:=YX I.hok ha
 refine UG (I.ok.hd hc) lo dd (by rw[←rel.keys];exact hk) (by rw[←rel.length];exact h64) fun h1 h' tk D out ss' c k1 eD k2 hD hS hp hs=>?_
 subst eD
 have I1:Inv X pins σ H { s with heap:=h1,toks:=tk }:=I.kept k1
 have I2:Inv X pins σ (upd H h1.objs.size (.lst (ss'.map V.str))) { s with heap:=h',toks:=tk }:=I1.laid (fun b o e=>k2 b o e) (Nat.le_refl _) ⟨?_,out.toList,c,eG hS,by simpa using hD⟩
 ·exact⟨.ref _,_,I2,rfl,q _ ss' (I1.hok.fresh (Nat.le_refl _)) hp hs⟩
 ·rw[List.length_map,hp.length_eq,←List.length_map (f:=(Sum.inr:Str→Key)),←hk,List.length_map,sizeLine_eq]
  lia
theorem call_tupleF{X:Cx}:CallR X (.type "tuple") (fun xs H Q=>∃p ys,xs=[.ref p]∧SqL X.K H p ys∧∀l o,H l=none→o.cls=.type "tuple"→o.dict=none→Q (.ref l) (upd H l (.frz o (.tup ys)))):=by
 intro pins s σ H xs us Q I r h
 obtain⟨p,ys,rfl,hq,q⟩:=h
 obtain⟨u,rfl,rx⟩:=vals1 r
 cases rx
 obtain⟨its,r',pl,hz⟩:=I.list hq
 have hlen:=r'.length
 refine call_tuple_list pl.isList (fun h' kp=>?_) (by simp only[List.size_toArray]<;>lia)
 have I1:Inv X pins σ H { s with heap:=h' }:=I.kept (t':=s.toks) kp
 have I2:Inv X pins σ (upd H h'.objs.size (.frz { cls:=.type "tuple",data:=.seq its.toArray } (.tup ys))) { s with heap:=h'.push { cls:=.type "tuple",data:=.seq its.toArray } }:=
  I1.laid (t':=s.toks) (fun b o e=>Heap.get?_push_of_some _ e) (Nat.le_refl _) ⟨Heap.get?_push_size _ rfl,show ObjOk X.prog X.w _ _ _ (.tup ys) from ⟨hz,its,r',IsTup.new _ _⟩⟩
 exact⟨.ref h'.objs.size,_,I2,rfl,q _ _ (I1.hok.fresh (Nat.le_refl _)) rfl rfl⟩
end L2
end
section
namespace PySem.W
end PySem.W
namespace L2
open PySem PySem.Spec PyProof.Rows
section
variable{P:Program}{w:World}{H:Hp}{h:Heap}{a:Addr}{o:HO}
theorem ObjOk.there(x:ObjOk P w H h a o):∃ob,h.get? a=some ob:=by
 induction o with
 | lst xs=>obtain⟨_,_,_,_,e⟩:=x;exact⟨_,e⟩
 | tup xs=>obtain⟨_,_,_,ob,e,_⟩:=x;exact⟨_,e⟩
 | dK kvs=>obtain⟨_,_,_,_,ob,_,_,e,_⟩:=x;exact⟨_,e⟩
 | dT kvs=>obtain⟨_,_,_,_,ob,_,_,e,_⟩:=x;exact⟨_,e⟩
 | dF kvs=>obtain⟨_,_,o,_,_,e,_⟩:=x;exact⟨o,e⟩
 | set S n=>obtain⟨ob,_,_,_,e,_⟩:=x;exact⟨_,e⟩
 | ins C dx fs=>obtain⟨_,_,_,e,_⟩:=x;exact⟨_,e⟩
 | own y=>exact x
 | xd fs=>obtain⟨_,⟨od,_,_,e,_⟩,_⟩:=x;exact⟨_,e⟩
 | rng lo hi=>obtain⟨_,_,_,e⟩:=x;exact⟨_,e⟩
 | frz ob u ih=>exact⟨_,x.1⟩
 | tbl ps=>exact⟨_,x⟩
 | met f y=>exact⟨_,x⟩
 | ext φ=>exact x.2.1
end
section
variable{X:Cx}{pins:List (Addr×Obj)}{σ:St}{H:Hp}{s:Shared}{h':Heap}{D:Addr}{ob:Obj}{o:HO}{m:Str→Option Value}
noncomputable abbrev gOf (s:Shared):Heap:=Att.noObjs s.heap
noncomputable abbrev newsOf (X:Cx) (s:Shared):List (Addr×Obj):=allNews (gOf s) s.heap X.env.locals
theorem K5(N:News (gOf s) X.env.locals h' ((D,ob)::newsOf X s)):∀b u,b≠X.env.locals→s.heap.get? b=some u→h'.get? b=some u:=fun b u hb e=>
 (N (b,u) (List.mem_cons_of_mem _ (K7 hb (Att.noObjs_get _ _) e))).1
theorem Inv.newsLaid{t':Nat}(I:Inv X pins σ H s)(hm:s.heap.Ns X.env.locals m)(F:Fr (gOf s) X.env.locals h' m)(N:News (gOf s) X.env.locals h' ((D,ob)::newsOf X s))(hD:s.heap.get? D=none)
  (new:ObjOk X.prog X.w (upd H D o) h' D o):Inv X pins σ (upd H D o) { s with heap:=h',toks:=t' }:=by
 have hn:H D=none:=by
  cases q:H D with
  | none=>rfl
  | some u=>
   obtain⟨ob',e⟩:=(I.hok D u q).there
   rw[hD]at e
   cases e
 have up:∀b u,H b=some u→upd H D o b=some u:=fun b u e=>by rw[CJ (DR e hn)];exact e
 have keep:=K5 N
 refine I.step (g':=s.gens) (d':=s.drawn) (ch:=[]) (fun b hb=>nomatch hb) (fun b u hL _ _ e _=>keep b u hL e) (fun b u hL _ _ e _=>⟨u.slots,keep b u hL e⟩)
  (fun b u _ e n=>?_) (fun b u _ e=>?_) (fun b xs e=>up b _ e) (fun b u xs e=>up b _ e) (fun b ps e=>⟨#[],by rw[up b _ e];simp⟩) (fun m' hm'=>?_) (fun b u e=>?_) I.bare
 ·rw[CJ (fun z=>by rw[z,hD]at e;cases e)]
  exact n
 ·by_cases hL:b=X.env.locals
  ·subst hL
   obtain⟨ol,_,_,e',_⟩:=F.ns
   exact⟨ol,e'⟩
  ·exact⟨u,keep b u hL e⟩
 ·have e:m'=m:=by
   obtain⟨o1,es1,ep1,a1,b1,c1,d1⟩:=hm
   obtain⟨o2,es2,ep2,a2,b2,c2,d2⟩:=hm'
   rw[a1]at a2
   cases a2
   rw[b1]at b2
   cases b2
   funext x
   rw[←d1 x,←d2 x]
  rw[e]
  exact F.ns
 ·by_cases hb:b=D
  ·subst hb;rw[CV]at e;cases e;exact new
  ·rw[CJ hb]at e
   refine(I.hok b u e).stay (fun c v hc q=>keep c v (fun z=>?_) q) (fun c q=>up c _ q) fun c xs q=>up c _ q
   have n:=I.free
   rcases hc with rfl | hc
   ·rw[z,n]at e;cases e
   ·rw[z,n]at hc;cases hc
end
noncomputable def pltB(p q:Str×Int):Bool:=if p.1=q.1 then (if p.2=q.2 then false else decide (p.2<q.2)) else decide (p.1.cps.toList<q.1.cps.toList)
section
variable{prog:Program}{w:World}{A:Around}{E:Value→Shared→Prop}{s:Shared}
theorem qK{x y:Addr}{a b:Str}{n m:Int}{t1 t2 t3 t4:Tok}{Q:Bool→Shared→Prop}(hx:IsTup s.heap x #[.str a t1,.int n t2])(hy:IsTup s.heap y #[.str b t3,.int m t4])(h:Q (pltB (a,n) (b,m)) s):
  wpAny (model prog w) A (keyLt' (tuples' true) (.ref x) (.ref y)) Q E s:=by
 obtain⟨ox,ex,_,_,dx⟩:=hx
 obtain⟨oy,ey,_,_,dy⟩:=hy
 refine PySem.W.kat_lt ex dx ey dy ?_
 show PySem.W.KatLex prog w A true _ Q [(.str a t1,.str b t3),(.int n t2,.int m t4)] 0 s
 refine PySem.W.kat_cons (VR (y:=.str a) (x:=.str b) ⟨_,rfl⟩ ⟨_,rfl⟩ rfl rfl prog w _ _ ?_)
 unfold pltB at h
 by_cases hab:a=b
 ·have e1:eqV (.str a) (.str b)=true:=by rw[hab];exact beq_self_eq_true b
  rw[e1]
  rw[if_pos hab]at h
  refine PySem.W.kat_yes (PySem.W.kat_cons (VR (y:=.int n) (x:=.int m) ⟨_,rfl⟩ ⟨_,rfl⟩ rfl rfl prog w _ _ ?_))
  by_cases hnm:n=m
  ·have e2:eqV (.int n) (.int m)=true:=by rw[hnm];exact beq_self_eq_true m
   rw[e2]
   rw[if_pos hnm]at h
   refine PySem.W.kat_yes (PySem.W.kat_nil ?_)
   simpa using h
  ·have e2:eqV (.int n) (.int m)=false:=(beq_eq_false_iff_ne.mpr hnm:(n==m)=false)
   rw[e2]
   rw[if_neg hnm]at h
   exact PySem.W.kat_no (PySem.W.kat_one _ _ (lt_int h))
 ·have e1:eqV (.str a) (.str b)=false:=(beq_eq_false_iff_ne.mpr hab:(a==b)=false)
  rw[e1]
  rw[if_neg hab]at h
  exact PySem.W.kat_no (oneLt_str h)
end
def SiV(K:PySem.W.Frag)(H:Hp):List V→List (Str×Int)→Prop:=Paired fun v p=>∃b,v=.ref b∧SqT K H b [.str p.1,.int p.2]
section
variable{X:Cx}
theorem xP{pins:List (Addr×Obj)}{σ:St}{H:Hp}{s:Shared}(I:Inv X pins σ H s){vs:List V}{ps:List (Str×Int)}{us:List Value}(h:SiV X.K H vs ps)(g:Vals vs us):
  Paired (fun u (p:Str×Int)=>∃a t1 t2,u=Value.ref a∧IsTup s.heap a #[.str p.1 t1,.int p.2 t2]) us ps:=by
 induction h generalizing us with
 | nil=>cases g;exact .nil
 | cons q t ih=>cases g with
  | cons r rr=>
   obtain⟨b,rfl,hq⟩:=q
   cases r
   obtain⟨its,rv,ht,_⟩:=I.tuple hq
   obtain⟨u1,u2,rfl,⟨t1,rfl⟩,⟨t2,rfl⟩⟩:=rv.two
   exact .cons ⟨b,t1,t2,rfl,ht⟩ (ih rr)
theorem aH{h:Heap}:∀{us:List Value} {ps:List (Str×Int)} {i:Nat},Paired (fun u (p:Str×Int)=>∃a t1 t2,u=Value.ref a∧IsTup h a #[.str p.1 t1,.int p.2 t2]) us ps→i<us.length→
  ∃a t1 t2 p,us.getD i Value.none=Value.ref a∧ps[i]?=some p∧IsTup h a #[.str p.1 t1,.int p.2 t2]
 | _,_,_,.nil,h=>absurd h (Nat.not_lt_zero _)
 | _,_,0,.cons q _,_=>by
  obtain⟨a,t1,t2,rfl,ht⟩:=q
  exact⟨a,t1,t2,_,rfl,rfl,ht⟩
 | _,_,i+1,.cons _ t,h=>by
  obtain⟨a,t1,t2,p,e1,e2,ht⟩:=aH (i:=i) t (by simpa using h)
  exact⟨a,t1,t2,p,by simpa using e1,by simpa using e2,ht⟩
theorem oO{h:Heap}{us:List Value}{ps:List (Str×Int)}(hq:Paired (fun u (p:Str×Int)=>∃a t1 t2,u=Value.ref a∧IsTup h a #[.str p.1 t1,.int p.2 t2]) us ps):∃fs,PySem.W.KatTups h us fs∧fs.length=us.length∧∀v∈fs,∃x t,v=Value.str x t:=by
 induction hq with
 | nil=>exact⟨[],.nil,rfl,fun _ h=>nomatch h⟩
 | cons q t ih=>
  obtain⟨fs,h1,h2,h3⟩:=ih
  obtain⟨a,t1,t2,rfl,o,ho,hc,n,hd⟩:=q
  refine⟨_::fs,.cons ho hc hd rfl h1,by simp[h2],fun v hv=>?_⟩
  rcases List.mem_cons.mp hv with rfl | hv
  ·exact⟨_,_,rfl⟩
  ·exact h3 v hv
theorem O1{xs:List V}{us:List Value}(r:Vals xs us):∀js:List Nat,(∀j∈js,j<xs.length)→Vals (js.map fun j=>xs.getD j .non) (js.map fun j=>us.getD j Value.none)
 | [],_=>.nil
 | j::js,h=>by
  have hj:=h j List.mem_cons_self
  have e:xs[j]?=some xs[j]:=by simp[hj]
  obtain⟨u,e2,ru⟩:=r.get e
  refine .cons ?_ (O1 r js fun i hi=>h i (List.mem_cons_of_mem _ hi))
  show RelV (xs.getD j .non) (us.getD j Value.none)
  rw[List.getD_eq_getElem?_getD,List.getD_eq_getElem?_getD,e,e2]
  exact ru
end
end L2
end
section
namespace PySem.W
noncomputable def KasT.runv{α:Type}(n:Nat)(ans:Nat→Nat→Bool):KasT α→Option α
 | .ret a=>some a
 | .ask i j k=>if i<n∧j<n then (k (ans i j)).runv n ans else none
theorem KasT.runv_wp{α:Type}{n:Nat}{ans:Nat→Nat→Bool}{cmp:Nat→Nat→(Bool→Shared→Prop)→Shared→Prop}{Q:α→Shared→Prop}{s:Shared}(hc:∀i j,i<n→j<n→∀C:Bool→Shared→Prop,C (ans i j) s→cmp i j C s):
  ∀(t:KasT α) {a:α},t.runv n ans=some a→Q a s→t.kasWp cmp Q s
 | .ret a,b,h,q=>by
  have:a=b:=Option.some.inj h
  subst this
  exact q
 | .ask i j k,b,h,q=>by
  unfold KasT.runv at h
  split at h
  ·rename_i hij
   exact hc i j hij.1 hij.2 _ (KasT.runv_wp hc _ h q)
  ·cases h
theorem KasT.runv_congr{α:Type}{n:Nat}{f g:Nat→Nat→Bool}(h:∀i j,i<n→j<n→f i j=g i j):∀t:KasT α,t.runv n f=t.runv n g
 | .ret a=>rfl
 | .ask i j k=>by
  unfold KasT.runv
  by_cases hij:i<n∧j<n
  ·rw[if_pos hij,if_pos hij,h i j hij.1 hij.2]
   exact KasT.runv_congr h _
  ·rw[if_neg hij,if_neg hij]
noncomputable def tabA(b01 b02 b03 b12 b13 b23:Bool):Nat→Nat→Bool
 | 0,1=>b01
 | 1,0=>!b01
 | 0,2=>b02
 | 2,0=>!b02
 | 0,3=>b03
 | 3,0=>!b03
 | 1,2=>b12
 | 2,1=>!b12
 | 1,3=>b13
 | 3,1=>!b13
 | 2,3=>b23
 | 3,2=>!b23
 | _,_=>false
noncomputable def transA(n:Nat)(f:Nat→Nat→Bool):Bool:=(List.range n).all fun i=>(List.range n).all fun j=>(List.range n).all fun k=>!(f i j&&f j k)||f i k
noncomputable def risesA(f:Nat→Nat→Bool):List Nat→Bool
 | a::b::r=>f a b&&risesA f (b::r)
 | _=>true
noncomputable def goodA(n:Nat)(f:Nat→Nat→Bool):Bool:=!transA n f||(match (kas_sort n).runv n f with | some p=>p.toList.isPerm (List.range n)&&risesA f p.toList | none=>false)
theorem good2:∀a b c d e f:Bool,goodA 2 (tabA a b c d e f)=true:=by decide +kernel
theorem good3:∀a b c d e f:Bool,goodA 3 (tabA a b c d e f)=true:=by decide +kernel
theorem yN:∀a b c d e f:Bool,goodA 4 (tabA a b c d e f)=true:=by decide +kernel
theorem N7{n:Nat}{f g:Nat→Nat→Bool}(h:∀i j,i<n→j<n→f i j=g i j):∀{l:List Nat},(∀i∈l,i<n)→risesA f l=risesA g l
 | [],_=>rfl
 | [_],_=>rfl
 | a::b::r,hl=>by
  unfold risesA
  rw[h a b (hl a (by simp)) (hl b (by simp)),N7 h (l:=b::r) fun i hi=>hl i (List.mem_cons_of_mem _ hi)]
theorem sort_rises{n:Nat}(hn:2≤n)(hn4:n≤4){f:Nat→Nat→Bool}(h0:∀i,f i i=false)(h1:∀i j,i<n→j<n→i≠j→f j i=!f i j)(h2:∀i j k,i<n→j<n→k<n→f i j=true→f j k=true→f i k=true):
  ∃p,(kas_sort n).runv n f=some p∧p.toList.Perm (List.range n)∧risesA f p.toList=true:=by
 have e:∀i j,i<n→j<n→f i j=tabA (f 0 1) (f 0 2) (f 0 3) (f 1 2) (f 1 3) (f 2 3) i j:=fun i j hi hj=>by
  rcases(show i=0∨i=1∨i=2∨i=3 by lia) with rfl | rfl | rfl | rfl<;>rcases(show j=0∨j=1∨j=2∨j=3 by lia) with rfl | rfl | rfl | rfl<;>first | exact h0 _ | rfl | exact h1 _ _ hj hi (by decide)
 have tr:transA n (tabA (f 0 1) (f 0 2) (f 0 3) (f 1 2) (f 1 3) (f 2 3))=true:=by
  unfold transA
  rw[List.all_eq_true];intro i hi
  rw[List.all_eq_true];intro j hj
  rw[List.all_eq_true];intro k hk
  rw[List.mem_range]at hi hj hk
  rw[←e i j hi hj,←e j k hj hk,←e i k hi hk]
  cases h3:f i j with
  | false=>rfl
  | true=>
   cases h4:f j k with
   | false=>rfl
   | true=>rw[h2 i j k hi hj hk h3 h4];rfl
 have g:goodA n (tabA (f 0 1) (f 0 2) (f 0 3) (f 1 2) (f 1 3) (f 2 3))=true:=by
  rcases(show n=2∨n=3∨n=4 by lia) with rfl | rfl | rfl
  ·exact good2 ..
  ·exact good3 ..
  ·exact yN ..
 unfold goodA at g
 rw[tr,Bool.not_true,Bool.false_or]at g
 rw[KasT.runv_congr e]
 split at g
 ·rename_i p hp
  rw[Bool.and_eq_true]at g
  have hperm:p.toList.Perm (List.range n):=List.isPerm_iff.mp g.1
  refine⟨p,hp,hperm,?_⟩
  rw[N7 e fun i hi=>List.mem_range.mp (hperm.mem_iff.mp hi)]
  exact g.2
 ·cases g
end PySem.W
namespace PyProof.Rows
open PySem
section
variable{prog:Program}{w:World}{A:Around}{E:Value→Shared→Prop}{s:Shared}
theorem JV{a:Addr}{vs:List Value}{n:Nat}{P:Fin→Shared→Prop}(ho:s.heap.get? a=some (seqObj "list" vs.toArray n))(h2:vs.length<2)
  (h:P (.done (.ret .none)) { s with heap:=sortedHeap s.heap a vs ((pairsOf vs).map (·.2)) }) :
  wpAny (model prog w) A (Builtin.«list.sort» ⟨[.ref a],[]⟩) P E s:=by
 rw[list_sort_plain]
 have ha:a<s.heap.objs.size:=Heap.lt_size ho
 refine wpAny_bind (listItems_at ho rfl ?_)
 refine wpAny_bind (listUpdate_at ho rfl ?_)
 obtain⟨e1,ho1⟩:∃e1,(s.heap.update a (Obj.mapSeq fun _=>#[])).get? a=some (seqObj "list" #[] e1):=⟨_,get?_update_seq ho (fun _=>#[])⟩
 refine wpAny_bind (seqEpoch_at ho1 rfl ?_)
 refine wpAny_bind (wpAny_newTuple ?_)
 refine wpAny_bind (wpAny_newList ?_)
 refine wpAny_holding ?_
 have ho6:(((s.heap.update a (Obj.mapSeq fun _=>#[])).push (seqObj "tuple" vs.toArray 0)).push (seqObj "list" #[] 0)).get? a=some (seqObj "list" #[] e1):=by
  rw[Heap.get?_push_ne _ _ _ (by rw[size_push',Heap.size_update];exact Nat.ne_of_lt (Nat.lt_succ_of_lt ha)),Heap.get?_push_ne _ _ _ (by rw[Heap.size_update];exact Nat.ne_of_lt ha)]
  exact ho1
 show wpAny (model prog w) A _ P E { s with heap:=((s.heap.update a (Obj.mapSeq fun _=>#[])).push (seqObj "tuple" vs.toArray 0)).push (seqObj "list" #[] 0) }
 dsimp only
 have hsz:vs.toArray.size=vs.length:=by simp
 have h2':vs.toArray.size<2:=by rw[hsz];exact h2
 rw[if_pos h2',if_pos h2']
 refine wpAny_bind (wpAny_pure ?_)
 rw[StateT.run_pure]
 refine wpAny_bind (wpAny_pure ?_)
 dsimp only
 refine wpAny_bind (seqEpoch_at ho6 rfl ?_)
 refine wpAny_bind (listUpdate_at ho6 rfl ?_ (hsz2:=by rw[Array.size_map];show (pairsOf vs).size≤_;rw[pairsOf_size,sizeLine_eq];lia))
 simp only[bne_self_eq_false,Bool.false_eq_true,if_false]
 exact wpAny_pure h
theorem U9{l:Addr}{vs:List Value}{Q:Value→Shared→Prop}(hl:s.heap.IsList l vs.toArray)(h2:vs.length<2)
  (h:Q (.ref (s.heap.objs.size+1)) { s with heap:=sortedAll s.heap vs ((pairsOf vs).map (·.2)) }) :
  wpAny (model prog w) A (call (.builtin "sorted") [.ref l]) Q E s:=by
 refine Calls.call_function_entry kind_sorted plain_sorted entry_sorted (args_sorted1 _) ?_
 unfold Builtin.«sorted»
 refine wpAny_bind (m:=checkCount "sorted" 1 1 _) (wpAny_pure ?_)
 refine wpAny_bind (collect_list hl ?_ (by rw[sizeLine_eq];omega))
 refine wpAny_bind (wpAny_newList ?_ (by rw[sizeLine_eq];omega))
 have hsz:((s.heap.push (seqObj "list" #[] 0)).update s.heap.objs.size (Obj.mapSeq (·++vs.toArray))).objs.size=s.heap.objs.size+1:=by
  rw[Heap.size_update,size_push']
 have hoL:(((s.heap.push (seqObj "list" #[] 0)).update s.heap.objs.size (Obj.mapSeq (·++vs.toArray))).push (seqObj "list" vs.toArray 0)).get? (s.heap.objs.size+1)=some (seqObj "list" vs.toArray 0):=by
  rw[←hsz];exact Heap.get?_push_size _ rfl
 show wpAny _ _ _ _ _ { s with heap:=((s.heap.push (seqObj "list" #[] 0)).update s.heap.objs.size (Obj.mapSeq (·++vs.toArray))).push (seqObj "list" vs.toArray 0) }
 rw[hsz]
 refine wpAny_bind (wpAny_holding (wpAny_call_entry slot_list_sort ⟨_,hoL,rfl⟩ entry_list_sort (JV hoL h2 ⟨_,rfl,?_⟩) (args_list_sort _)))
 exact wpAny_pure ⟨_,rfl,h⟩
end
end PyProof.Rows
namespace L2
open PySem PySem.Spec PyProof.Rows
noncomputable def ansP(ps:List (Str×Int))(i j:Nat):Bool:=pltB (ps.getD i (⟨#[]⟩,0)) (ps.getD j (⟨#[]⟩,0))
theorem QZ(p:Str×Int):pltB p p=false:=by simp[pltB]
theorem KD{p q:Str×Int}(h:p.1≠q.1):pltB p q=decide (p.1.cps.toList<q.1.cps.toList):=by unfold pltB;rw[if_neg h]
theorem sX{a b:Str}(h:a.cps.toList=b.cps.toList):a=b:=by
 obtain⟨x⟩:=a
 obtain⟨y⟩:=b
 have:x=y:=by simpa using congrArg List.toArray h
 rw[this]
theorem Z0{a b:Str}(h:a≠b):decide (b.cps.toList<a.cps.toList)=!decide (a.cps.toList<b.cps.toList):=by
 by_cases h1:a.cps.toList<b.cps.toList
 ·rw[decide_eq_true h1,decide_eq_false (fun h2=>List.lt_irrefl _ (List.lt_trans h1 h2))];rfl
 ·rw[decide_eq_false h1]
  by_cases h2:b.cps.toList<a.cps.toList
  ·rw[decide_eq_true h2];rfl
  ·exact absurd (sX (List.le_antisymm (List.not_lt.mp h2) (List.not_lt.mp h1))) h
theorem key_ne{ps:List (Str×Int)}(hn:(ps.map (·.1)).Nodup){i j:Nat}(hi:i<ps.length)(hj:j<ps.length)(h:i≠j):(ps.getD i (⟨#[]⟩,0)).1≠(ps.getD j (⟨#[]⟩,0)).1:=fun e=>by
 have e1:(ps.map (·.1))[i]'(by simpa using hi)=(ps.getD i (⟨#[]⟩,0)).1:=by simp[List.getD_eq_getElem?_getD,hi]
 have e2:(ps.map (·.1))[j]'(by simpa using hj)=(ps.getD j (⟨#[]⟩,0)).1:=by simp[List.getD_eq_getElem?_getD,hj]
 exact h ((List.getElem_inj hn).mp (e1.trans (e.trans e2.symm)))
theorem ZK{ps:List (Str×Int)}(hn:(ps.map (·.1)).Nodup):(∀i,ansP ps i i=false)∧(∀i j,i<ps.length→j<ps.length→i≠j→ansP ps j i=!ansP ps i j)∧(∀i j k,i<ps.length→j<ps.length→k<ps.length→ansP ps i j=true→ansP ps j k=true→ansP ps i k=true):=by
 refine⟨fun i=>QZ _,fun i j hi hj h=>?_,fun i j k hi hj hk h1 h2=>?_⟩
 ·unfold ansP
  rw[KD (key_ne hn hj hi (Ne.symm h)),KD (key_ne hn hi hj h)]
  exact Z0 (key_ne hn hi hj h)
 ·have nij:i≠j:=fun z=>by subst z;unfold ansP at h1;rw[QZ]at h1;cases h1
  have njk:j≠k:=fun z=>by subst z;unfold ansP at h2;rw[QZ]at h2;cases h2
  unfold ansP at h1 h2 ⊢
  rw[KD (key_ne hn hi hj nij),decide_eq_true_eq]at h1
  rw[KD (key_ne hn hj hk njk),decide_eq_true_eq]at h2
  have h3:=List.lt_trans h1 h2
  have nik:(ps.getD i (⟨#[]⟩,0)).1≠(ps.getD k (⟨#[]⟩,0)).1:=fun z=>by rw[z]at h3;exact List.lt_irrefl _ h3
  rw[KD nik,decide_eq_true h3]
section
variable{X:Cx}
theorem W9:CallR X (.builtin "sorted") (fun xs H Q=>∃a vs ps,xs=[.ref a]∧SqL X.K H a vs∧SiV X.K H vs ps∧vs.length≤4∧(ps.map (·.1)).Nodup∧
  ∀p (js:List Nat),H p=none→js.Perm (List.range vs.length)→PySem.W.risesA (ansP ps) js=true→Q (.ref p) (upd H p (.lst (js.map fun j=>vs.getD j .non)))):=by
 intro pins s σ H xs us Q I r h
 obtain⟨a,vs,ps,rfl,hq,hsi,h4,hnd,q⟩:=h
 obtain⟨u,rfl,ru⟩:=vals1 r
 cases ru
 obtain⟨its,rv,pl,hz⟩:=I.list hq
 have hl:=rv.length
 have hlp:vs.length=ps.length:=Paired.length hsi
 by_cases hshort:its.length<2
 ·refine U9 pl.isList hshort ?_
  have hout:((pairsOf its).map (·.2)).toList=its:=by
   rw[Array.toList_map,pairsOf_toList,List.map_snd_zip (Nat.le_refl _)]
  obtain⟨e,he⟩:=sortedAll_at s.heap its ((pairsOf its).map (·.2))
  have hpick:=O1 rv (List.range vs.length) fun j hj=>List.mem_range.mp hj
  have e1:((List.range vs.length).map fun j=>its.getD j Value.none)=its:=by
   apply List.ext_getElem?
   intro i
   by_cases hi:i<its.length
   ·rw[List.getElem?_map,List.getElem?_range (by lia)]
    simp[List.getD_eq_getElem?_getD,hi]
   ·rw[List.getElem?_eq_none (by simp;lia),List.getElem?_eq_none (by lia)]
  rw[e1]at hpick
  refine⟨.ref (s.heap.objs.size+1),_,I.laid (a:=s.heap.objs.size+1) (o:=.lst ((List.range vs.length).map fun j=>vs.getD j .non)) (t':=s.toks) (fun b o e=>sortedAll_old e) (Nat.le_succ _) ⟨?_,its,e,hpick,?_⟩,rfl,q _ _ (I.hok.fresh (Nat.le_succ _)) (List.Perm.refl _) ?_⟩
  ·rw[List.length_map,List.length_range,sizeLine_eq];lia
  ·have hm:(pairsOf its).map (·.2)=its.toArray:=Array.ext' (by rw[hout])
   exact he.trans (by rw[hm])
  ·have:vs.length<2:=by lia
   rcases(show vs.length=0∨vs.length=1 by lia) with z | z<;>rw[z]<;>rfl
 have hp:=xP I hsi rv
 obtain⟨m,hm,_⟩:=I.loc
 refine PySem.W.kat_sorted (vs:=its) (Att.fr_all hm) (YC (g:=gOf s) (h:=s.heap) (L:=X.env.locals)) pl.isList (by lia) (by lia) fun D e1 h1 F1 N1 hlt=>?_
 have keep:=K5 (X:=X) (s:=s) N1
 have nD:=(N1 (D,_) List.mem_cons_self).2.1
 have hD:s.heap.get? D=none:=by
  cases e:s.heap.get? D with
  | none=>rfl
  | some ob=>exact absurd (hlt (D,ob) (K7 nD (Att.noObjs_get _ _) e)) (Nat.lt_irrefl _)
 have hn:H D=none:=by
  cases e:H D with
  | none=>rfl
  | some u=>
   obtain⟨ob',e'⟩:=(I.hok D u e).there
   rw[hD]at e'
   cases e'
 have notL:∀b xs,IsTup s.heap b xs→b≠X.env.locals:=fun b xs ⟨ob,e,_,n,d⟩ z=>by
  obtain⟨ol,_,_,el,dl,_⟩:=hm
  rw[z,el]at e
  cases e
  rw[dl]at d
  cases d
 have hp1:Paired (fun u (p:Str×Int)=>∃a t1 t2,u=Value.ref a∧IsTup h1 a #[.str p.1 t1,.int p.2 t2]) its ps:=Paired.mapP hp fun u p ⟨a,t1,t2,e,ht⟩=>
  ⟨a,t1,t2,e,let ⟨ob,eo,c⟩:=ht;⟨ob,keep a ob (notL _ _ ht) eo,c⟩⟩
 obtain⟨fs,t1,t2,t3⟩:=oO hp1
 refine PySem.W.kat_kind (s:={ s with heap:=h1 }) (T:=.type "str") t1 (by lia) (fun v hv=>?_) (by decide) ?_
 ·obtain⟨x,t,rfl⟩:=t3 v hv
  exact .now
 ·show PySem.W.KasT.kasWp _ _ _ _
  obtain⟨o1,o2,o3⟩:=ZK hnd
  obtain⟨p,hrun,hperm,hrise⟩:=PySem.W.sort_rises (n:=its.length) (f:=ansP ps) (by lia) (by lia) o1 (fun i j hi hj=>o2 i j (by lia) (by lia)) fun i j k hi hj hk=>o3 i j k (by lia) (by lia) (by lia)
  refine PySem.W.KasT.runv_wp (n:=its.length) (ans:=ansP ps) (fun i j hi hj C hC=>?_) _ hrun ?_
  ·obtain⟨a1,b1,b2,p1,e1',e2',ht1⟩:=aH (i:=i) hp1 hi
   obtain⟨a2,c1,c2,p2,e3',e4',ht2⟩:=aH (i:=j) hp1 hj
   unfold PySem.W.kas_ask
   rw[e1',e3']
   refine qK (s:={ s with heap:=h1 }) ht1 ht2 ?_
   unfold ansP at hC
   rw[List.getD_eq_getElem?_getD,List.getD_eq_getElem?_getD,e2',e4']at hC
   exact hC
  ·refine PySem.W.KasFin.intro (s:={ s with heap:=h1 }) F1 N1 (.head fun b hb=>Nat.ne_of_lt (hlt b hb)) fun h2 c F2 N2=>?_
   have hv:=O1 rv p.toList fun j hj=>by
    have:=List.mem_range.mp (hperm.mem_iff.mp hj)
    lia
   refine⟨.ref D,_,I.newsLaid (t':=s.toks) (o:=.lst (p.toList.map fun j=>vs.getD j .non)) hm F2 N2 hD ⟨?_,_,c,hv,(N2 (D,_) List.mem_cons_self).1⟩,rfl,q D p.toList hn (by rw[hl];exact hperm) hrise⟩
   rw[List.length_map,hperm.length_eq,List.length_range,sizeLine_eq]
   lia
end
end L2
end
section
namespace L2
open PySem PySem.Spec PyProof.Rows
noncomputable def kltB:Key→Key→Bool
 | .inl i,.inl j=>decide (i<j)
 | .inr x,.inr y=>decide (x.cps.toList<y.cps.toList)
 | .inl _,.inr _=>true
 | .inr _,.inl _=>false
noncomputable def sameT:Key→Key→Bool
 | .inl _,.inl _=>true
 | .inr _,.inr _=>true
 | _,_=>false
noncomputable def fltB2(p q:Str×Key):Bool:=if p.1=q.1 then (if p.2=q.2 then false else kltB p.2 q.2) else decide (p.1.cps.toList<q.1.cps.toList)
section
variable{prog:Program}{w:World}{A:Around}{E:Value→Shared→Prop}{s:Shared}
theorem R9{h:Heap}{k:Str}{x:Key}{c:Addr}(hc:IsTupleKey (mixKind prog w) h [.inr k,x] c):∃o n t u v,h.get? c=some o∧o.cls=.type "tuple"∧o.data=.seq (#[.str k t,v]:Array Value) n∧keyIs x v=true∧u=t:=by
 obtain⟨o,items,n,ho,hcl,hd,hi⟩:=hc
 obtain⟨v1,v2,e1,e2,hl⟩:∃v1 v2,keyIs (.inr k) v1=true∧keyIs x v2=true∧items.toList=[v1,v2]:=by
  generalize hq:items.toList=l at hi
  cases hi with
  | cons h1 t1=>
   cases t1 with
   | cons h2 t2=>
    cases t2
    exact⟨_,_,h1,h2,rfl⟩
 rcases DW e1 with ⟨i,t,q,_⟩ | ⟨y,t,q,rfl⟩
 ·cases q
 ·cases q
  refine⟨o,n,t,t,v2,ho,hcl,?_,e2,rfl⟩
  rw[hd]
  congr 1
  apply Array.ext'
  rw[hl]
theorem PX{x y:Key}{u v:Value}{Q:Value→Shared→Prop}(hT:sameT x y=true)(hu:keyIs x u=true)(hv:keyIs y v=true)(h:Q (.bool (kltB x y)) s):wpAny (model prog w) A (richCompare .Lt u v) Q E s:=by
 rcases DW hu with ⟨i,t,rfl,rfl⟩ | ⟨a,t,rfl,rfl⟩
 ·rcases DW hv with ⟨j,t',rfl,rfl⟩ | ⟨b,t',rfl,rfl⟩
  ·exact(PyProof.Rows.lt_int h:wpAny (model prog w) A (compareOp .Lt _ _) Q E s)
  ·cases hT
 ·rcases DW hv with ⟨j,t',rfl,rfl⟩ | ⟨b,t',rfl,rfl⟩
  ·cases hT
  ·exact(PyProof.Rows.lt_str h:wpAny (model prog w) A (compareOp .Lt _ _) Q E s)
theorem VJ{p q:Str×Key}{a b:Addr}{P:Fin→Shared→Prop}(hT:sameT p.2 q.2=true∨p.1≠q.1)(hx:IsTupleKey (mixKind prog w) s.heap [.inr p.1,p.2] a)(hy:IsTupleKey (mixKind prog w) s.heap [.inr q.1,q.2] b)(h:P (.done (.ret (.bool (fltB2 p q)))) s):
  wpAny (model prog w) A (Builtin.«tuple.__lt__» ⟨[.ref a,.ref b],[]⟩) P E s:=by
 have hTb:=hy.typeIs
 obtain⟨oa,na,ta,_,va,hoa,_,hda,hka,_⟩:=R9 hx
 obtain⟨ob,nb,tb,_,vb,hob,_,hdb,hkb,_⟩:=R9 hy
 show wpAny _ _ (isInstance (.ref b) (.type "tuple") >>= _) _ _ s
 refine wpAny_bind (wpAny_isInstance hTb isSubtype_tuple_tuple ?_)
 simp only[Bool.not_true,Bool.false_eq_true,if_false]
 refine wpAny_bind (wpAny_tupleItemsOf hoa hda ?_)
 refine wpAny_bind (wpAny_tupleItemsOf hob hdb ?_)
 refine wpAny_bind ?_
 show wpAny _ _ (forIn [(Value.str p.1 ta,Value.str q.1 tb),(va,vb)] _ _) _ _ _
 rw[List.forIn_cons]
 refine wpAny_bind ?_
 refine wpAny_bind ((mixKind prog w).eqBool (a:=.inr p.1) (b:=.inr q.1) K6 K6 ?_)
 unfold fltB2 at h
 by_cases h1:p.1=q.1
 ·rw[decide_eq_true (show (Sum.inr p.1:Key)=.inr q.1 by rw[h1])]
  rw[if_pos h1]at h
  simp only[Bool.not_true,Bool.false_eq_true,if_false]
  refine wpAny_pure ?_
  show wpAny _ _ (forIn [(va,vb)] _ _) _ _ _
  rw[List.forIn_cons]
  refine wpAny_bind ?_
  refine wpAny_bind ((mixKind prog w).eqBool (a:=p.2) (b:=q.2) hka hkb ?_)
  by_cases h2:p.2=q.2
  ·rw[decide_eq_true h2]
   rw[if_pos h2]at h
   simp only[Bool.not_true,Bool.false_eq_true,if_false]
   refine wpAny_pure ?_
   show wpAny _ _ (forIn ([]:List (Value×Value)) _ _) _ _ _
   rw[List.forIn_nil]
   refine wpAny_pure (wpAny_pure ?_)
   exact h
  ·rw[decide_eq_false h2]
   rw[if_neg h2]at h
   simp only[Bool.not_false,if_true]
   refine wpAny_bind (wpAny_rule ?_)
   refine wpAny_bind (PX (hT.resolve_right fun z=>z h1) hka hkb ?_)
   exact wpAny_bind (wpAny_pure (wpAny_pure (wpAny_pure (wpAny_pure h))))
 ·rw[decide_eq_false (show ¬(Sum.inr p.1:Key)=.inr q.1 from fun e=>h1 (Sum.inr.inj e))]
  rw[if_neg h1]at h
  simp only[Bool.not_false,if_true]
  refine wpAny_bind (wpAny_rule ?_)
  refine wpAny_bind (PX (x:=.inr p.1) (y:=.inr q.1) (u:=.str p.1 ta) (v:=.str q.1 tb) rfl (K6 (prog:=prog) (w:=w) (x:=p.1) (t:=ta)) (K6 (prog:=prog) (w:=w) (x:=q.1) (t:=tb)) ?_)
  exact wpAny_bind (wpAny_pure (wpAny_pure (wpAny_pure (wpAny_pure h))))
noncomputable def fltB(p q:FK):Bool:=if p.1=q.1 then (if p.2=q.2 then false else fltB2 p.2 q.2) else decide (p.1.cps.toList<q.1.cps.toList)
theorem rQ{x y:FK}{a b:Addr}{Q:Bool→Shared→Prop}(hu:A.units+10<cLine)(hT:sameT x.2.2 y.2.2=true∨x.2.1≠y.2.1)(hx:IsFlow prog w s.heap x a)(hy:IsFlow prog w s.heap y b)(h:Q (fltB x y) s):
  wpAny (model prog w) A (keyLt' (tuples' true) (.ref a) (.ref b)) Q E s:=by
 obtain⟨ox,xs,n,t,c,hox,_,hdx,hix,hc⟩:=hx
 obtain⟨oy,ys,m,t',d,hoy,_,hdy,hiy,hd⟩:=hy
 refine PySem.W.kat_lt hox hdx hoy hdy ?_
 have z1:xs.size=2:=by rw[←Array.length_toList,hix];rfl
 have z2:ys.size=2:=by rw[←Array.length_toList,hiy];rfl
 rw[hix,hiy,z1,z2]
 show PySem.W.KatLex prog w A true _ Q [(.str x.1 t,.str y.1 t'),(.ref c,.ref d)] 0 s
 refine PySem.W.kat_cons (VR (y:=.str x.1) (x:=.str y.1) ⟨_,rfl⟩ ⟨_,rfl⟩ rfl rfl prog w _ _ ?_)
 unfold fltB at h
 by_cases hab:x.1=y.1
 ·have e1:eqV (.str x.1) (.str y.1)=true:=by rw[hab];exact beq_self_eq_true y.1
  rw[e1]
  rw[if_pos hab]at h
  refine PySem.W.kat_yes (PySem.W.kat_cons (wpAny_eqBool_tuple (x:=fk2 x) (y:=fk2 y) (by lia) hc hd ?_))
  by_cases h2:x.2=y.2
  ·have e2:fk2 x=fk2 y:=by unfold fk2;rw[h2]
   rw[decide_eq_true e2]
   rw[if_pos h2]at h
   exact PySem.W.kat_yes (PySem.W.kat_nil h)
  ·have e2:¬fk2 x=fk2 y:=fun e=>by
    simp only[fk2,List.cons.injEq,Sum.inr.injEq,and_true]at e
    exact h2 (Prod.ext e.1 e.2)
   rw[decide_eq_false e2]
   rw[if_neg h2]at h
   refine PySem.W.kat_no (PySem.W.kat_one _ _ ?_)
   have hTc:=hc.typeIs
   have hTd:=hd.typeIs
   exact wpAny_richCompare_same_room (op:=.Lt) hTc hTd F.slot_tuple_lt (wpAny_call_entry F.slot_tuple_lt hTc F.entry_tuple_lt (VJ (p:=x.2) (q:=y.2) hT hc hd ⟨_,rfl,(fun e=>nomatch e),h⟩) (F.args_tuple_lt_2 _ _)) (by lia)
 ·have e1:eqV (.str x.1) (.str y.1)=false:=(beq_eq_false_iff_ne.mpr hab:(x.1==y.1)=false)
  rw[e1]
  rw[if_neg hab]at h
  exact PySem.W.kat_no (oneLt_str h)
end
end L2
end
section
set_option genInjectivity false
namespace WL
open PySem L2
inductive D where
 | non | bl (b:Bool) | int (i:Int) | str (x:Str) | tup (xs:List D) | lst (xs:List D) | dct (ks:List Key) (vs:List D) | scr (ns:List Int) | mref (i:Nat)
inductive MO where
 | lst (xs:List D) | dct (ks:List Key) (vs:List D) | fd (ks:List FK)
noncomputable abbrev Mem:=List MO
noncomputable abbrev DS:=List (Option D)
mutual
noncomputable def D.beq:D→D→Bool
 | .non,.non=>true
 | .bl a,.bl b=>a==b
 | .int a,.int b=>decide (a=b)
 | .str a,.str b=>decide (a=b)
 | .tup a,.tup b=>D.beqs a b
 | .lst a,.lst b=>D.beqs a b
 | .dct k a,.dct l b=>decide (k=l)&&D.beqs a b
 | .scr a,.scr b=>decide (a=b)
 | .mref a,.mref b=>decide (a=b)
 | _,_=>false
noncomputable def D.beqs:List D→List D→Bool
 | [],[]=>true
 | a::r,b::q=>D.beq a b&&D.beqs r q
 | _,_=>false
end
mutual
theorem D.eq_of_beq:∀{a b:D},D.beq a b=true→a=b
 | .non,b,h=>by cases b with
  | non=>rfl
  | _=>cases (show false=true from h)
 | .bl a,b,h=>by cases b with
  | bl c=>exact congrArg D.bl (LawfulBEq.eq_of_beq (show (a==c)=true from h))
  | _=>cases (show false=true from h)
 | .int a,b,h=>by cases b with
  | int c=>exact congrArg D.int (of_decide_eq_true (show decide (a=c)=true from h))
  | _=>cases (show false=true from h)
 | .str a,b,h=>by cases b with
  | str c=>exact congrArg D.str (of_decide_eq_true (show decide (a=c)=true from h))
  | _=>cases (show false=true from h)
 | .tup a,b,h=>by cases b with
  | tup c=>exact congrArg D.tup (D.eqs_of_beq (show D.beqs a c=true from h))
  | _=>cases (show false=true from h)
 | .lst a,b,h=>by cases b with
  | lst c=>exact congrArg D.lst (D.eqs_of_beq (show D.beqs a c=true from h))
  | _=>cases (show false=true from h)
 | .dct k a,b,h=>by cases b with
  | dct l c=>
   have h:(decide (k=l)&&D.beqs a c)=true:=h
   rw[Bool.and_eq_true]at h
   rw[of_decide_eq_true h.1,D.eqs_of_beq h.2]
  | _=>cases (show false=true from h)
 | .scr a,b,h=>by cases b with
  | scr c=>exact congrArg D.scr (of_decide_eq_true (show decide (a=c)=true from h))
  | _=>cases (show false=true from h)
 | .mref a,b,h=>by cases b with
  | mref c=>exact congrArg D.mref (of_decide_eq_true (show decide (a=c)=true from h))
  | _=>cases (show false=true from h)
theorem D.eqs_of_beq:∀{a b:List D},D.beqs a b=true→a=b
 | [],b,h=>by cases b with
  | nil=>rfl
  | cons _ _=>cases (show false=true from h)
 | a::r,b,h=>by cases b with
  | nil=>cases (show false=true from h)
  | cons c q=>
   have h:(D.beq a c&&D.beqs r q)=true:=h
   rw[Bool.and_eq_true]at h
   rw[D.eq_of_beq h.1,D.eqs_of_beq h.2]
end
noncomputable def D.clean:D→Bool
 | .tup xs=>cleans xs
 | .lst xs=>cleans xs
 | .dct _ xs=>cleans xs
 | .mref _=>false
 | _=>true
where cleans:List D→Bool
 | []=>true
 | a::r=>D.clean a&&cleans r
inductive BOp where | add | sub | mul | mod | fdiv
inductive COp where | eq | ne | lt | le | gt | ge | isin | notin | is | isnot
inductive B1 where
 | len | list (mu:Bool) | tuple | int | all | max | sorted (mu:Bool) | sortedD (mu:Bool) | sortedSet (mu:Bool) | sortedF (mu:Bool) | sortedSF (mu:Bool) | dict (mu:Bool) | dcopy (mu:Bool) | revl (mu:Bool)
 | isTuple | isInt | isStr | isBool
inductive Tg where | nm (i:Nat) | tp (ts:List Tg)
mutual
inductive Ex where
 | var (i:Nat) | con (d:D) | bin (o:BOp) (a b:Ex) | cat (mu:Bool) (a b:Ex) | cmp (o:COp) (a b:Ex) | chain (o p:COp) (a b c:Ex) | notv (a:Ex) | andv (a b:Ex) | orv (a b:Ex) | ife (t:Te) (a b:Ex)
 | tup (as:Exs) | lst (mu:Bool) (as:Exs) | dic (mu:Bool) (ks:List Key) (as:Exs) | ix (a b:Ex) | ixd (a b:Ex) | ind (a b:Ex) | nind (a b:Ex) | sl (a:Ex) (lo hi:Oe)
 | call (f:String) (as:Exs) | b1 (b:B1) (a:Ex) | max2 (a b:Ex) | get (d k z:Ex) | pop (a:Ex) | app (l a:Ex) | ext (l a:Ex)
 | index (l a:Ex) | join (s l:Ex) | comp (mu:Bool) (k:Nat) (g:Tg) (i:Ie) (t:Te) (e:Ex) | lzip (mu:Bool) (a b:Ex) | maxd (a:Ex) (z:Int) | inTxt (a b:Ex) | fdic
inductive Exs where | nil | cons (a:Ex) (r:Exs)
inductive Te where | val (a:Ex) | and (a b:Te) | or (a b:Te) | not (a:Te) | tt
inductive Oe where | no | pt (a:Ex)
inductive Ie where | seq (a:Ex) | rng (a:Ex) | rng2 (a b:Ex) | enum (a:Ex) | zip (a b:Ex) | txt (a:Ex) | enumT (a:Ex)
end
mutual
inductive Sm where
 | set (i:Nat) (a:Ex) | asg (g:Tg) (a:Ex) | put (d k v:Ex) | drop (a:Ex) | ret (a:Ex) | ite (t:Te) (a b:Sms) | whl (t:Te) (b:Sms) | fr (g:Tg) (i:Ie) (b:Sms) | fput (d k:Ex)
inductive Sms where | nil | cons (s:Sm) (r:Sms)
end
noncomputable def seqOf:D→Mem→Option (List D)
 | .tup xs,_=>some xs
 | .lst xs,_=>some xs
 | .scr ns,_=>some (ns.map .int)
 | .mref i,m=>match m[i]? with | some (.lst xs)=>some xs | _=>none
 | _,_=>none
noncomputable def lstOf:D→Mem→Option (List D)
 | .lst xs,_=>some xs
 | .scr ns,_=>some (ns.map .int)
 | .mref i,m=>match m[i]? with | some (.lst xs)=>some xs | _=>none
 | _,_=>none
noncomputable def dctOf:D→Mem→Option (List Key×List D)
 | .dct ks vs,_=>some (ks,vs)
 | .mref i,m=>match m[i]? with | some (.dct ks vs)=>some (ks,vs) | _=>none
 | _,_=>none
noncomputable def mkL(mu:Bool)(xs:List D)(m:Mem):D×Mem:=if mu then (.mref m.length,m++[.lst xs]) else (.lst xs,m)
noncomputable def mkD(mu:Bool)(ks:List Key)(vs:List D)(m:Mem):D×Mem:=if mu then (.mref m.length,m++[.dct ks vs]) else (.dct ks vs,m)
noncomputable def keyD:D→Option Key
 | .int i=>some (.inl i)
 | .str x=>some (.inr x)
 | _=>none
noncomputable def lookD:List Key→List D→Key→Option D
 | k::ks,v::vs,x=>if k=x then some v else lookD ks vs x
 | _,_,_=>none
noncomputable def repD:List Key→List D→Key→D→List D
 | k::ks,v::vs,x,y=>(if k=x then y else v)::repD ks vs x y
 | _,_,_,_=>[]
noncomputable def putD(ks:List Key)(vs:List D)(x:Key)(y:D):List Key×List D:=if ks.any fun k=>decide (k=x) then (ks,repD ks vs x y) else (ks++[x],vs++[y])
mutual
noncomputable def pyD:D→Option PyData
 | .non=>some .none
 | .bl b=>some (.bool b)
 | .int i=>some (.int i)
 | .str x=>some (.str x)
 | .tup xs=>(pyDs xs).map .tuple
 | .lst xs=>(pyDs xs).map .list
 | _=>none
noncomputable def pyDs:List D→Option (List PyData)
 | []=>some []
 | a::r=>(pyD a).bind fun x=>(pyDs r).map (x::·)
end
noncomputable def eqDeep(a b:D):Option Bool:=(pyD a).bind fun x=>(pyD b).bind fun y=>if x.canLay0&&y.canLay0&&decide (min x.depth y.depth≤60) then some (PyData.eqv x y) else none
noncomputable def eqD:D→D→Option Bool
 | .int a,.int b=>some (decide (a=b))
 | .str a,.str b=>some (decide (a=b))
 | a,b=>eqDeep a b
noncomputable def D.isNon:D→Bool
 | .non=>true
 | _=>false
noncomputable def D.isBl(b:Bool):D→Bool
 | .bl c=>c==b
 | _=>false
noncomputable def D.flat:D→Bool
 | .int _=>true
 | .str _=>true
 | _=>false
noncomputable def inD(x:D)(xs:List D):Bool:=xs.any fun y=>match x,y with
 | .int a,.int b=>decide (a=b)
 | .str a,.str b=>decide (a=b)
 | _,_=>false
noncomputable def truD:D→Mem→Option Bool
 | .non,_=>some false
 | .bl b,_=>some b
 | .int i,_=>some (i != 0)
 | .tup xs,_=>some (!xs.isEmpty)
 | .lst xs,_=>some (!xs.isEmpty)
 | .scr ns,_=>some (!ns.isEmpty)
 | .mref i,m=>match m[i]? with | some (.lst xs)=>some (!xs.isEmpty) | some (.dct ks _)=>some (!ks.isEmpty) | _=>none
 | _,_=>none
noncomputable def binD:BOp→D→D→Mem→Option (D×Mem)
 | .add,.int a,.int b,m=>some (.int (a+b),m)
 | .sub,.int a,.int b,m=>some (.int (a-b),m)
 | .mul,.int a,.int b,m=>if (-(2 ^ 64)<a∧a<2 ^ 64)∨(-(2 ^ 64)<b∧b<2 ^ 64) then some (.int (a*b),m) else none
 | .mod,.int a,.int b,m=>if 0<b then some (.int (a % b),m) else none
 | .fdiv,.int a,.int b,m=>if 0<b∧b<1073741824 then some (.int (a / b),m) else none
 | .add,.str a,.str b,m=>if a.length+b.length≤1000 then some (.str (a++b),m) else none
 | .add,.tup a,.tup b,m=>if a.length+b.length≤10000 then some (.tup (a++b),m) else none
 | _,_,_,_=>none
noncomputable def cmpD:COp→D→D→Option Bool
 | .eq,a,b=>eqD a b
 | .ne,a,b=>(eqD a b).map (!·)
 | .lt,.int a,.int b=>some (decide (a<b))
 | .le,.int a,.int b=>some (decide (a≤b))
 | .gt,.int a,.int b=>some (decide (b<a))
 | .ge,.int a,.int b=>some (decide (b≤a))
 | .isin,x,.tup xs=>if x.flat&&xs.all D.flat then some (inD x xs) else none
 | .isin,x,.lst xs=>if x.flat&&xs.all D.flat then some (inD x xs) else none
 | .notin,x,.tup xs=>if x.flat&&xs.all D.flat then some (!inD x xs) else none
 | .notin,x,.lst xs=>if x.flat&&xs.all D.flat then some (!inD x xs) else none
 | .is,x,.non=>some x.isNon
 | .isnot,x,.non=>some (!x.isNon)
 | .is,x,.bl b=>some (x.isBl b)
 | .isnot,x,.bl b=>some (!x.isBl b)
 | _,_,_=>none
noncomputable def ixD:D→D→Mem→Option D
 | .tup xs,.int i,_=>atI xs i
 | .lst xs,.int i,_=>atI xs i
 | .scr ns,.int i,_=>(atI ns i).map .int
 | .str z,.int i,_=>if z.length≤1000 then (atI z.cps.toList i).map fun c=>.str ⟨#[c]⟩ else none
 | .mref r,.int i,m=>match m[r]? with | some (.lst xs)=>atI xs i | _=>none
 | _,_,_=>none
noncomputable def cutD(xs:List D)(lo hi:Option Int):List D:=(xs.drop (HT.sIx xs.length 0 lo)).take (HT.sIx xs.length xs.length hi-HT.sIx xs.length 0 lo)
noncomputable def slD:D→Option Int→Option Int→Option D
 | .tup xs,lo,hi=>some (.tup (cutD xs lo hi))
 | .lst xs,lo,hi=>some (.lst (cutD xs lo hi))
 | .scr ns,lo,hi=>some (.lst (cutD (ns.map .int) lo hi))
 | .str z,lo,hi=>if z.length≤1000 then some (.str (StrLaws.sliceText z lo hi)) else none
 | _,_,_=>none
noncomputable def blsOf:List D→Option (List Bool)
 | []=>some []
 | .bl b::r=>(blsOf r).map (b::·)
 | _=>none
noncomputable def intsOf:List D→Option (List Int)
 | []=>some []
 | .int b::r=>(intsOf r).map (b::·)
 | _=>none
noncomputable def strsOf:List D→Option (List Str)
 | []=>some []
 | .str b::r=>(strsOf r).map (b::·)
 | _=>none
noncomputable def pairsOf:List D→Option (List Key×List D)
 | []=>some ([],[])
 | .tup [k,v]::r=>match keyD k,pairsOf r with
  | some k,some (ks,vs)=>some (k::ks,v::vs)
  | _,_=>none
 | _=>none
noncomputable def putsD:List Key→List D→List Key→List D→List Key×List D
 | ks,vs,k::r,v::q=>putsD (putD ks vs k v).1 (putD ks vs k v).2 r q
 | ks,vs,_,_=>(ks,vs)
noncomputable def maxL:List Int→Option Int
 | []=>none
 | a::r=>some (r.foldl (fun x y=>if y > x then y else x) a)
noncomputable def findD(x:D):List D→Nat→Option Nat
 | [],_=>none
 | y::r,i=>if inD x [y] then some i else findD x r (i+1)
noncomputable def strLe(a b:Str):Bool:=!decide (b.cps.toList<a.cps.toList)
noncomputable def sortStr(l:List Str):List Str:=l.mergeSort strLe
noncomputable def pairSIs:List D→Option (List (Str×Int))
 | []=>some []
 | .tup [.str a,.int b]::r=>(pairSIs r).map ((a,b)::·)
 | _=>none
noncomputable def unSI(p:Str×Int):D:=.tup [.str p.1,.int p.2]
noncomputable def sortSI(ps:List (Str×Int)):List (Str×Int):=ps.mergeSort fun p q=>strLe p.1 q.1
noncomputable def uniq:List Str→List Str
 | []=>[]
 | x::r=>if x∈r then uniq r else x::uniq r
noncomputable def keyV:Key→D
 | .inl i=>.int i
 | .inr x=>.str x
noncomputable def fD(k:FK):D:=.tup [.str k.1,.tup [.str k.2.1,keyV k.2.2]]
noncomputable def fkD:D→Option FK
 | .tup [.str a,.tup [.str b,x]]=>(keyD x).map fun k=>(a,b,k)
 | _=>none
noncomputable def addF(ks:List FK)(k:FK):List FK:=if ks.any (fun x=>decide (x=k)) then ks else ks++[k]
noncomputable def okFK(k:FK):Bool:=match k.2.2 with
 | .inl _=>decide (k.2.1=Str.ofString "page")
 | .inr _=>!decide (k.2.1=Str.ofString "page")
noncomputable def fleB(p q:FK):Bool:=!fltB q p
noncomputable def sortF(l:List FK):List FK:=l.mergeSort fleB
noncomputable def uniqF:List FK→List FK
 | []=>[]
 | x::r=>if r.any (fun y=>decide (y=x))=true then uniqF r else x::uniqF r
noncomputable def fksOf:List D→Option (List FK)
 | []=>some []
 | d::r=>(fkD d).bind fun k=>(fksOf r).map fun ks=>k::ks
noncomputable def b1D:B1→D→Mem→Option (D×Mem)
 | .len,.str z,m=>if z.length≤1000 then some (.int z.length,m) else none
 | .len,d,m=>match seqOf d m,dctOf d m with
  | some xs,_=>some (.int xs.length,m)
  | none,some (ks,_)=>some (.int ks.length,m)
  | none,none=>none
 | .list mu,d,m=>(seqOf d m).map fun xs=>mkL mu xs m
 | .tuple,.tup xs,m=>some (.tup xs,m)
 | .tuple,d,m=>(lstOf d m).map fun xs=>(.tup xs,m)
 | .int,.int i,m=>some (.int i,m)
 | .int,.bl b,m=>some (.int (if b then 1 else 0),m)
 | .all,d,m=>(lstOf d m).bind fun xs=>(blsOf xs).map fun bs=>(.bl (bs.all id),m)
 | .max,d,m=>(lstOf d m).bind fun xs=>(intsOf xs).bind fun ns=>(maxL ns).map fun x=>(.int x,m)
 | .sortedD mu,d,m=>(dctOf d m).bind fun(ks,_)=>if ks.length<64 then (strsOf (ks.map kD)).map fun ss=>mkL mu ((sortStr ss).map .str) m else none
 | .sorted mu,d,m=>(lstOf d m).bind fun xs=>(pairSIs xs).bind fun ps=>if xs.length≤4∧(ps.map (·.1)).Nodup then some (mkL mu ((sortSI ps).map unSI) m) else none
 | .sortedSet mu,d,m=>(lstOf d m).bind fun xs=>(strsOf xs).bind fun ss=>if ss.length≤4000∧(uniq ss).length<64 then some (mkL mu ((sortStr (uniq ss)).map .str) m) else none
 | .sortedF mu,.mref i,m=>match m[i]? with
  | some (.fd ks)=>if ks.length<64∧ks.all okFK=true then some (mkL mu ((sortF ks).map fD) m) else none
  | _=>none
 | .sortedSF mu,d,m=>(seqOf d m).bind fun xs=>(fksOf xs).bind fun ks=>if (uniqF ks).length<64∧ks.all okFK=true then some (mkL mu ((sortF (uniqF ks)).map fD) m) else none
 | .dict mu,.tup xs,m=>(pairsOf xs).bind fun(ks,vs)=>if ks.length≤1000 then some (mkD mu (putsD [] [] ks vs).1 (putsD [] [] ks vs).2 m) else none
 | .revl mu,.tup xs,m=>some (mkL mu xs.reverse m)
 | .isTuple,.tup _,m=>some (.bl true,m)
 | .isTuple,.mref _,m=>none
 | .isTuple,.dct _ _,m=>none
 | .isTuple,_,m=>some (.bl false,m)
 | .isInt,.int _,m=>some (.bl true,m)
 | .isInt,.bl _,m=>some (.bl true,m)
 | .isInt,.mref _,m=>none
 | .isInt,.dct _ _,m=>none
 | .isInt,_,m=>some (.bl false,m)
 | .isStr,.str _,m=>some (.bl true,m)
 | .isStr,.mref _,m=>none
 | .isStr,.dct _ _,m=>none
 | .isStr,_,m=>some (.bl false,m)
 | .isBool,.bl _,m=>some (.bl true,m)
 | .isBool,.mref _,m=>none
 | .isBool,.dct _ _,m=>none
 | .isBool,_,m=>some (.bl false,m)
 | _,_,_=>none
where kD:Key→D
 | .inl i=>.int i
 | .inr x=>.str x
mutual
noncomputable def bindT:Tg→D→DS→Option DS
 | .nm i,d,σ=>some (σ.set i (some d))
 | .tp ts,.tup xs,σ=>if ts.length=xs.length then bindTs ts xs σ else none
 | _,_,_=>none
noncomputable def bindTs:List Tg→List D→DS→Option DS
 | [],[],σ=>some σ
 | t::ts,x::xs,σ=>(bindT t x σ).bind fun σ'=>bindTs ts xs σ'
 | _,_,_=>none
end
noncomputable def outT(n:Nat):Tg→Bool
 | .nm i=>decide (n≤i)
 | .tp ts=>outTs n ts
where outTs (n:Nat):List Tg→Bool
 | []=>true
 | t::r=>outT n t&&outTs n r
structure Walk where
 xs:List D
 at?:Option Nat:=none
noncomputable def Walk.ok(w:Walk)(m:Mem):Bool:=match w.at? with
 | none=>true
 | some i=>match m[i]? with | some (.lst ys)=>D.beqs w.xs ys | _=>false
noncomputable def zipD:List D→List D→List D
 | a::r,b::q=>.tup [a,b]::zipD r q
 | _,_=>[]
noncomputable def enumD:List D→Nat→List D
 | [],_=>[]
 | a::r,n=>.tup [.int n,a]::enumD r (n+1)
noncomputable def compL(w:Walk)(f:D→Mem→Option (Option D×Mem)):List D→Mem→Option (List D×Mem)
 | [],m=>if w.ok m then some ([],m) else none
 | d::r,m=>if w.ok m then (f d m).bind fun(o,m1)=>(compL w f r m1).bind fun(ys,m2)=>some (o.toList++ys,m2) else none
section
variable(C:String→List D→Mem→Option (D×Mem))
mutual
noncomputable def ev:Ex→DS→Mem→Option (D×Mem)
 | .var i,σ,m=>match σ[i]? with | some (some d)=>some (d,m) | _=>none
 | .con d,_,m=>some (d,m)
 | .bin o a b,σ,m=>(ev a σ m).bind fun(x,m1)=>(ev b σ m1).bind fun(y,m2)=>binD o x y m2
 | .cat mu a b,σ,m=>(ev a σ m).bind fun(x,m1)=>(ev b σ m1).bind fun(y,m2)=>match x,y with
  | .lst xs,.lst ys=>if xs.length+ys.length≤10000 then some (mkL mu (xs++ys) m2) else none
  | _,_=>none
 | .cmp o a b,σ,m=>(ev a σ m).bind fun(x,m1)=>(ev b σ m1).bind fun(y,m2)=>(cmpD o x y).map fun c=>(.bl c,m2)
 | .chain o p a b c,σ,m=>(ev a σ m).bind fun(x,m1)=>(ev b σ m1).bind fun(y,m2)=>(cmpD o x y).bind fun k=>if k then (ev c σ m2).bind fun(z,m3)=>(cmpD p y z).map fun c=>(.bl c,m3) else some (.bl false,m2)
 | .notv a,σ,m=>(ev a σ m).bind fun(x,m1)=>match x with | .bl b=>some (.bl !b,m1) | _=>none
 | .andv a b,σ,m=>(ev a σ m).bind fun(x,m1)=>match x with | .bl true=>ev b σ m1 | .bl false=>some (.bl false,m1) | _=>none
 | .orv a b,σ,m=>(ev a σ m).bind fun(x,m1)=>match x with | .bl true=>some (.bl true,m1) | .bl false=>ev b σ m1 | _=>none
 | .ife t a b,σ,m=>(et t σ m).bind fun(c,m1)=>if c then ev a σ m1 else ev b σ m1
 | .tup as,σ,m=>(evs as σ m).bind fun(xs,m1)=>if xs.length≤1000 then some (.tup xs,m1) else none
 | .lst mu as,σ,m=>(evs as σ m).bind fun(xs,m1)=>if xs.length≤1000 then some (mkL mu xs m1) else none
 | .dic mu ks as,σ,m=>(evs as σ m).bind fun(xs,m1)=>if xs.length=ks.length∧ks.length≤15 then some (mkD mu (putsD [] [] ks xs).1 (putsD [] [] ks xs).2 m1) else none
 | .ix a b,σ,m=>(ev a σ m).bind fun(x,m1)=>(ev b σ m1).bind fun(y,m2)=>(ixD x y m2).map fun d=>(d,m2)
 | .ixd a b,σ,m=>(ev a σ m).bind fun(x,m1)=>(ev b σ m1).bind fun(y,m2)=>(dctOf x m2).bind fun(ks,vs)=>(keyD y).bind fun k=>(lookD ks vs k).map fun d=>(d,m2)
 | .ind a b,σ,m=>(ev a σ m).bind fun(x,m1)=>(ev b σ m1).bind fun(y,m2)=>(dctOf y m2).bind fun(ks,vs)=>(keyD x).map fun k=>(.bl (lookD ks vs k).isSome,m2)
 | .nind a b,σ,m=>(ev a σ m).bind fun(x,m1)=>(ev b σ m1).bind fun(y,m2)=>(dctOf y m2).bind fun(ks,vs)=>(keyD x).map fun k=>(.bl (!(lookD ks vs k).isSome),m2)
 | .sl a lo hi,σ,m=>(ev a σ m).bind fun(x,m1)=>(eo lo σ m1).bind fun(l,m2)=>(eo hi σ m2).bind fun(h,m3)=>(slD x l h).map fun d=>(d,m3)
 | .call f as,σ,m=>(evs as σ m).bind fun(xs,m1)=>C f xs m1
 | .b1 b a,σ,m=>(ev a σ m).bind fun(x,m1)=>b1D b x m1
 | .max2 a b,σ,m=>(ev a σ m).bind fun(x,m1)=>(ev b σ m1).bind fun(y,m2)=>match x,y with | .int i,.int j=>some (.int (if j > i then j else i),m2) | _,_=>none
 | .get d k z,σ,m=>(ev d σ m).bind fun(x,m1)=>(dctOf x m1).bind fun _=>(ev k σ m1).bind fun(y,m2)=>(ev z σ m2).bind fun(u,m3)=>(dctOf x m3).bind fun(ks,vs)=>(keyD y).map fun k=>((lookD ks vs k).getD u,m3)
 | .pop a,σ,m=>(ev a σ m).bind fun(x,m1)=>match x with
  | .mref i=>match m1[i]? with
   | some (.lst xs)=>(xs[xs.length-1]?).map fun d=>(d,m1.set i (.lst xs.dropLast))
   | _=>none
  | _=>none
 | .app l a,σ,m=>(ev l σ m).bind fun(x,m1)=>(lstOf x m1).bind fun _=>(ev a σ m1).bind fun(y,m2)=>match x with
  | .mref i=>match m2[i]? with
   | some (.lst xs)=>if y.clean&&decide (xs.length<100000) then some (.non,m2.set i (.lst (xs++[y]))) else none
   | _=>none
  | _=>none
 | .ext l a,σ,m=>(ev l σ m).bind fun(x,m1)=>(lstOf x m1).bind fun _=>(ev a σ m1).bind fun(y,m2)=>match x with
  | .mref i=>match m2[i]?,y with
   | some (.lst xs),.lst ys=>if D.clean.cleans ys&&decide (xs.length+ys.length≤100000) then some (.non,m2.set i (.lst (xs++ys))) else none
   | some (.lst xs),.tup ys=>if D.clean.cleans ys&&decide (xs.length+ys.length≤100000) then some (.non,m2.set i (.lst (xs++ys))) else none
   | _,_=>none
  | _=>none
 | .index l a,σ,m=>(ev l σ m).bind fun(x,m1)=>(lstOf x m1).bind fun _=>(ev a σ m1).bind fun(y,m2)=>(lstOf x m2).bind fun xs=>if y.flat&&xs.all D.flat&&decide (xs.length<1000) then (findD y xs 0).map fun(k:Nat)=>(D.int (k:Int),m2) else none
 | .join s l,σ,m=>(ev s σ m).bind fun(x,m1)=>(ev l σ m1).bind fun(y,m2)=>match x with
  | .str sep=>(lstOf y m2).bind fun xs=>(strsOf xs).bind fun ys=>if (ys.map (·.length)).sum+ys.length*sep.length≤100000 then some (.str (Txt.join sep ys),m2) else none
  | _=>none
 | .comp mu k g i t e,σ,m=>if outT σ.length g then (ei i σ m).bind fun(w,m1)=>(compL w (fun d m=>(bindT g d (σ++List.replicate k none)).bind fun σ1=>(et t σ1 m).bind fun(c,m2)=>if c then (ev e σ1 m2).map fun(y,m3)=>(some y,m3) else some (none,m2)) w.xs m1).bind fun(ys,m2)=>
   if ys.length≤1000 then some (mkL mu ys m2) else none
  else none
 | .lzip mu a b,σ,m=>(ev a σ m).bind fun(x,m1)=>(ev b σ m1).bind fun(y,m2)=>match x,y with
  | .lst xs,.lst ys=>if xs.length≤1000 then some (mkL mu (zipD xs ys) m2) else none
  | _,_=>none
 | .maxd a z,σ,m=>(ev a σ m).bind fun(x,m1)=>(lstOf x m1).bind fun xs=>(intsOf xs).map fun ns=>(.int ((maxL ns).getD z),m1)
 | .inTxt a b,σ,m=>(ev a σ m).bind fun(x,m1)=>(ev b σ m1).bind fun(y,m2)=>match x,y with
  | .str i,.str j=>some (.bl (!(Builtin.Str.occurrences j i 0 j.length 1).isEmpty),m2)
  | _,_=>none
 | .fdic,_,m=>some (.mref m.length,m++[.fd []])
noncomputable def evs:Exs→DS→Mem→Option (List D×Mem)
 | .nil,_,m=>some ([],m)
 | .cons a r,σ,m=>(ev a σ m).bind fun(x,m1)=>(evs r σ m1).map fun(xs,m2)=>(x::xs,m2)
noncomputable def et:Te→DS→Mem→Option (Bool×Mem)
 | .val a,σ,m=>(ev a σ m).bind fun(x,m1)=>(truD x m1).map fun c=>(c,m1)
 | .and a b,σ,m=>(et a σ m).bind fun(c,m1)=>if c then et b σ m1 else some (false,m1)
 | .or a b,σ,m=>(et a σ m).bind fun(c,m1)=>if c then some (true,m1) else et b σ m1
 | .not a,σ,m=>(et a σ m).map fun(c,m1)=>(!c,m1)
 | .tt,_,m=>some (true,m)
noncomputable def eo:Oe→DS→Mem→Option (Option Int×Mem)
 | .no,_,m=>some (none,m)
 | .pt a,σ,m=>(ev a σ m).bind fun(x,m1)=>match x with | .int i=>some (some i,m1) | _=>none
noncomputable def ei:Ie→DS→Mem→Option (Walk×Mem)
 | .seq a,σ,m=>(ev a σ m).bind fun(x,m1)=>(seqOf x m1).map fun xs=>(⟨xs,match x with | .mref i=>some i | _=>none⟩,m1)
 | .rng a,σ,m=>(ev a σ m).bind fun(x,m1)=>match x with | .int j=>if -(2 ^ 62)≤j∧j<2 ^ 62 then some (⟨(List.range j.toNat).map fun(i:Nat)=>.int i,none⟩,m1) else none | _=>none
 | .rng2 a b,σ,m=>(ev a σ m).bind fun(x,m1)=>(ev b σ m1).bind fun(y,m2)=>match x,y with
  | .int i,.int j=>if -(2 ^ 62)≤i∧i<2 ^ 62∧-(2 ^ 62)≤j∧j<2 ^ 62 then some (⟨(List.range (j-i).toNat).map fun(n:Nat)=>.int (i+n),none⟩,m2) else none
  | _,_=>none
 | .enum a,σ,m=>(ev a σ m).bind fun(x,m1)=>match x with | .lst xs=>some (⟨enumD xs 0,none⟩,m1) | _=>none
 | .zip a b,σ,m=>(ev a σ m).bind fun(x,m1)=>(ev b σ m1).bind fun(y,m2)=>match x,y with
  | .lst xs,.lst ys=>some (⟨zipD xs ys,none⟩,m2)
  | .tup xs,.tup ys=>some (⟨zipD xs ys,none⟩,m2)
  | _,_=>none
 | .txt a,σ,m=>(ev a σ m).bind fun(x,m1)=>match x with | .str z=>if z.length≤1000 then some (⟨z.cps.toList.map fun(c:Nat)=>.str ⟨#[c]⟩,none⟩,m1) else none | _=>none
 | .enumT a,σ,m=>(ev a σ m).bind fun(x,m1)=>match x with | .tup xs=>some (⟨enumD xs 0,none⟩,m1) | _=>none
end
inductive Out where | nx (σ:DS) | rt (d:D)
noncomputable def whlL(t:DS→Mem→Option (Bool×Mem))(b:DS→Mem→Option (Out×Mem)):Nat→DS→Mem→Option (Out×Mem)
 | 0,_,_=>none
 | n+1,σ,m=>(t σ m).bind fun(c,m1)=>if c then (b σ m1).bind fun(o,m2)=>match o with
  | .nx σ'=>whlL t b n σ' m2
  | .rt d=>some (.rt d,m2)
  else some (.nx σ,m1)
noncomputable def forL(w:Walk)(g:Tg)(b:DS→Mem→Option (Out×Mem)):List D→DS→Mem→Option (Out×Mem)
 | [],σ,m=>if w.ok m then some (.nx σ,m) else none
 | d::r,σ,m=>if w.ok m then (bindT g d σ).bind fun σ1=>(b σ1 m).bind fun(o,m1)=>match o with
  | .nx σ'=>forL w g b r σ' m1
  | .rt x=>some (.rt x,m1)
  else none
variable(W:Nat)
mutual
noncomputable def ex:Sm→DS→Mem→Option (Out×Mem)
 | .set i a,σ,m=>(ev C a σ m).map fun(x,m1)=>(.nx (σ.set i (some x)),m1)
 | .asg g a,σ,m=>(ev C a σ m).bind fun(x,m1)=>(bindT g x σ).map fun σ'=>(.nx σ',m1)
 | .put d k v,σ,m=>(ev C v σ m).bind fun(z,m1)=>(ev C d σ m1).bind fun(x,m2)=>(ev C k σ m2).bind fun(y,m3)=>match x with
  | .mref i=>match m3[i]?,keyD y with
   | some (.dct ks vs),some k=>if z.clean&&decide (ks.length<10000) then some (.nx σ,m3.set i (.dct (putD ks vs k z).1 (putD ks vs k z).2)) else none
   | _,_=>none
  | _=>none
 | .drop a,σ,m=>(ev C a σ m).map fun(_,m1)=>(.nx σ,m1)
 | .ret a,σ,m=>(ev C a σ m).map fun(x,m1)=>(.rt x,m1)
 | .ite t a b,σ,m=>(et C t σ m).bind fun(c,m1)=>if c then exs a σ m1 else exs b σ m1
 | .whl t b,σ,m=>whlL (et C t) (fun σ m=>exs b σ m) W σ m
 | .fr g i b,σ,m=>(ei C i σ m).bind fun(w,m1)=>forL w g (fun σ m=>exs b σ m) w.xs σ m1
 | .fput d k,σ,m=>(ev C d σ m).bind fun(x,m1)=>(ev C k σ m1).bind fun(y,m2)=>match x with
  | .mref i=>match m2[i]?,fkD y with
   | some (.fd ks),some k=>if ks.length<10000 then some (.nx σ,m2.set i (.fd (addF ks k))) else none
   | _,_=>none
  | _=>none
noncomputable def exs:Sms→DS→Mem→Option (Out×Mem)
 | .nil,σ,m=>some (.nx σ,m)
 | .cons s r,σ,m=>(ex s σ m).bind fun(o,m1)=>match o with
  | .nx σ'=>exs r σ' m1
  | .rt d=>some (.rt d,m1)
end
end
noncomputable def outD(n:Nat)(m:Mem):D→Option D
 | .mref i=>if i<n then none else match m[i]? with
  | some (.lst xs)=>if D.clean.cleans xs then some (.lst xs) else none
  | some (.dct ks vs)=>if D.clean.cleans vs then some (.dct ks vs) else none
  | _=>none
 | d=>if d.clean then some d else none
structure Fn where
 ps:Nat
 ns:Nat
 body:Sms
noncomputable def callI(W:Nat)(Γ:String→Option Fn):Nat→String→List D→Mem→Option (D×Mem)
 | 0,_,_,_=>none
 | n+1,f,xs,m=>(Γ f).bind fun F=>if xs.length=F.ps then
   (exs (callI W Γ n) W F.body (xs.map some++List.replicate (F.ns-F.ps) none) m).bind fun(o,m1)=>match o with
    | .rt d=>(outD m.length m1 d).map fun d=>(d,m1.take m.length)
    | .nx _=>some (.non,m1.take m.length)
   else none
end WL
end
section
namespace WL
open PySem PySem.Spec PyProof.Rows L2
def FzT(K:PySem.W.Frag)(H:Hp)(a:Addr)(vs:List V):Prop:=∃o:Obj,o.cls=.type "tuple"∧o.dict=none∧
 (H a=some (.frz o (.tup vs))∨(K.lookup a=some o∧∃(its:Array Value) (n:Nat),o.data=.seq its n∧its.size≤sizeLine∧Vals vs its.toList))
def ScrAt(K:PySem.W.Frag)(H:Hp)(a:Addr)(vs:List V):Prop:=(∃o,H a=some (.frz o (.lst vs)))∨
  ∃(o:Obj) (its:Array Value) (n:Nat),K.lookup a=some o∧o.cls=.type "list"∧o.dict=none∧o.data=.seq its n∧its.size≤sizeLine∧Vals vs its.toList
theorem FzT.sq{K:PySem.W.Frag}{H:Hp}{a:Addr}{vs:List V}(h:FzT K H a vs):SqT K H a vs:=by
 obtain⟨o,hc,hd,h | ⟨hk,its,n,e,z,r⟩⟩:=h
 ·exact .inl (.inr ⟨o,h⟩)
 ·exact .inr ⟨o,its,n,hk,hc,e,z,r⟩
theorem ScrAt.sq{K:PySem.W.Frag}{H:Hp}{a:Addr}{vs:List V}(h:ScrAt K H a vs):SqL K H a vs:=by
 rcases h with ⟨o,h⟩ | h
 ·exact .inl (.inr ⟨o,h⟩)
 ·exact .inr h
mutual
def At(K:PySem.W.Frag)(ρ:List Addr)(H:Hp):D→V→Prop
 | .non,v=>v=.non
 | .bl b,v=>v=.bl b
 | .int i,v=>v=.int i
 | .str x,v=>v=.str x
 | .tup xs,v=>∃a vs,v=.ref a∧FzT K H a vs∧Ats K ρ H xs vs
 | .lst xs,v=>∃a o vs,v=.ref a∧H a=some (.frz o (.lst vs))∧Ats K ρ H xs vs
 | .dct ks xs,v=>∃a o kvs,v=.ref a∧H a=some (.frz o (.dK kvs))∧kvs.map (·.1)=ks∧Ats K ρ H xs (kvs.map (·.2))
 | .scr ns,v=>∃a,v=.ref a∧ScrAt K H a (ns.map V.int)
 | .mref i,v=>∃a,ρ[i]?=some a∧v=.ref a
def Ats(K:PySem.W.Frag)(ρ:List Addr)(H:Hp):List D→List V→Prop
 | [],vs=>vs=[]
 | d::r,vs=>∃v vr,vs=v::vr∧At K ρ H d v∧Ats K ρ H r vr
end
def FzSub(H H':Hp):Prop:=∀a o u,H a=some (.frz o u)→H' a=some (.frz o u)
def RSub(ρ ρ':List Addr):Prop:=∀(i:Nat) (a:Addr),ρ[i]?=some a→ρ'[i]?=some a
theorem RSub.refl(ρ:List Addr):RSub ρ ρ:=fun _ _ h=>h
theorem RSub.pre{ρ ρ':List Addr}(h:ρ <+: ρ'):RSub ρ ρ':=fun i a e=>by
 obtain⟨t,rfl⟩:=h
 have hi:=(List.getElem?_eq_some_iff.mp e).1
 rw[List.getElem?_append_left hi];exact e
theorem RSub.take(ρ:List Addr)(n:Nat):RSub (ρ.take n) ρ:=RSub.pre (List.take_prefix n ρ)
section
variable{K:PySem.W.Frag}{ρ ρ':List Addr}{H H':Hp}
theorem FzT.mono(hf:FzSub H H'){a:Addr}{vs:List V}:FzT K H a vs→FzT K H' a vs
 | ⟨o,c,d,.inl h⟩=>⟨o,c,d,.inl (hf _ _ _ h)⟩
 | ⟨o,c,d,.inr h⟩=>⟨o,c,d,.inr h⟩
theorem ScrAt.mono(hf:FzSub H H'){a:Addr}{vs:List V}:ScrAt K H a vs→ScrAt K H' a vs
 | .inl hq1=>by
  obtain⟨o,h⟩:=hq1
  exact .inl ⟨o,hf _ _ _ h⟩
 | .inr h=>.inr h
mutual
theorem At.mono'(hf:FzSub H H')(hr:RSub ρ ρ'):∀{d:D} {v:V},At K ρ H d v→At K ρ' H' d v
 | .non,_,h=>h
 | .bl _,_,h=>h
 | .int _,_,h=>h
 | .str _,_,h=>h
 | .tup _,_,hq1=>by
  obtain⟨a,vs,e,h,q⟩:=hq1
  exact⟨a,vs,e,h.mono hf,Ats.mono' hf hr q⟩
 | .lst _,_,hq1=>by
  obtain⟨a,o,vs,e,h,q⟩:=hq1
  exact⟨a,o,vs,e,hf _ _ _ h,Ats.mono' hf hr q⟩
 | .dct _ _,_,hq1=>by
  obtain⟨a,o,kvs,e,h,k,q⟩:=hq1
  exact⟨a,o,kvs,e,hf _ _ _ h,k,Ats.mono' hf hr q⟩
 | .scr _,_,hq1=>by
  obtain⟨a,e,h⟩:=hq1
  exact⟨a,e,h.mono hf⟩
 | .mref _,_,hq1=>by
  obtain⟨a,h,e⟩:=hq1
  exact⟨a,hr _ _ h,e⟩
theorem Ats.mono'(hf:FzSub H H')(hr:RSub ρ ρ'):∀{d:List D} {v:List V},Ats K ρ H d v→Ats K ρ' H' d v
 | [],_,h=>h
 | _::_,_,hq1=>by
  obtain⟨a,b,e,p,q⟩:=hq1
  exact⟨a,b,e,At.mono' hf hr p,Ats.mono' hf hr q⟩
end
mutual
theorem At.clean(hf:FzSub H H'):∀{d:D} {v:V},d.clean=true→At K ρ H d v→At K ρ' H' d v
 | .non,_,_,h=>h
 | .bl _,_,_,h=>h
 | .int _,_,_,h=>h
 | .str _,_,_,h=>h
 | .tup _,_,c,hq1=>by
  obtain⟨a,vs,e,h,q⟩:=hq1
  exact⟨a,vs,e,h.mono hf,Ats.clean hf c q⟩
 | .lst _,_,c,hq1=>by
  obtain⟨a,o,vs,e,h,q⟩:=hq1
  exact⟨a,o,vs,e,hf _ _ _ h,Ats.clean hf c q⟩
 | .dct _ _,_,c,hq1=>by
  obtain⟨a,o,kvs,e,h,k,q⟩:=hq1
  exact⟨a,o,kvs,e,hf _ _ _ h,k,Ats.clean hf c q⟩
 | .scr _,_,_,hq1=>by
  obtain⟨a,e,h⟩:=hq1
  exact⟨a,e,h.mono hf⟩
 | .mref _,_,c,_=>nomatch c
theorem Ats.clean(hf:FzSub H H'):∀{d:List D} {v:List V},D.clean.cleans d=true→Ats K ρ H d v→Ats K ρ' H' d v
 | [],_,_,h=>h
 | _::_,_,c,hq1=>by
  obtain⟨a,b,e,p,q⟩:=hq1
  have c':=Bool.and_eq_true_iff.mp c
  exact⟨a,b,e,At.clean hf c'.1 p,Ats.clean hf c'.2 q⟩
end
theorem Ats.len:∀{ds:List D} {vs:List V},Ats K ρ H ds vs→vs.length=ds.length
 | [],_,h=>by cases (show _=[] from h);rfl
 | _::_,_,⟨_,_,e,_,q⟩=>by subst e;simp[Ats.len q]
theorem Ats.get:∀{ds:List D} {vs:List V} {i:Nat} {d:D},Ats K ρ H ds vs→ds[i]?=some d→∃v,vs[i]?=some v∧At K ρ H d v
 | [],_,_,_,_,e=>by simp at e
 | _::_,_,0,_,hq1,e'=>by
  obtain⟨v,_,e,p,_⟩:=hq1
  subst e
  have:=Option.some.inj (by simpa using e')
  subst this
  exact⟨v,rfl,p⟩
 | _::_,_,i+1,_,hq1,e'=>by
  obtain⟨v,_,e,p,q⟩:=hq1
  subst e
  obtain⟨w,h1,h2⟩:=Ats.get (i:=i) q (by simpa using e')
  exact⟨w,by simpa using h1,h2⟩
theorem Ats.app:∀{as bs:List D} {vs us:List V},Ats K ρ H as vs→Ats K ρ H bs us→Ats K ρ H (as++bs) (vs++us)
 | [],_,_,_,h,h'=>by cases (show _=[] from h);exact h'
 | _::_,_,_,_,⟨v,r,e,p,q⟩,h'=>by subst e;exact⟨v,r++_,rfl,p,Ats.app q h'⟩
theorem Ats.one{d:D}{v:V}(h:At K ρ H d v):Ats K ρ H [d] [v]:=⟨v,[],rfl,h,rfl⟩
theorem Ats.snoc{ds:List D}{vs:List V}{d:D}{v:V}(h:Ats K ρ H ds vs)(h':At K ρ H d v):Ats K ρ H (ds++[d]) (vs++[v]):=h.app (.one h')
theorem Ats.take:∀{ds:List D} {vs:List V} (n:Nat),Ats K ρ H ds vs→Ats K ρ H (ds.take n) (vs.take n)
 | [],_,n,h=>by cases (show _=[] from h);simp[Ats]
 | _::_,_,0,_=>rfl
 | _::_,_,n+1,⟨v,r,e,p,q⟩=>by subst e;exact⟨v,r.take n,rfl,p,Ats.take n q⟩
theorem Ats.drop:∀{ds:List D} {vs:List V} (n:Nat),Ats K ρ H ds vs→Ats K ρ H (ds.drop n) (vs.drop n)
 | [],_,n,h=>by cases (show _=[] from h);simp[Ats]
 | _::_,_,0,h=>h
 | _::_,_,n+1,⟨v,r,e,p,q⟩=>by subst e;exact Ats.drop n q
theorem Ats.ints:∀(ns:List Int),Ats K ρ H (ns.map D.int) (ns.map V.int)
 | []=>rfl
 | n::r=>⟨_,_,rfl,rfl,Ats.ints r⟩
end
def MOAt(K:PySem.W.Frag)(ρ:List Addr)(H:Hp)(a:Addr):MO→Prop
 | .lst xs=>∃vs,H a=some (.lst vs)∧Ats K ρ H xs vs
 | .dct ks xs=>∃kvs,H a=some (.dK kvs)∧kvs.map (·.1)=ks∧Ats K ρ H xs (kvs.map (·.2))
 | .fd ks=>∃xs:List (FK×Addr),H a=some (.dF xs)∧xs.map (·.1)=ks∧∀x∈xs,At K ρ H (fD x.1) (.ref x.2)
structure MemAt(K:PySem.W.Frag)(ρ:List Addr)(m:Mem)(H:Hp):Prop where
 len:ρ.length=m.length
 nd:ρ.Nodup
 at':∀(j:Nat) (a:Addr) (o:MO),ρ[j]?=some a→m[j]?=some o→MOAt K (ρ.take j) H a o
structure Go(ρ ρ':List Addr)(H H':Hp):Prop where
 fr:∀b o,H b=some o→b∉ρ→H' b=some o
 ex:ρ <+: ρ'
 nw:∀b∈ρ',b∈ρ∨H b=none
def StAt(K:PySem.W.Frag)(ρ:List Addr)(H:Hp)(σd:DS)(σ:L2.St):Prop:=σd.length=σ.length∧∀(i:Nat) (d:D),σd[i]?=some (some d)→∃v,σ[i]?=some (some v)∧At K ρ H d v
section
variable{K:PySem.W.Frag}{ρ ρ' ρ1 ρ2:List Addr}{H H' H1 H2:Hp}{m m':Mem}
theorem MOAt.mono(hf:FzSub H H')(hr:RSub ρ ρ'){a:Addr}:∀{o:MO},MOAt K ρ H a o→H' a=H a→MOAt K ρ' H' a o
 | .lst _,hq1,h=>by
  obtain⟨vs,e,q⟩:=hq1
  exact⟨vs,h.trans e,q.mono' hf hr⟩
 | .dct _ _,hq1,h=>by
  obtain⟨kvs,e,k,q⟩:=hq1
  exact⟨kvs,h.trans e,k,q.mono' hf hr⟩
 | .fd _,hq1,h=>by
  obtain⟨xs,e,k,q⟩:=hq1
  exact⟨xs,h.trans e,k,fun x hx=>(q x hx).mono' hf hr⟩
theorem MOAt.ne{a:Addr}:∀{o:MO},MOAt K ρ H a o→∃u,H a=some u∧∀ob w,u≠.frz ob w
 | .lst _,⟨vs,e,_⟩=>⟨_,e,fun _ _ z=>nomatch z⟩
 | .dct _ _,⟨vs,e,_⟩=>⟨_,e,fun _ _ z=>nomatch z⟩
 | .fd _,⟨vs,e,_⟩=>⟨_,e,fun _ _ z=>nomatch z⟩
theorem MemAt.obj(M:MemAt K ρ m H){a:Addr}(h:a∈ρ):∃j o,ρ[j]?=some a∧m[j]?=some o∧MOAt K (ρ.take j) H a o:=by
 obtain⟨j,hj,e⟩:=List.getElem_of_mem h
 have e1:ρ[j]?=some a:=by rw[List.getElem?_eq_getElem hj,e]
 have hm:j<m.length:=by rw[←M.len];exact hj
 exact⟨j,m[j],e1,List.getElem?_eq_getElem hm,M.at' j a _ e1 (List.getElem?_eq_getElem hm)⟩
theorem MemAt.there(M:MemAt K ρ m H){a:Addr}(h:a∈ρ):∃u,H a=some u∧∀ob w,u≠.frz ob w:=by
 obtain⟨j,o,_,_,q⟩:=M.obj h
 exact q.ne
theorem MemAt.notFz(M:MemAt K ρ m H){a:Addr}{o:Obj}{u:HO}(h:H a=some (.frz o u)):a∉ρ:=fun q=>by
 obtain⟨w,e,n⟩:=M.there q
 rw[h]at e
 exact n o u (Option.some.inj e).symm
theorem MemAt.fresh(M:MemAt K ρ m H){a:Addr}(h:H a=none):a∉ρ:=fun q=>by
 obtain⟨w,e,n⟩:=M.there q
 rw[h]at e;cases e
theorem Go.fz(M:MemAt K ρ m H)(g:Go ρ ρ' H H'):FzSub H H':=fun a o u h=>g.fr a _ h (M.notFz h)
theorem Go.refl(ρ:List Addr)(H:Hp):Go ρ ρ H H:=⟨fun _ _ h _=>h,List.prefix_rfl,fun _ h=>.inl h⟩
theorem Go.trans(a:Go ρ ρ1 H H1)(b:Go ρ1 ρ2 H1 H2):Go ρ ρ2 H H2 where
 fr:=fun c o h n=>b.fr c o (a.fr c o h n) fun z=>(a.nw c z).elim n fun q=>by rw[h]at q;cases q
 ex:=a.ex.trans b.ex
 nw:=fun c h=>by
  rcases b.nw c h with z | z
  ·exact a.nw c z
  ·by_cases hc:c∈ρ
   ·exact .inl hc
   ·cases q:H c with
    | none=>exact .inr rfl
    | some o=>rw[a.fr c o q hc]at z;cases z
theorem At.mono(M:MemAt K ρ m H)(g:Go ρ ρ' H H'){d:D}{v:V}(h:At K ρ H d v):At K ρ' H' d v:=h.mono' (g.fz M) (.pre g.ex)
theorem Ats.mono(M:MemAt K ρ m H)(g:Go ρ ρ' H H'){d:List D}{v:List V}(h:Ats K ρ H d v):Ats K ρ' H' d v:=h.mono' (g.fz M) (.pre g.ex)
theorem StAt.mono'(hf:FzSub H H')(hr:RSub ρ ρ'){σd:DS}{σ:L2.St}(h:StAt K ρ H σd σ):StAt K ρ' H' σd σ:=⟨h.1,fun i d e=>let ⟨v,e',a⟩:=h.2 i d e;⟨v,e',a.mono' hf hr⟩⟩
theorem StAt.mono(M:MemAt K ρ m H)(g:Go ρ ρ' H H'){σd:DS}{σ:L2.St}(h:StAt K ρ H σd σ):StAt K ρ' H' σd σ:=h.mono' (g.fz M) (.pre g.ex)
theorem StAt.set{σd:DS}{σ:L2.St}(h:StAt K ρ H σd σ)(i:Nat){d:D}{v:V}(a:At K ρ H d v):StAt K ρ H (σd.set i (some d)) (σ.set i (some v)):=by
 refine⟨by simpa using h.1,fun j e q=>?_⟩
 by_cases hj:i=j
 ·subst hj
  have hi:i<σd.length:=by
   have:=(List.getElem?_eq_some_iff.mp q).1
   simpa using this
  rw[List.getElem?_set_self hi]at q
  have q':d=e:=Option.some.inj (Option.some.inj q)
  subst q'
  exact⟨v,List.getElem?_set_self (by rw[←h.1];exact hi),a⟩
 ·rw[List.getElem?_set_ne hj]at q
  obtain⟨w,e1,a1⟩:=h.2 j e q
  exact⟨w,by rw[List.getElem?_set_ne hj];exact e1,a1⟩
theorem ZQ{p:Addr}{o:HO}(hp:H p=none):FzSub H (upd H p o):=fun a ob u h=>by rw[CJ (DR h hp)];exact h
theorem JD{p:Addr}{o:HO}(hp:H p=none):Go ρ ρ H (upd H p o):=⟨fun b ob h _=>by rw[CJ (DR h hp)];exact h,List.prefix_rfl,fun _ h=>.inl h⟩
theorem MemAt.keep(M:MemAt K ρ m H)(hf:FzSub H H')(h:∀a∈ρ,H' a=H a):MemAt K ρ m H':=
 ⟨M.len,M.nd,fun j a o e1 e2=>(M.at' j a o e1 e2).mono hf (.refl _) (h a (List.mem_of_getElem? e1))⟩
theorem MemAt.new(M:MemAt K ρ m H){p:Addr}{o:HO}(hp:H p=none):MemAt K ρ m (upd H p o):=
 M.keep (ZQ hp) fun a ha=>CJ fun e=>M.fresh hp (e▸ha)
theorem MemAt.push(M:MemAt K ρ m H){p:Addr}{o:HO}{q:MO}(hp:H p=none)(h:MOAt K ρ (upd H p o) p q):MemAt K (ρ++[p]) (m++[q]) (upd H p o):=by
 have hn:p∉ρ:=M.fresh hp
 refine⟨by simp[M.len],List.nodup_append.mpr ⟨M.nd,by simp,fun a ha b hb=>?_⟩,fun j a u e1 e2=>?_⟩
 ·have:b=p:=by simpa using hb
  subst this
  exact fun z=>hn (z▸ha)
 ·by_cases hj:j<ρ.length
  ·rw[List.getElem?_append_left hj]at e1
   rw[List.getElem?_append_left (by rw[←M.len];exact hj)]at e2
   rw[List.take_append_of_le_length (Nat.le_of_lt hj)]
   exact(M.at' j a u e1 e2).mono (ZQ hp) (.refl _) (CJ fun e=>hn (e▸List.mem_of_getElem? e1))
  ·have hj':j=ρ.length:=by
    have:=(List.getElem?_eq_some_iff.mp e1).1
    simp at this
    lia
   subst hj'
   have e1':p=a:=by simpa using e1
   rw[M.len]at e2
   have e2':q=u:=by simpa using e2
   subst e1' e2'
   rw[List.take_append_of_le_length (Nat.le_refl _),List.take_length]
   exact h
theorem VD(M:MemAt K ρ m H){p:Addr}{o:HO}(hp:H p=none):Go ρ (ρ++[p]) H (upd H p o):=⟨fun b ob h _=>by rw[CJ (DR h hp)];exact h,List.prefix_append _ _,fun b h=>by
 rcases List.mem_append.mp h with h | h
 ·exact .inl h
 ·have:b=p:=by simpa using h
  subst this
  exact .inr hp⟩
theorem MemAt.write(M:MemAt K ρ m H){j:Nat}{a:Addr}{o:HO}{q:MO}(ha:ρ[j]?=some a)(h:MOAt K (ρ.take j) (upd H a o) a q):MemAt K ρ (m.set j q) (upd H a o)∧Go ρ ρ H (upd H a o):=by
 have hm:a∈ρ:=List.mem_of_getElem? ha
 obtain⟨u,hu,nf⟩:=M.there hm
 have hf:FzSub H (upd H a o):=fun b ob w e=>by
  rw[CJ]
  ·exact e
  ·rintro rfl;rw[hu]at e;exact nf ob w (Option.some.inj e)
 have hj:j<ρ.length:=(List.getElem?_eq_some_iff.mp ha).1
 refine⟨⟨by simpa using M.len,M.nd,fun i b w e1 e2=>?_⟩,fun b ob e n=>by rw[CJ fun z=>n (by rw[z];exact hm)];exact e,List.prefix_rfl,fun _ h=>.inl h⟩
 by_cases hi:j=i
 ·subst hi
  rw[List.getElem?_set_self (by rw[←M.len];exact hj)]at e2
  rw[ha]at e1
  cases e1;cases e2
  exact h
 ·rw[List.getElem?_set_ne hi]at e2
  refine(M.at' i b w e1 e2).mono hf (.refl _) (CJ ?_)
  rintro rfl
  obtain⟨h1,e3⟩:=List.getElem?_eq_some_iff.mp ha
  obtain⟨h2,e4⟩:=List.getElem?_eq_some_iff.mp e1
  exact hi ((List.getElem_inj M.nd).mp (e3.trans e4.symm))
theorem MemAt.cut(M:MemAt K ρ m H)(n:Nat):MemAt K (ρ.take n) (m.take n) H:=by
 refine⟨by simp[M.len],M.nd.sublist (List.take_sublist n ρ),fun j a o e1 e2=>?_⟩
 have hj:j<n:=by
  have:=(List.getElem?_eq_some_iff.mp e1).1
  simp at this
  lia
 rw[List.getElem?_take_of_lt hj]at e1 e2
 rw[List.take_take,Nat.min_eq_left (Nat.le_of_lt hj)]
 exact M.at' j a o e1 e2
end
end WL
end
section
namespace WL
open PySem PySem.Spec PyProof.Rows L2
def canFz:HO→Prop
 | .lst _=>True
 | .dK _=>True
 | _=>False
section
variable{X:Cx}{pins:List (Addr×Obj)}{σ:L2.St}{H:Hp}{s:Shared}
theorem freeze(I:Inv X pins σ H s){a:Addr}{u:HO}(h:H a=some u)(hu:canFz u):∃o,Inv X pins σ (upd H a (.frz o u)) s:=by
 obtain⟨o,ho⟩:∃o,s.heap.get? a=some o:=by
  have q:=I.hok a u h
  cases u with
  | lst xs=>obtain⟨_,_,_,_,e⟩:=q;exact⟨_,e⟩
  | dK kvs=>obtain⟨_,_,_,_,o,_,_,e,_⟩:=q;exact⟨o,e⟩
  | _=>exact False.elim hu
 have nn:∀b,H b=none→b≠a:=fun b n z=>by subst z;rw[h]at n;cases n
 have nt:∀b w,H b=some w→¬canFz w→b≠a:=fun b w n c z=>by subst z;rw[h]at n;cases n;exact c hu
 refine⟨o,I.ok,I.os,I.bare,⟨I.base.keep,I.base.slot,fun b ob e n hx=>?_,I.base.there,fun b xs e=>?_,fun b ob w e=>?_,fun b ps e=>?_⟩,I.loc,I.cell,?_,fun x c e=>?_,fun p hp=>?_,fun b w e=>?_,I.len⟩
 ·have q:=I.base.free b ob e n hx
  rw[CJ (nn b q)];exact q
 ·have q:=I.base.tups b xs e
  rw[CJ (nt b _ q fun z=>z)];exact q
 ·have q:=I.base.frzs b ob w e
  rw[CJ (nt b _ q fun z=>z)];exact q
 ·obtain⟨more,q⟩:=I.base.tbls b ps e
  exact⟨more,by rw[CJ (nt b _ q fun z=>z)];exact q⟩
 ·rw[CJ (nn _ I.free)];exact I.free
 ·rw[CJ (nn _ (I.freeC x c e))];exact I.freeC x c e
 ·obtain⟨e1,e2,e3⟩:=I.pin p hp
  exact⟨e1,by rw[CJ (nn _ e2)];exact e2,e3⟩
 ·have st:∀{c:Addr} {x:HO},ObjOk X.prog X.w H s.heap c x→ObjOk X.prog X.w (upd H a (.frz o u)) s.heap c x:=fun {c x} q=>
   q.stay (fun _ _ _ z=>z) (fun d z=>by rw[CJ (nt d _ z fun z=>z)];exact z) fun d xs z=>by rw[CJ (nt d _ z fun z=>z)];exact z
  by_cases hb:b=a
  ·subst hb
   rw[CV]at e
   cases e
   exact⟨ho,st (I.hok b u h)⟩
  ·rw[CJ hb]at e
   exact st (I.hok b w e)
noncomputable def Fz(Q:VK):VK:=fun v H=>Q v H∨∃a u,v=.ref a∧H a=some u∧canFz u∧∀o,Q v (upd H a (.frz o u))
theorem _root_.L2.EP.fz{Q:VK}{u:Value}(h:EP X pins σ (Fz Q) u s):EP X pins σ Q u s:=by
 obtain⟨v,H',I,r,q | ⟨a,w,e,ha,c,q⟩⟩:=h
 ·exact⟨v,H',I,r,q⟩
 ·obtain⟨o,I'⟩:=freeze I ha c
  exact⟨v,_,I',r,q o⟩
end
section
variable{X:Cx}{e:Expr}{t t':TE}
theorem _root_.L2.PE.fz(h:PE X e t):PE X e (fun σ H Q=>t σ H (Fz Q)):=fun pins s σ H Q I q=>thn (h pins s σ H _ I q) fun _ _ z=>L2.EP.fz z
theorem _root_.L2.PE.imp(h:PE X e t)(hi:∀σ H Q,t' σ H Q→t σ H Q):PE X e t':=fun pins s σ H Q I q=>h pins s σ H Q I (hi σ H Q q)
theorem _root_.L2.PE.imf(h:PE X e t)(hi:∀σ H Q,t' σ H Q→t σ H (Fz Q)):PE X e t':=h.fz.imp hi
theorem _root_.L2.PT.imp{t t':TT}(h:PT X e t)(hi:∀σ H Q,t' σ H Q→t σ H Q):PT X e t':=fun pins s σ H Q I q=>h pins s σ H Q I (hi σ H Q q)
theorem _root_.L2.PW.imp{t t':TT}(h:PW X e t)(hi:∀σ H Q,t' σ H Q→t σ H Q):PW X e t':=fun w pins s σ H Q I q=>h w pins s σ H Q I (hi σ H Q q)
theorem _root_.L2.PA.imp{es:List Expr}{t t':TA}(h:PA X es t)(hi:∀σ H Q,t' σ H Q→t σ H Q):PA X es t':=fun pos pins s σ H Q I q=>h pos pins s σ H Q I (hi σ H Q q)
theorem _root_.L2.PO.imp{e:Option Expr}{t t':TO}(h:PO X e t)(hi:∀σ H Q,t' σ H Q→t σ H Q):PO X e t':=fun pins s σ H Q I q=>h pins s σ H Q I (hi σ H Q q)
theorem _root_.L2.PS.imp{st:Stmt}{t t':TS}(h:PS X st t)(hi:∀D σ H,t' D σ H→t D σ H):PS X st t':=fun pins s σ H D I q=>h pins s σ H D I (hi D σ H q)
theorem _root_.L2.PSs.imp{st:List Stmt}{t t':TS}(h:PSs X st t)(hi:∀D σ H,t' D σ H→t D σ H):PSs X st t':=fun pins s σ H D I q=>h pins s σ H D I (hi D σ H q)
end
section
variable(C:String→List D→Mem→Option (D×Mem))(W:Nat)(K:PySem.W.Frag)
def Beh(ρ:List Addr)(H:Hp)(d:D)(m':Mem)(Q:VK):Prop:=∀v H' ρ',Go ρ ρ' H H'→MemAt K ρ' m' H'→At K ρ' H' d v→Q v H'
noncomputable def tD(p:Ex):TE:=fun σ H Q=>∃σd m ρ d m',StAt K ρ H σd σ∧MemAt K ρ m H∧ev C p σd m=some (d,m')∧Beh K ρ H d m' Q
noncomputable def tDs(p:Exs):TA:=fun σ H Q=>∃σd m ρ ds m',StAt K ρ H σd σ∧MemAt K ρ m H∧evs C p σd m=some (ds,m')∧∀vs H' ρ',Go ρ ρ' H H'→MemAt K ρ' m' H'→Ats K ρ' H' ds vs→Q vs H'
noncomputable def tDT(p:Te):TT:=fun σ H Q=>∃σd m ρ c m',StAt K ρ H σd σ∧MemAt K ρ m H∧et C p σd m=some (c,m')∧∀H' ρ',Go ρ ρ' H H'→MemAt K ρ' m' H'→Q c H'
noncomputable def tDO(p:Oe):TO:=fun σ H Q=>∃σd m ρ c m',StAt K ρ H σd σ∧MemAt K ρ m H∧eo C p σd m=some (c,m')∧∀H' ρ',Go ρ ρ' H H'→MemAt K ρ' m' H'→Q c H'
noncomputable def tDG(g:Tg):TG:=fun v σ H Q=>∃σd ρ d σd',StAt K ρ H σd σ∧At K ρ H d v∧bindT g d σd=some σd'∧∀σ',StAt K ρ H σd' σ'→Q σ' H
noncomputable def tDGs(gs:List Tg):TGs:=fun vs σ H Q=>∃σd ρ ds σd',StAt K ρ H σd σ∧Ats K ρ H ds vs∧bindTs gs ds σd=some σd'∧∀σ',StAt K ρ H σd' σ'→Q σ' H
def Beo(ρ:List Addr)(H:Hp)(o:Out)(m':Mem)(E:Ends):Prop:=∀H' ρ',Go ρ ρ' H H'→MemAt K ρ' m' H'→match o with
 | .nx σd'=>∀σ',StAt K ρ' H' σd' σ'→E.nx σ' H'
 | .rt d=>∀v,At K ρ' H' d v→E.rt v H'
noncomputable def tDS(p:Sm):TS:=fun E σ H=>∃σd m ρ o m',StAt K ρ H σd σ∧MemAt K ρ m H∧ex C W p σd m=some (o,m')∧Beo K ρ H o m' E
noncomputable def tDSs(p:Sms):TS:=fun E σ H=>∃σd m ρ o m',StAt K ρ H σd σ∧MemAt K ρ m H∧exs C W p σd m=some (o,m')∧Beo K ρ H o m' E
end
section
variable{K:PySem.W.Frag}{ρ ρ1:List Addr}{H H1:Hp}{d:D}{m1 m':Mem}{Q:VK}
theorem Beh.go(h:Beh K ρ H d m' Q)(g:Go ρ ρ1 H H1):Beh K ρ1 H1 d m' Q:=fun v H' ρ' g' M A=>h v H' ρ' (g.trans g') M A
theorem Beh.here(h:Beh K ρ H d m1 Q)(M:MemAt K ρ m1 H){v:V}(A:At K ρ H d v):Q v H:=h v H ρ (.refl _ _) M A
theorem Beh.tup{xs:List D}{vs:List V}(h:Beh K ρ H (.tup xs) m1 Q)(M:MemAt K ρ m1 H)(A:Ats K ρ H xs vs){p:Addr}(hp:H p=none){o:Obj}(hc:o.cls=.type "tuple")(hd:o.dict=none):Q (.ref p) (upd H p (.frz o (.tup vs))):=
 h _ _ ρ (JD hp) (M.new hp) ⟨p,vs,rfl,⟨o,hc,hd,.inl CV⟩,A.mono M (JD hp)⟩
theorem Beh.lst{mu:Bool}{xs:List D}{vs:List V}(h:Beh K ρ H (mkL mu xs m1).1 (mkL mu xs m1).2 Q)(M:MemAt K ρ m1 H)(A:Ats K ρ H xs vs){p:Addr}(hp:H p=none):Fz Q (.ref p) (upd H p (.lst vs)):=by
 have A':Ats K ρ (upd H p (.lst vs)) xs vs:=A.mono M (JD hp)
 cases mu with
 | true=>
  refine .inl (h _ _ (ρ++[p]) (VD M hp) (M.push hp ⟨vs,CV,A'⟩) ⟨p,?_,rfl⟩)
  rw[←M.len];simp
 | false=>
  refine .inr ⟨p,_,rfl,CV,trivial,fun o=>?_⟩
  rw[bN]
  exact h _ _ ρ (JD hp) (M.new hp) ⟨p,o,vs,rfl,CV,A.mono M (JD hp)⟩
theorem Beh.dct{mu:Bool}{ks:List Key}{xs:List D}{kvs:List (Key×V)}(h:Beh K ρ H (mkD mu ks xs m1).1 (mkD mu ks xs m1).2 Q)(M:MemAt K ρ m1 H)(hk:kvs.map (·.1)=ks)(A:Ats K ρ H xs (kvs.map (·.2))){p:Addr}(hp:H p=none):
  Fz Q (.ref p) (upd H p (.dK kvs)):=by
 cases mu with
 | true=>
  refine .inl (h _ _ (ρ++[p]) (VD M hp) (M.push hp ⟨kvs,CV,hk,A.mono M (JD hp)⟩) ⟨p,?_,rfl⟩)
  rw[←M.len];simp
 | false=>
  refine .inr ⟨p,_,rfl,CV,trivial,fun o=>?_⟩
  rw[bN]
  exact h _ _ ρ (JD hp) (M.new hp) ⟨p,o,kvs,rfl,CV,hk,A.mono M (JD hp)⟩
end
section
variable{C:String→List D→Mem→Option (D×Mem)}{X:Cx}
theorem BK(i:Nat){x:Str}{pos:Pos}(hN:X.N[i]?=some x:=by rfl)(hv:Vis X.env.scope x:=by first | exact Or.inl rfl | exact Or.inr (Or.inl rfl) | exact Or.inr (Or.inr rfl))(hd:(x==("__debug__" : Str))=false:=by decide)
  (hcd:(x==("__classdict__" : Str))=false:=by decide):PE X (.Name x pos) (tD C X.K (.var i)):=(jD hN hv hd hcd).imp fun σ H Q hq0=>by
 obtain⟨σd,m,ρ,d,m',S,M,e,q⟩:=hq0
 change (match σd[i]? with | some (some d)=>some (d,m) | _=>none)=_ at e
 split at e
 ·rename_i d' hd
  cases e
  obtain⟨v,e1,a⟩:=S.2 i _ hd
  exact⟨v,e1,q.here M a⟩
 ·cases e
theorem V1{e:Expr}{v:V}{d:D}(h:PE X e (tC v))(a:∀ρ H,At X.K ρ H d v):PE X e (tD C X.K (.con d)):=h.imp fun σ H Q hq0=>by
 obtain⟨σd,m,ρ,d',m',S,M,e,q⟩:=hq0
 cases e
 exact q.here M (a ρ H)
theorem BP{i:Int}{j pos}:PE X (.Constant (.int i) j pos) (tD C X.K (.con (.int i))):=V1 vK fun _ _=>rfl
theorem j4{i:Bool}{j pos}:PE X (.Constant (.bool i) j pos) (tD C X.K (.con (.bl i))):=V1 tR fun _ _=>rfl
theorem CQ{i:Str}{j pos}:PE X (.Constant (.str i) j pos) (tD C X.K (.con (.str i))):=V1 vH fun _ _=>rfl
theorem BR:PA X [] (tDs C X.K .nil):=(HD (X:=X)).imp fun σ H Q hq0=>by
 obtain⟨σd,m,ρ,ds,m',S,M,e,q⟩:=hq0
 cases e
 exact q [] H ρ (.refl _ _) M rfl
theorem BJ{e:Expr}{es:List Expr}{p:Ex}{ps:Exs}(ha:PE X e (tD C X.K p))(hr:PA X es (tDs C X.K ps))(hs:starEach (e::es) X.env=(false,eval e X.env)::starEach es X.env:=by rfl):PA X (e::es) (tDs C X.K (.cons p ps)):=
 (FJ ha hr hs).imp fun σ H Q hq0=>by
 obtain⟨σd,m,ρ,ds,m',S,M,e,q⟩:=hq0
 obtain⟨⟨x,m1⟩,e1,e⟩:=Option.bind_eq_some_iff.mp e
 obtain⟨⟨xs,m2⟩,e2,e⟩:=Option.map_eq_some_iff.mp e
 cases e
 refine⟨σd,m,ρ,x,m1,S,M,e1,fun v H1 ρ1 g1 M1 A1=>⟨σd,m1,ρ1,xs,m',S.mono M g1,M1,e2,fun vs H2 ρ2 g2 M2 A2=>q _ H2 ρ2 (g1.trans g2) M2 ⟨v,vs,rfl,A1.mono M1 g2,A2⟩⟩⟩
def Snd2(K:PySem.W.Frag)(f:D→D→Mem→Option (D×Mem))(r:R2):Prop:=∀(ρ:List Addr) (m m':Mem) (H:Hp) (dx dy d:D) (x y:V) (Q:VK),
 MemAt K ρ m H→At K ρ H dx x→At K ρ H dy y→f dx dy m=some (d,m')→Beh K ρ H d m' Q→r x y H (Fz Q)
theorem Fz.of{Q:VK}{v:V}{H:Hp}(h:Q v H):Fz Q v H:=.inl h
theorem M7{e:Expr}{pa pb p:Ex}{r:R2}{f:D→D→Mem→Option (D×Mem)}(h:PE X e (tOp r (tD C X.K pa) (tD C X.K pb)))(hf:Snd2 X.K f r)
  (he:∀σ m,ev C p σ m=(ev C pa σ m).bind fun z=>(ev C pb σ z.2).bind fun y=>f z.1 y.1 y.2):PE X e (tD C X.K p):=
 h.imf fun σ H Q hq0=>by
 obtain⟨σd,m,ρ,d,m',S,M,e,q⟩:=hq0
 rw[he]at e
 obtain⟨⟨x,m1⟩,e1,e⟩:=Option.bind_eq_some_iff.mp e
 obtain⟨⟨y,m2⟩,e2,e⟩:=Option.bind_eq_some_iff.mp e
 exact⟨σd,m,ρ,x,m1,S,M,e1,fun v H1 ρ1 g1 M1 A1=>⟨σd,m1,ρ1,y,m2,S.mono M g1,M1,e2,fun w H2 ρ2 g2 M2 A2=>hf ρ2 m2 m' H2 x y d v w Q M2 (A1.mono M1 g2) A2 e (q.go (g1.trans g2))⟩⟩
def Snd1(K:PySem.W.Frag)(f:D→Mem→Option (D×Mem))(r:V→Hp→VK→Prop):Prop:=∀(ρ:List Addr) (m m':Mem) (H:Hp) (dx d:D) (x:V) (Q:VK),
 MemAt K ρ m H→At K ρ H dx x→f dx m=some (d,m')→Beh K ρ H d m' Q→r x H (Fz Q)
theorem aN{e:Expr}{pa p:Ex}{r:V→Hp→VK→Prop}{f:D→Mem→Option (D×Mem)}(h:PE X e (fun σ H Q=>tD C X.K pa σ H fun x H1=>r x H1 Q))(hf:Snd1 X.K f r)
  (he:∀σ m,ev C p σ m=(ev C pa σ m).bind fun z=>f z.1 z.2):PE X e (tD C X.K p):=
 h.imf fun σ H Q hq0=>by
 obtain⟨σd,m,ρ,d,m',S,M,e,q⟩:=hq0
 rw[he]at e
 obtain⟨⟨x,m1⟩,e1,e⟩:=Option.bind_eq_some_iff.mp e
 exact⟨σd,m,ρ,x,m1,S,M,e1,fun v H1 ρ1 g1 M1 A1=>hf ρ1 m1 m' H1 x d v Q M1 A1 e (q.go g1)⟩
end
end WL
end
section
namespace WL
open PySem PySem.Spec PyProof.Rows L2
section
variable{C:String→List D→Mem→Option (D×Mem)}{X:Cx}
theorem G4{n:Nat}(h:n≤100000):n≤sizeLine:=Nat.le_trans h (by rw[sizeLine_eq];decide)
noncomputable def rCatF(K:PySem.W.Frag):R2:=fun x y H Q=>∃a b xs ys,x=.ref a∧y=.ref b∧FzT K H a xs∧FzT K H b ys∧xs.length+ys.length≤sizeLine∧
 (xs=[]→Q (.ref b) H)∧(xs≠[]→ys=[]→Q (.ref a) H)∧(xs≠[]→ys≠[]→∀p o,H p=none→o.cls=.type "tuple"→o.dict=none→Q (.ref p) (upd H p (.frz o (.tup (xs++ys)))))
theorem qN:OpR X (binaryOp .Add) (rCatF X.K):=by
 intro pins s σ H x y v u Q I rx ry h
 obtain⟨a,b,xs,ys,rfl,rfl,ha,hb,hz,q0,q1,q2⟩:=h
 cases rx
 cases ry
 obtain⟨its,r1,p1,_⟩:=I.tuple ha.sq
 obtain⟨its2,r2,p2,_⟩:=I.tuple hb.sq
 by_cases hx:xs=[]
 ·have hi:its=[]:=r1.nil_iff.mpr hx
  obtain⟨⟨cls,dd,data,sl⟩,ho,hc,n,hd⟩:=id p1
  obtain⟨⟨cls2,dd2,data2,sl2⟩,ho2,hc2,n2,hd2⟩:=id p2
  simp only at hc hd hc2 hd2
  subst hc hd hc2 hd2
  exact concat_meets ⟨_,ho,rfl⟩ ⟨_,ho2,rfl⟩ noFill_tuple_add seq_tuple_add PySem.F.slot_tuple_add PySem.F.entry_tuple_add (PySem.F.args_tuple_add_2 _ _)
   (tuple_addW0 a b its.toArray its2.toArray n n2 dd dd2 sl sl2 (by simp[hi])) ⟨ho,ho2,⟨.ref b,H,I,rfl,q0 hx⟩⟩
 ·refine HT.cat_tup p1 p2 (fun z=>hx (r1.nil_iff.mp z)) (fun z=>⟨.ref a,H,I,rfl,q1 hx (r2.nil_iff.mp z)⟩) (fun z=>?_) (by rw[←r1.length,←r2.length];exact hz)
  refine⟨.ref s.heap.objs.size,_,I.laid (t':=s.toks) (o:=.frz { cls:=.type "tuple",data:=.seq (its++its2).toArray } (.tup (xs++ys))) (fun b ob q=>Heap.get?_push_of_some _ q) (Nat.le_refl _) ?_,rfl,q2 hx (fun w=>z (r2.nil_iff.mpr w)) _ _ (I.hok.fresh (Nat.le_refl _)) rfl rfl⟩
  exact⟨Heap.get?_push_size _ rfl,by rw[List.length_append];exact hz,_,r1.append r2,IsTup.new _ _⟩
theorem qO:OpR X (binaryOp .Add) (fun x y H Q=>rI0 (fun i j=>.int (i+j)) x y H Q∨(∃i j,x=.str i∧y=.str j∧i.length+j.length≤sizeLine∧Q (.str (i++j)) H)∨rCatF X.K x y H Q):=op_add.or (op_add_str.or qN)
theorem oK:Snd2 X.K (binD .add) (fun x y H Q=>rI0 (fun i j=>.int (i+j)) x y H Q∨(∃i j,x=.str i∧y=.str j∧i.length+j.length≤sizeLine∧Q (.str (i++j)) H)∨rCatF X.K x y H Q):=by
 intro ρ m m' H dx dy d x y Q M ax ay e q
 cases dx with
 | int i=>
  cases dy with
  | int j=>
   cases (show some (D.int (i+j),m)=some (d,m') from e)
   cases ax;cases ay
   exact .inl ⟨_,_,rfl,rfl,.of (q.here M rfl)⟩
  | _=>cases (show (none:Option (D×Mem))=some (d,m') from e)
 | str i=>
  cases dy with
  | str j=>
   have e:(if i.length+j.length≤1000 then some (D.str (i++j),m) else none)=some (d,m'):=e
   by_cases hl:i.length+j.length≤1000
   ·rw[if_pos hl]at e
    cases e
    cases ax;cases ay
    exact .inr (.inl ⟨_,_,rfl,rfl,G4 (by lia),.of (q.here M rfl)⟩)
   ·rw[if_neg hl]at e
    cases e
  | _=>cases (show (none:Option (D×Mem))=some (d,m') from e)
 | tup xs=>
  cases dy with
  | tup ys=>
   have e:(if xs.length+ys.length≤10000 then some (D.tup (xs++ys),m) else none)=some (d,m'):=e
   by_cases hl:xs.length+ys.length≤10000
   ·rw[if_pos hl]at e
    cases e
    obtain⟨a,vs,rfl,ha,as⟩:=ax
    obtain⟨b,us,rfl,hb,bs⟩:=ay
    have l1:=as.len
    have l2:=bs.len
    refine .inr (.inr ⟨a,b,vs,us,rfl,rfl,ha,hb,G4 (by lia),fun z=>.of ?_,fun _ z=>.of ?_,fun _ _ p o hp hc hd=>.of (q.tup M (as.app bs) hp hc hd)⟩)
    ·have:xs=[]:=List.eq_nil_of_length_eq_zero (by rw[←l1,z];rfl)
     subst this
     exact q.here M ⟨b,us,rfl,hb,bs⟩
    ·have:ys=[]:=List.eq_nil_of_length_eq_zero (by rw[←l2,z];rfl)
     subst this
     rw[List.append_nil]at q
     exact q.here M ⟨a,vs,rfl,ha,as⟩
   ·rw[if_neg hl]at e
    cases e
  | _=>cases (show (none:Option (D×Mem))=some (d,m') from e)
 | _=>cases (show (none:Option (D×Mem))=some (d,m') from e)
theorem o9:Snd2 X.K (binD .sub) (rI0 fun i j=>.int (i-j)):=by
 intro ρ m m' H dx dy d x y Q M ax ay e q
 cases dx with
 | int i=>
  cases dy with
  | int j=>
   cases (show some (D.int (i-j),m)=some (d,m') from e)
   cases ax;cases ay
   exact⟨_,_,rfl,rfl,.of (q.here M rfl)⟩
  | _=>cases (show (none:Option (D×Mem))=some (d,m') from e)
 | _=>cases (show (none:Option (D×Mem))=some (d,m') from e)
theorem oA:Snd2 X.K (binD .mul) (rI CMul fun i j=>.int (i*j)):=by
 intro ρ m m' H dx dy d x y Q M ax ay e q
 cases dx with
 | int i=>
  cases dy with
  | int j=>
   have e:(if (-(2 ^ 64)<i∧i<2 ^ 64)∨(-(2 ^ 64)<j∧j<2 ^ 64) then some (D.int (i*j),m) else none)=some (d,m'):=e
   by_cases h:(-(2 ^ 64)<i∧i<2 ^ 64)∨(-(2 ^ 64)<j∧j<2 ^ 64)
   ·rw[if_pos h]at e
    cases e
    cases ax;cases ay
    exact⟨_,_,rfl,rfl,h,.of (q.here M rfl)⟩
   ·rw[if_neg h]at e
    cases e
  | _=>cases (show (none:Option (D×Mem))=some (d,m') from e)
 | _=>cases (show (none:Option (D×Mem))=some (d,m') from e)
theorem oE:Snd2 X.K (binD .mod) (rI (fun _ j=>0<j) fun i j=>.int (i % j)):=by
 intro ρ m m' H dx dy d x y Q M ax ay e q
 cases dx with
 | int i=>
  cases dy with
  | int j=>
   have e:(if 0<j then some (D.int (i % j),m) else none)=some (d,m'):=e
   by_cases h:0<j
   ·rw[if_pos h]at e
    cases e
    cases ax;cases ay
    exact⟨_,_,rfl,rfl,h,.of (q.here M rfl)⟩
   ·rw[if_neg h]at e
    cases e
  | _=>cases (show (none:Option (D×Mem))=some (d,m') from e)
 | _=>cases (show (none:Option (D×Mem))=some (d,m') from e)
variable{a b c:Expr}{pa pb pc:Ex}{pos:Pos}
theorem DY(ha:PE X a (tD C X.K pa))(hb:PE X b (tD C X.K pb)):PE X (.BinOp a .Add b pos) (tD C X.K (.bin .add pa pb)):=M7 (Y5 qO ha hb) oK fun _ _=>rfl
theorem QX(ha:PE X a (tD C X.K pa))(hb:PE X b (tD C X.K pb)):PE X (.BinOp a .Sub b pos) (tD C X.K (.bin .sub pa pb)):=M7 (Y5 vN ha hb) o9 fun _ _=>rfl
theorem HS(ha:PE X a (tD C X.K pa))(hb:PE X b (tD C X.K pb)):PE X (.BinOp a .Mult b pos) (tD C X.K (.bin .mul pa pb)):=M7 (Y5 vO ha hb) oA fun _ _=>rfl
theorem J9(ha:PE X a (tD C X.K pa))(hb:PE X b (tD C X.K pb)):PE X (.BinOp a .Mod b pos) (tD C X.K (.bin .mod pa pb)):=M7 (Y5 vP ha hb) oE fun _ _=>rfl
noncomputable def rCatL:R2:=fun x y H Q=>∃l b xs zs,x=.ref l∧y=.ref b∧Rd H l (.lst xs)∧Rd H b (.lst zs)∧xs.length+zs.length≤sizeLine∧∀p,H p=none→Q (.ref p) (upd H p (.lst (xs++zs)))
theorem qM:OpR X (binaryOp .Add) rCatL:=by
 intro pins s σ H x y v u Q I rx ry h
 obtain⟨l,b,xs,zs,rfl,rfl,hH,hB,hz,q⟩:=h
 cases rx
 cases ry
 obtain⟨z,its,n,r,e⟩:=hH.ok I.hok
 obtain⟨z2,its2,n2,r2,e2⟩:=hB.ok I.hok
 have hl:=r.length
 have hl2:=r2.length
 refine PySem.P.add_list e e2 ?_ (by rw[List.size_toArray,List.size_toArray];omega)
 have ea:its.toArray++its2.toArray=(its++its2).toArray:=by simp
 rw[ea]
 exact⟨.ref _,_,I.lnew (t':=s.toks) (r.append r2) (by rw[List.length_append];omega),rfl,q _ I.fresh⟩
theorem M8{mu:Bool}(ha:PE X a (tD C X.K pa))(hb:PE X b (tD C X.K pb)):PE X (.BinOp a .Add b pos) (tD C X.K (.cat mu pa pb)):=
 M7 (f:=fun x y m2=>match x,y with | .lst xs,.lst ys=>if xs.length+ys.length≤10000 then some (mkL mu (xs++ys) m2) else none | _,_=>none) (Y5 qM ha hb) (by
  intro ρ m m' H dx dy d x y Q M ax ay e q
  cases dx<;>cases dy<;>simp only at e<;>try (cases e;done)
  split at e
  ·rename_i xs ys hl
   obtain⟨a,o,vs,rfl,ha,as⟩:=ax
   obtain⟨b,o',us,rfl,hb,bs⟩:=ay
   have l1:=as.len
   have l2:=bs.len
   have e':=Option.some.inj e
   have q':Beh X.K ρ H (mkL mu (xs++ys) m).1 (mkL mu (xs++ys) m).2 Q:=by rw[e'];exact q
   exact⟨a,b,vs,us,rfl,rfl,.inr ⟨o,ha⟩,.inr ⟨o',hb⟩,G4 (by lia),fun p hp=>q'.lst M (as.app bs) hp⟩
  ·cases e) fun _ _=>rfl
end
end WL
end
section
namespace L2
open PySem PySem.Spec PyProof.Rows
section
variable{X:Cx}
end
end L2
end
section
namespace WL
open PySem PySem.Spec PyProof.Rows L2
section
variable{X:Cx}{pins:List (Addr×Obj)}{σ:L2.St}{H:Hp}{s:Shared}{ρ:List Addr}
mutual
theorem K1(I:Inv X pins σ H s):∀{d:D} {x:V} {u:Value} {p:PyData},At X.K ρ H d x→pyD d=some p→RelV x u→∃as,Reads s.heap u p as
 | .non,_,_,_,a,e,r=>by cases a;cases e;cases r;exact⟨_,.none⟩
 | .bl b,_,_,_,a,e,r=>by cases a;cases e;cases r;exact⟨_,.bool b⟩
 | .int i,_,_,_,a,e,r=>by cases a;cases e;obtain⟨t,rfl⟩:=r;exact⟨_,.int i t⟩
 | .str i,_,_,_,a,e,r=>by cases a;cases e;obtain⟨t,rfl⟩:=r;exact⟨_,.str i t⟩
 | .tup xs,_,_,_,hq1,e,r=>by
  obtain⟨a,vs,ex,h,as⟩:=hq1
  subst ex
  cases r
  obtain⟨ps,e1,rfl⟩:=Option.map_eq_some_iff.mp (show (pyDs xs).map PyData.tuple=some _ from e)
  obtain⟨its,rv,⟨o,ho,hc,n,hd⟩,_⟩:=I.tuple h.sq
  obtain⟨bs,q⟩:=K3 I as e1 rv
  exact⟨_,.tuple ho hc hd (by simpa using q)⟩
 | .lst xs,_,_,_,hq1,e,r=>by
  obtain⟨a,o,vs,ex,h,as⟩:=hq1
  subst ex
  cases r
  obtain⟨ps,e1,rfl⟩:=Option.map_eq_some_iff.mp (show (pyDs xs).map PyData.list=some _ from e)
  obtain⟨its,rv,⟨o,n,ho,hc,_,hd⟩,_⟩:=I.list (X:=X) (.inl (.inr ⟨o,h⟩))
  obtain⟨bs,q⟩:=K3 I as e1 rv
  exact⟨_,.list ho hc hd (by simpa using q)⟩
 | .dct _ _,_,_,_,_,e,_=>nomatch e
 | .scr _,_,_,_,_,e,_=>nomatch e
 | .mref _,_,_,_,_,e,_=>nomatch e
theorem K3(I:Inv X pins σ H s):∀{ds:List D} {xs:List V} {us:List Value} {ps:List PyData},Ats X.K ρ H ds xs→pyDs ds=some ps→Vals xs us→∃as,ReadsAll s.heap us ps as
 | [],_,_,_,a,e,r=>by
  cases (show _=[] from a);cases e;cases r
  exact⟨_,.nil⟩
 | d::ds,_,_,_,hq1,e,r=>by
  obtain⟨v,vr,ex,a,as⟩:=hq1
  subst ex
  obtain⟨p,e1,e⟩:=Option.bind_eq_some_iff.mp (show (pyD d).bind _=some _ from e)
  obtain⟨ps,e2,rfl⟩:=Option.map_eq_some_iff.mp e
  cases r with
  | cons r1 r2=>
   obtain⟨as1,q1⟩:=K1 I a e1 r1
   obtain⟨as2,q2⟩:=K3 I as e2 r2
   exact⟨_,.cons q1 q2⟩
end
end
section
variable{C:String→List D→Mem→Option (D×Mem)}{X:Cx}
def CmpS(K:PySem.W.Frag)(o:COp)(r:R2):Prop:=∀(ρ:List Addr) (m:Mem) (H:Hp) (dx dy:D) (x y:V) (c:Bool) (Q:VK),MemAt K ρ m H→At K ρ H dx x→At K ρ H dy y→cmpD o dx dy=some c→Q (.bl c) H→r x y H Q
def CmpOk(X:Cx)(o:COp)(op:CmpOp):Prop:=∃r,OpR X (compareOp op) r∧CmpS X.K o r
noncomputable def rDeep(K:PySem.W.Frag)(neg:Bool):R2:=fun x y H Q=>∃ρ dx dy px py,At K ρ H dx x∧At K ρ H dy y∧pyD dx=some px∧pyD dy=some py∧px.canLay0=true∧py.canLay0=true∧min px.depth py.depth≤60∧Q (.bl (if neg then !PyData.eqv px py else PyData.eqv px py)) H
theorem qL(hu:X.A.units+64<cLine):OpR X (compareOp .Eq) (rDeep X.K false):=by
 intro pins s σ H x y v u Q I rx ry h
 obtain⟨ρ,dx,dy,px,py,ax,ay,ex,ey,lx,ly,hd,q⟩:=h
 obtain⟨as,r1⟩:=K1 I ax ex rx
 obtain⟨bs,r2⟩:=K1 I ay ey ry
 exact SeqAt.eqOverData X.prog X.w X.A X.xe s v u px py as bs _ r1 r2 lx ly (by lia) ⟨.bl _,H,I,rfl,q⟩
theorem jJ(hu:X.A.units+64<cLine):OpR X (compareOp .NotEq) (rDeep X.K true):=by
 intro pins s σ H x y v u Q I rx ry h
 obtain⟨ρ,dx,dy,px,py,ax,ay,ex,ey,lx,ly,hd,q⟩:=h
 obtain⟨as,r1⟩:=K1 I ax ex rx
 obtain⟨bs,r2⟩:=K1 I ay ey ry
 exact SeqAt.neOverData X.prog X.w X.A X.xe s v u px py as bs _ r1 r2 lx ly (by lia) ⟨.bl _,H,I,rfl,q⟩
theorem d7{K:PySem.W.Frag}{ρ:List Addr}{H:Hp}{dx dy:D}{x y:V}{c:Bool}(neg:Bool){Q:VK}(ax:At K ρ H dx x)(ay:At K ρ H dy y)(e:eqDeep dx dy=some c)(q:Q (.bl (if neg then !c else c)) H):rDeep K neg x y H Q:=by
 unfold eqDeep at e
 obtain⟨px,e1,e⟩:=Option.bind_eq_some_iff.mp e
 obtain⟨py,e2,e⟩:=Option.bind_eq_some_iff.mp e
 split at e
 ·rename_i h
  have e':=Option.some.inj e
  rw[Bool.and_eq_true,Bool.and_eq_true,decide_eq_true_eq]at h
  exact⟨ρ,dx,dy,px,py,ax,ay,e1,e2,h.1.1,h.1.2,h.2,by rw[e'];exact q⟩
 ·cases e
theorem mG{a b:Int}:decide (V.int a=V.int b)=decide (a=b):=by simp
theorem mD{a b:Str}:decide (V.str a=V.str b)=decide (a=b):=by simp
theorem HN(hu:X.A.units+64<cLine):CmpOk X .eq .Eq:=by
 refine⟨_,op_eq.or (qL hu),fun ρ m H dx dy x y c Q M ax ay e q=>?_⟩
 have e:eqD dx dy=some c:=e
 unfold eqD at e
 split at e
 ·cases ax;cases ay;cases e
  exact .inl ⟨rfl,by rw[mG];exact q⟩
 ·cases ax;cases ay;cases e
  exact .inl ⟨rfl,by rw[mD];exact q⟩
 ·exact .inr (d7 false ax ay e q)
theorem tW(hu:X.A.units+64<cLine):CmpOk X .ne .NotEq:=by
 refine⟨_,op_ne.or (jJ hu),fun ρ m H dx dy x y c Q M ax ay e q=>?_⟩
 obtain⟨k,e0,rfl⟩:=Option.map_eq_some_iff.mp (show (eqD dx dy).map (!·)=some c from e)
 clear e
 rename eqD dx dy=some k=>e
 unfold eqD at e
 split at e
 ·cases ax;cases ay;cases e
  exact .inl ⟨rfl,by rw[mG];exact q⟩
 ·cases ax;cases ay;cases e
  exact .inl ⟨rfl,by rw[mD];exact q⟩
 ·exact .inr (d7 true ax ay e q)
theorem W8{o:COp}{op:CmpOp}{g:Int→Int→Bool}(h:OpR X (compareOp op) (rI0 fun i j=>.bl (g i j)))(hc:∀dx dy c,cmpD o dx dy=some c→∃i j,dx=.int i∧dy=.int j∧c=g i j):CmpOk X o op:=
 ⟨_,h,fun ρ m H dx dy x y c Q M ax ay e q=>by
  obtain⟨i,j,rfl,rfl,rfl⟩:=hc dx dy c e
  cases ax;cases ay
  exact⟨i,j,rfl,rfl,q⟩⟩
theorem Z5:CmpOk X .lt .Lt:=W8 xZ fun dx dy c e=>by
 cases dx with
 | int i=>
  cases dy with
  | int j=>
   cases (show some (decide (i<j))=some c from e)
   exact⟨_,_,rfl,rfl,rfl⟩
  | _=>cases (show (none:Option Bool)=some c from e)
 | _=>cases (show (none:Option Bool)=some c from e)
theorem dI:CmpOk X .le .LtE:=W8 yC fun dx dy c e=>by
 cases dx with
 | int i=>
  cases dy with
  | int j=>
   cases (show some (decide (i≤j))=some c from e)
   exact⟨_,_,rfl,rfl,rfl⟩
  | _=>cases (show (none:Option Bool)=some c from e)
 | _=>cases (show (none:Option Bool)=some c from e)
theorem dM:CmpOk X .gt .Gt:=W8 yD fun dx dy c e=>by
 cases dx with
 | int i=>
  cases dy with
  | int j=>
   cases (show some (decide (j<i))=some c from e)
   exact⟨_,_,rfl,rfl,rfl⟩
  | _=>cases (show (none:Option Bool)=some c from e)
 | _=>cases (show (none:Option Bool)=some c from e)
theorem yW:CmpOk X .ge .GtE:=W8 yE fun dx dy c e=>by
 cases dx with
 | int i=>
  cases dy with
  | int j=>
   cases (show some (decide (j≤i))=some c from e)
   exact⟨_,_,rfl,rfl,rfl⟩
  | _=>cases (show (none:Option Bool)=some c from e)
 | _=>cases (show (none:Option Bool)=some c from e)
theorem KJ{K:PySem.W.Frag}{ρ:List Addr}{H:Hp}{d:D}{x:V}(f:d.flat=true)(a:At K ρ H d x):flatV x=true∧∀{d':D} {y:V},d'.flat=true→At K ρ H d' y→eqV y x=inD d [d']:=by
 cases d<;>cases f
 ·cases a
  refine⟨rfl,fun {d' y} f' a'=>?_⟩
  cases d'<;>cases f'<;>cases a'
  ·simp[eqV,inD,Bool.beq_eq_decide_eq,eq_comm]
  ·simp[eqV,inD]
 ·cases a
  refine⟨rfl,fun {d' y} f' a'=>?_⟩
  cases d'<;>cases f'<;>cases a'
  ·simp[eqV,inD]
  ·simp[eqV,inD,Bool.beq_eq_decide_eq,eq_comm]
theorem lB(x y:D)(r:List D):inD x (y::r)=(inD x [y]||inD x r):=by simp[inD]
theorem N8{K:PySem.W.Frag}{ρ:List Addr}{H:Hp}{d:D}{x:V}(f:d.flat=true)(a:At K ρ H d x):∀{ds:List D} {vs:List V},ds.all D.flat=true→Ats K ρ H ds vs→vs.all flatV=true∧inV x vs=inD d ds
 | [],_,_,as=>by cases (show _=[] from as);exact⟨rfl,rfl⟩
 | e::r,_,fs,hq1=>by
  obtain⟨v,vr,ev,a1,as⟩:=hq1
  subst ev
  rw[List.all_cons,Bool.and_eq_true]at fs
  obtain⟨h1,h2⟩:=N8 f a fs.2 as
  refine⟨by rw[List.all_cons,(KJ fs.1 a1).1,h1];rfl,?_⟩
  rw[lB,←h2,←(KJ f a).2 fs.1 a1]
  rfl
theorem iY{K:PySem.W.Frag}{ρ:List Addr}{H:Hp}{dx dy:D}{x y:V}{c:Bool}(neg:Bool){Q:VK}{ds:List D}(hs:dy=.tup ds∨dy=.lst ds)(ax:At K ρ H dx x)(ay:At K ρ H dy y)(e:(if dx.flat&&ds.all D.flat then some (if neg then !inD dx ds else inD dx ds) else none)=some c)
  (q:Q (.bl c) H):rIn K neg x y H Q:=by
 split at e
 ·rename_i h
  rw[Bool.and_eq_true]at h
  have e':=Option.some.inj e
  rcases hs with rfl | rfl
  ·obtain⟨a,vs,rfl,ha,as⟩:=ay
   obtain⟨f2,i2⟩:=N8 h.1 ax h.2 as
   exact⟨a,vs,rfl,.inr ha.sq,(KJ h.1 ax).1,f2,by rw[i2,e'];exact q⟩
  ·obtain⟨a,o,vs,rfl,ha,as⟩:=ay
   obtain⟨f2,i2⟩:=N8 h.1 ax h.2 as
   exact⟨a,vs,rfl,.inl (.inl (.inr ⟨o,ha⟩)),(KJ h.1 ax).1,f2,by rw[i2,e'];exact q⟩
 ·cases e
theorem dJ:CmpOk X .isin .In:=⟨_,fM,fun ρ m H dx dy x y c Q M ax ay e q=>by
 cases dy with
 | tup ds=>exact iY false (.inl rfl) ax ay e q
 | lst ds=>exact iY false (.inr rfl) ax ay e q
 | _=>cases e⟩
variable{a b c:Expr}{pa pb pc:Ex}{pos:Pos}{o o':COp}{op op':CmpOp}
theorem mK{r:R2}(hr:CmpS X.K o r){σ:L2.St}{H:Hp}{Q:VK}(h:tD C X.K (.cmp o pa pb) σ H Q):tOp r (tD C X.K pa) (tD C X.K pb) σ H Q:=by
 obtain⟨σd,m,ρ,d,m',S,M,e,q⟩:=h
 obtain⟨⟨x,m1⟩,e1,e⟩:=Option.bind_eq_some_iff.mp e
 obtain⟨⟨y,m2⟩,e2,e⟩:=Option.bind_eq_some_iff.mp e
 obtain⟨k,e3,e⟩:=Option.map_eq_some_iff.mp e
 cases e
 exact⟨σd,m,ρ,x,m1,S,M,e1,fun v H1 ρ1 g1 M1 A1=>⟨σd,m1,ρ1,y,m',S.mono M g1,M1,e2,fun w H2 ρ2 g2 M2 A2=>hr ρ2 m' H2 x y v w k Q M2 (A1.mono M1 g2) A2 e3 (q _ _ ρ2 (g1.trans g2) M2 rfl)⟩⟩
theorem V2(k:CmpOk X o op)(ha:PE X a (tD C X.K pa))(hb:PE X b (tD C X.K pb))(hm:behindInMarks op b=false:=by rfl):PE X (.Compare a [op] [b] pos) (tD C X.K (.cmp o pa pb)):=by
 obtain⟨r,h,hr⟩:=k
 exact(qG h ha hb hm).imp fun σ H Q q=>mK hr q
theorem DP(k:CmpOk X o op)(ha:PE X a (tD C X.K pa))(hb:PE X b (tD C X.K pb))(hm:behindInMarks op b=false:=by rfl):PT X (.Compare a [op] [b] pos) (tDT C X.K (.val (.cmp o pa pb))):=by
 obtain⟨r,h,hr⟩:=k
 refine(pK h ha hb hm).imp fun σ H Q hq0=>?_
 obtain⟨σd,m,ρ,c,m',S,M,e,q⟩:=hq0
 refine mK hr ?_
 obtain⟨⟨x,m1⟩,e1,e⟩:=Option.bind_eq_some_iff.mp e
 obtain⟨k,e2,e⟩:=Option.map_eq_some_iff.mp e
 cases e
 have hx:∃z,x=.bl z:=by
  obtain⟨_,_,e1⟩:=Option.bind_eq_some_iff.mp e1
  obtain⟨_,_,e1⟩:=Option.bind_eq_some_iff.mp e1
  obtain⟨z,_,e1⟩:=Option.map_eq_some_iff.mp e1
  cases e1
  exact⟨z,rfl⟩
 obtain⟨z,rfl⟩:=hx
 cases e2
 exact⟨σd,m,ρ,_,m',S,M,e1,fun v H1 ρ1 g1 M1 A1=>⟨_,A1,q H1 ρ1 g1 M1⟩⟩
theorem uF{K:PySem.W.Frag}{ρ:List Addr}{m:Mem}{H:Hp}{d:D}{x:V}{c:Bool}(M:MemAt K ρ m H)(A:At K ρ H d x)(e:truD d m=some c):TruV K x H c:=by
 cases d with
 | non=>cases A;cases e;rfl
 | bl b=>cases A;cases e;rfl
 | int i=>cases A;cases e;rfl
 | str x=>cases e
 | dct _ _=>cases e
 | tup xs=>
  obtain⟨a,vs,rfl,h,as⟩:=A
  cases e
  refine .inr (.inl ⟨vs,h.sq,?_⟩)
  have:=as.len
  cases xs<;>cases vs<;>simp_all
 | lst xs=>
  obtain⟨a,o,vs,rfl,h,as⟩:=A
  cases e
  refine .inl ⟨vs,.inl (.inr ⟨o,h⟩),?_⟩
  have:=as.len
  cases xs<;>cases vs<;>simp_all
 | scr ns=>
  obtain⟨a,rfl,h⟩:=A
  cases e
  refine .inl ⟨_,h.sq,?_⟩
  cases ns<;>rfl
 | mref i=>
  obtain⟨a,hi,rfl⟩:=A
  have e:(match m[i]? with | some (.lst xs)=>some (!xs.isEmpty) | some (.dct ks _)=>some (!ks.isEmpty) | _=>none)=some c:=e
  split at e
  ·rename_i xs hm
   cases e
   obtain⟨vs,hv,as⟩:=M.at' i a _ hi hm
   refine .inl ⟨vs,.of hv,?_⟩
   have:=as.len
   cases xs<;>cases vs<;>simp_all
  ·rename_i ks us hm
   cases e
   obtain⟨kvs,hv,hk,as⟩:=M.at' i a _ hi hm
   refine .inr (.inr ⟨kvs,hv,?_⟩)
   subst hk
   cases kvs<;>rfl
  ·cases e
theorem O2(ha:PE X a (tD C X.K pa))(he:∀whole,isTrue a X.env whole=(do let v ←whole;standAt a.pos;holding [v] (truthy v)):=by intro _;rfl):PT X a (tDT C X.K (.val pa)):=
 (j7 ha he).imp fun σ H Q hq0=>by
 obtain⟨σd,m,ρ,c,m',S,M,e,q⟩:=hq0
 obtain⟨⟨x,m1⟩,e1,e⟩:=Option.bind_eq_some_iff.mp e
 obtain⟨k,e2,e⟩:=Option.map_eq_some_iff.mp e
 cases e
 exact⟨σd,m,ρ,x,m',S,M,e1,fun v H1 ρ1 g1 M1 A1=>⟨_,uF M1 A1 e2,q H1 ρ1 g1 M1⟩⟩
variable{ta tb:Te}{rest:List Expr}
theorem aB(ha:PT X a (tDT C X.K ta)):PT X (.UnaryOp .Not a pos) (tDT C X.K (.not ta)):=(v7 ha).imp fun σ H Q hq0=>by
 obtain⟨σd,m,ρ,c,m',S,M,e,q⟩:=hq0
 obtain⟨⟨k,m1⟩,e1,e⟩:=Option.map_eq_some_iff.mp e
 cases e
 exact⟨σd,m,ρ,k,m',S,M,e1,q⟩
theorem U7(ha:PT X a (tDT C X.K ta)):PW X (.BoolOp .And [a] pos) (tDT C X.K ta):=pG ha
theorem U6(ha:PT X a (tDT C X.K ta)):PW X (.BoolOp .Or [a] pos) (tDT C X.K ta):=uX ha
theorem U8(ha:PT X a (tDT C X.K ta))(hb:PW X (.BoolOp .And (b::rest) pos) (tDT C X.K tb)):PW X (.BoolOp .And (a::b::rest) pos) (tDT C X.K (.and ta tb)):=(uY ha hb).imp fun σ H Q hq0=>by
 obtain⟨σd,m,ρ,c,m',S,M,e,q⟩:=hq0
 obtain⟨⟨k,m1⟩,e1,e⟩:=Option.bind_eq_some_iff.mp e
 refine⟨σd,m,ρ,k,m1,S,M,e1,fun H1 ρ1 g1 M1=>?_⟩
 cases k with
 | false=>
  try dsimp only at e
  rw[if_neg Bool.false_ne_true]at e ⊢
  cases e
  exact q H1 ρ1 g1 M1
 | true=>
  try dsimp only at e
  rw[if_pos rfl]at e ⊢
  exact⟨σd,m1,ρ1,c,m',S.mono M g1,M1,e,fun H2 ρ2 g2 M2=>q H2 ρ2 (g1.trans g2) M2⟩
theorem bQ(ha:PT X a (tDT C X.K ta))(hb:PW X (.BoolOp .Or (b::rest) pos) (tDT C X.K tb)):PW X (.BoolOp .Or (a::b::rest) pos) (tDT C X.K (.or ta tb)):=(xU ha hb).imp fun σ H Q hq0=>by
 obtain⟨σd,m,ρ,c,m',S,M,e,q⟩:=hq0
 obtain⟨⟨k,m1⟩,e1,e⟩:=Option.bind_eq_some_iff.mp e
 refine⟨σd,m,ρ,k,m1,S,M,e1,fun H1 ρ1 g1 M1=>?_⟩
 cases k with
 | true=>
  try dsimp only at e
  rw[if_pos rfl]at e ⊢
  cases e
  exact q H1 ρ1 g1 M1
 | false=>
  try dsimp only at e
  rw[if_neg Bool.false_ne_true]at e ⊢
  exact⟨σd,m1,ρ1,c,m',S.mono M g1,M1,e,fun H2 ρ2 g2 M2=>q H2 ρ2 (g1.trans g2) M2⟩
theorem pA{bop:BoolOp}(ha:PE X a (tD C X.K pa)):PE X (.BoolOp bop [a] pos) (tD C X.K pa):=vI ha
theorem xQ(ha:PE X a (tD C X.K pa))(hb:PE X (.BoolOp .Or (b::rest) pos) (tD C X.K pb)):PE X (.BoolOp .Or (a::b::rest) pos) (tD C X.K (.orv pa pb)):=(xW ha hb).imp fun σ H Q hq0=>by
 obtain⟨σd,m,ρ,d,m',S,M,e,q⟩:=hq0
 obtain⟨⟨x,m1⟩,e1,e⟩:=Option.bind_eq_some_iff.mp e
 refine⟨σd,m,ρ,x,m1,S,M,e1,fun v H1 ρ1 g1 M1 A1=>?_⟩
 cases x with
 | bl k=>
  cases A1
  refine⟨k,rfl,?_⟩
  cases k with
  | true=>
   rw[if_pos rfl]
   cases e
   exact q _ H1 ρ1 g1 M1 rfl
  | false=>
   rw[if_neg Bool.false_ne_true]
   exact⟨σd,m1,ρ1,d,m',S.mono M g1,M1,e,q.go g1⟩
 | _=>cases e
end
end WL
end
section
namespace WL
open PySem PySem.Spec PyProof.Rows L2
section
variable{K:PySem.W.Frag}{ρ:List Addr}{H:Hp}
def KAt(K:PySem.W.Frag)(ρ:List Addr)(H:Hp)(ks:List Key)(ds:List D)(kvs:List (Key×V)):Prop:=kvs.map (·.1)=ks∧Ats K ρ H ds (kvs.map (·.2))
theorem KAt.look:∀{kvs:List (Key×V)} {ks:List Key} {ds:List D} (k:Key),KAt K ρ H ks ds kvs→(∀d,lookD ks ds k=some d→∃v,valV kvs k=some v∧At K ρ H d v)∧(lookD ks ds k=none→valV kvs k=none)
 | [],_,ds,k,hq1=>by
  obtain⟨e,a⟩:=hq1
  subst e
  cases ds with
  | nil=>exact⟨fun d h=>by simp[lookD]at h,fun _=>rfl⟩
  | cons d r=>obtain⟨_,_,e,_⟩:=a;simp at e
 | p::r,_,ds,k,hq1=>by
  obtain⟨e,a⟩:=hq1
  subst e
  cases ds with
  | nil=>exact absurd (show List.map (·.2) (p::r)=[] from a) (by simp)
  | cons d ds=>
   obtain⟨v,vr,e,a1,a2⟩:=a
   simp only[List.map_cons,List.cons.injEq]at e
   obtain⟨rfl,rfl⟩:=e
   have ih:=KAt.look (kvs:=r) k ⟨rfl,a2⟩
   by_cases hk:p.1=k
   ·refine⟨fun d' h=>?_,fun h=>?_⟩
    ·simp only[List.map_cons,lookD,if_pos hk,Option.some.injEq]at h
     subst h
     exact⟨_,N6 hk,a1⟩
    ·simp[List.map_cons,lookD,if_pos hk]at h
   ·refine⟨fun d' h=>?_,fun h=>?_⟩
    ·simp only[List.map_cons,lookD,if_neg hk]at h
     rw[JW hk];exact ih.1 d' h
    ·simp only[List.map_cons,lookD,if_neg hk]at h
     rw[JW hk];exact ih.2 h
theorem KAt.rep{k:Key}{d:D}{v:V}(a:At K ρ H d v):∀{kvs:List (Key×V)} {ks:List Key} {ds:List D},KAt K ρ H ks ds kvs→KAt K ρ H ks (repD ks ds k d) (kvs.map fun kv=>if kv.1=k then (kv.1,v) else kv)
 | [],_,ds,hq1=>by
  obtain⟨e,b⟩:=hq1
  subst e
  refine⟨rfl,?_⟩
  simp[repD,Ats]
 | p::r,_,ds,hq1=>by
  obtain⟨e,b⟩:=hq1
  subst e
  cases ds with
  | nil=>exact absurd (show List.map (·.2) (p::r)=[] from b) (by simp)
  | cons x ds=>
   obtain⟨w,vr,e,a1,a2⟩:=b
   simp only[List.map_cons,List.cons.injEq]at e
   obtain⟨rfl,rfl⟩:=e
   obtain⟨h1,h2⟩:=KAt.rep a (kvs:=r) (ds:=ds) ⟨rfl,a2⟩
   refine⟨?_,?_⟩
   ·simp only[List.map_cons]
    rw[h1]
    congr 1
    split<;>rfl
   ·simp only[List.map_cons,repD]
    refine⟨_,_,rfl,?_,h2⟩
    by_cases hk:p.1=k
    ·simp only[if_pos hk];exact a
    ·simp only[if_neg hk];exact a1
theorem KAt.put{k:Key}{d:D}{v:V}(a:At K ρ H d v){kvs:List (Key×V)}{ks:List Key}{ds:List D}(h:KAt K ρ H ks ds kvs):KAt K ρ H (putD ks ds k d).1 (putD ks ds k d).2 (putK kvs k v):=by
 have e:(ks.any fun x=>decide (x=k))=kvs.any fun kv=>decide (kv.1=k):=by rw[←h.1,List.any_map];rfl
 unfold putD putK
 rw[e]
 split
 ·exact h.rep a
 ·exact⟨by rw[List.map_append,h.1];rfl,by rw[List.map_append];exact h.2.snoc a⟩
theorem KAt.puts:∀{more:List (Key×V)} {ks':List Key} {ds':List D} {kvs:List (Key×V)} {ks:List Key} {ds:List D},KAt K ρ H ks ds kvs→KAt K ρ H ks' ds' more→KAt K ρ H (putsD ks ds ks' ds').1 (putsD ks ds ks' ds').2 (mergeK kvs more)
 | [],_,ds',kvs,ks,ds,h,hq1=>by
  obtain⟨e,a⟩:=hq1
  subst e
  have:putsD ks ds [] ds'=(ks,ds):=by cases ds'<;>simp[putsD]
  rw[List.map_nil,this]
  exact h
 | p::r,_,ds',kvs,ks,ds,h,hq1=>by
  obtain⟨e,a⟩:=hq1
  subst e
  cases ds' with
  | nil=>exact absurd (show List.map (·.2) (p::r)=[] from a) (by simp)
  | cons x ds'=>
   obtain⟨w,vr,e,a1,a2⟩:=a
   simp only[List.map_cons,List.cons.injEq]at e
   obtain⟨rfl,rfl⟩:=e
   rw[List.map_cons]
   unfold putsD
   exact KAt.puts (more:=r) (h.put a1) ⟨rfl,a2⟩
theorem KAt.nil:KAt K ρ H [] [] []:=⟨rfl,rfl⟩
theorem KAt.mono'{H':Hp}{ρ':List Addr}(hf:FzSub H H')(hr:RSub ρ ρ'){ks:List Key}{ds:List D}{kvs:List (Key×V)}(h:KAt K ρ H ks ds kvs):KAt K ρ' H' ks ds kvs:=⟨h.1,h.2.mono' hf hr⟩
theorem bH{d:D}{x:V}{k:Key}(a:At K ρ H d x)(e:keyD d=some k):x=kV k:=by
 cases d<;>simp only[keyD]at e<;>cases e<;>cases a<;>rfl
theorem W4{m:Mem}(M:MemAt K ρ m H){d:D}{x:V}{ks:List Key}{ds:List D}(a:At K ρ H d x)(e:dctOf d m=some (ks,ds)):∃p kvs,x=.ref p∧Rd H p (.dK kvs)∧KAt K ρ H ks ds kvs:=by
 cases d with
 | dct ks' vs=>
  cases e
  obtain⟨p,o,kvs,rfl,h,hk,as⟩:=a
  exact⟨p,kvs,rfl,.inr ⟨o,h⟩,hk,as⟩
 | mref i=>
  obtain⟨p,hi,rfl⟩:=a
  have e:(match m[i]? with | some (.dct ks vs)=>some (ks,vs) | _=>none)=some (ks,ds):=e
  split at e
  ·rename_i hm
   cases e
   obtain⟨kvs,h,hk,as⟩:=M.at' i p _ hi hm
   exact⟨p,kvs,rfl,.inl h,hk,as.mono' (fun _ _ _ z=>z) (.take ρ i)⟩
  ·cases e
 | _=>cases e
theorem G8{m:Mem}(M:MemAt K ρ m H){d:D}{x:V}{ds:List D}(a:At K ρ H d x)(e:lstOf d m=some ds):∃p vs,x=.ref p∧SqL K H p vs∧Ats K ρ H ds vs:=by
 cases d with
 | lst xs=>
  cases e
  obtain⟨p,o,vs,rfl,h,as⟩:=a
  exact⟨p,vs,rfl,.inl (.inr ⟨o,h⟩),as⟩
 | scr ns=>
  cases e
  obtain⟨p,rfl,h⟩:=a
  exact⟨p,_,rfl,h.sq,.ints ns⟩
 | mref i=>
  obtain⟨p,hi,rfl⟩:=a
  have e:(match m[i]? with | some (.lst xs)=>some xs | _=>none)=some ds:=e
  split at e
  ·rename_i hm
   cases e
   obtain⟨vs,h,as⟩:=M.at' i p _ hi hm
   exact⟨p,vs,rfl,.of h,as.mono' (fun _ _ _ z=>z) (.take ρ i)⟩
  ·cases e
 | _=>cases e
theorem aJ{m:Mem}(M:MemAt K ρ m H){d:D}{x:V}{ds:List D}(a:At K ρ H d x)(e:seqOf d m=some ds):∃p vs,x=.ref p∧(SqL K H p vs∨SqT K H p vs)∧Ats K ρ H ds vs:=by
 cases d with
 | tup xs=>
  cases e
  obtain⟨p,vs,rfl,h,as⟩:=a
  exact⟨p,vs,rfl,.inr h.sq,as⟩
 | lst xs=>obtain⟨p,vs,e,h,as⟩:=G8 M a (show lstOf (.lst xs) m=some ds from e);exact⟨p,vs,e,.inl h,as⟩
 | scr xs=>obtain⟨p,vs,e,h,as⟩:=G8 M a (show lstOf (.scr xs) m=some ds from e);exact⟨p,vs,e,.inl h,as⟩
 | mref xs=>obtain⟨p,vs,e,h,as⟩:=G8 M a (show lstOf (.mref xs) m=some ds from e);exact⟨p,vs,e,.inl h,as⟩
 | _=>cases e
theorem Ats.atI{ds:List D}{vs:List V}{i:Int}{d:D}(h:Ats K ρ H ds vs)(e:atI ds i=some d):∃v,L2.atI vs i=some v∧At K ρ H d v:=by
 unfold L2.atI at e ⊢
 obtain⟨j,e1,e2⟩:=Option.bind_eq_some_iff.mp e
 obtain⟨v,e3,a⟩:=h.get e2
 exact⟨v,by rw[h.len,e1];exact e3,a⟩
end
section
variable{C:String→List D→Mem→Option (D×Mem)}{X:Cx}{a b c:Expr}{pa pb pc:Ex}{pos:Pos}{es:List Expr}{ps:Exs}
noncomputable def tTupF(t:TA):TE:=fun σ H Q=>t σ H fun xs H1=>xs.length≤sizeLine∧∀p o,H1 p=none→o.cls=.type "tuple"→o.dict=none→Q (.ref p) (upd H1 p (.frz o (.tup xs)))
theorem pZ{x1}{t:TA}(h:PA X es t):PE X (.Tuple es x1 pos) (tTupF t):=by
 intro pins s σ H Q I hq
 refine wpAny_Tuple_spliced (thn (h pos pins s σ H _ I hq) fun us s1 ⟨xs,H1,I1,r,z,q⟩=>⟨by rw[←r.length];exact z,?_⟩)
 have hf:H1 s1.heap.objs.size=none:=I1.hok.fresh (Nat.le_refl _)
 refine⟨.ref s1.heap.objs.size,upd H1 s1.heap.objs.size (.frz { cls:=.type "tuple",data:=.seq us.toArray } (.tup xs)),I1.laid (t':=s1.toks) (fun b u e=>Heap.get?_push_of_some _ e) (Nat.le_refl _) ?_,rfl,q _ _ hf rfl rfl⟩
 exact⟨Heap.get?_push_size _ rfl,z,us,r,⟨_,Heap.get?_push_size _ rfl,rfl,_,rfl⟩⟩
theorem DK{x1}(h:PA X es (tDs C X.K ps)):PE X (.Tuple es x1 pos) (tD C X.K (.tup ps)):=(pZ h).imp fun σ H Q hq0=>by
 obtain⟨σd,m,ρ,d,m',S,M,e,q⟩:=hq0
 obtain⟨⟨xs,m1⟩,e1,e⟩:=Option.bind_eq_some_iff.mp e
 dsimp only at e
 split at e
 ·rename_i hl
  cases e
  exact⟨σd,m,ρ,xs,m',S,M,e1,fun vs H1 ρ1 g1 M1 A1=>⟨G4 (by rw[A1.len];lia),fun p o hp hc hd=>(q.go g1).tup M1 A1 hp hc hd⟩⟩
 ·cases e
theorem JL{mu:Bool}(h:PA X es (tDs C X.K ps)):PE X (.List es pos) (tD C X.K (.lst mu ps)):=(vJ h).imf fun σ H Q hq0=>by
 obtain⟨σd,m,ρ,d,m',S,M,e,q⟩:=hq0
 obtain⟨⟨xs,m1⟩,e1,e⟩:=Option.bind_eq_some_iff.mp e
 dsimp only at e
 split at e
 ·rename_i hl
  have e':=Option.some.inj e
  have q':Beh X.K ρ H (mkL mu xs m1).1 (mkL mu xs m1).2 Q:=by rw[e'];exact q
  exact⟨σd,m,ρ,xs,m1,S,M,e1,fun vs H1 ρ1 g1 M1 A1=>⟨G4 (by rw[A1.len];lia),fun p hp=>(q'.go g1).lst M1 A1 hp⟩⟩
 ·cases e
theorem pF{mu:Bool}:PE X (.Dict [] [] pos) (tD C X.K (.dic mu [] .nil)):=(jF (X:=X)).imf fun σ H Q hq0=>by
 obtain⟨σd,m,ρ,d,m',S,M,e,q⟩:=hq0
 have e':mkD mu [] [] m=(d,m'):=Option.some.inj (show some _=some _ from e)
 intro p hp
 have q':Beh X.K ρ H (mkD mu [] [] m).1 (mkD mu [] [] m).2 Q:=by rw[e'];exact q
 exact q'.dct M (kvs:=[]) rfl rfl hp
theorem uJ:Snd2 X.K (fun x y m=>(ixD x y m).map fun d=>(d,m)) (rIx X.K):=by
 intro ρ m m' H dx dy d x y Q M ax ay e q
 obtain⟨d',e0,e'⟩:=Option.map_eq_some_iff.mp e
 clear e
 cases e'
 rename ixD dx dy m=some d=>e
 cases dy with
 | int i=>
  cases ay
  cases dx with
  | tup xs=>
   obtain⟨p,vs,rfl,h,as⟩:=ax
   obtain⟨v,e1,a1⟩:=as.atI (show atI xs i=some d from e)
   exact .inr (.inl ⟨p,vs,i,v,rfl,rfl,h.sq,e1,.of (q.here M a1)⟩)
  | lst xs=>
   obtain⟨p,vs,rfl,h,as⟩:=G8 M ax (show lstOf (.lst xs) m=some xs from rfl)
   obtain⟨v,e1,a1⟩:=as.atI (show atI xs i=some d from e)
   exact .inl ⟨p,vs,i,v,rfl,rfl,h,e1,.of (q.here M a1)⟩
  | scr ns=>
   obtain⟨p,vs,rfl,h,as⟩:=G8 M ax (show lstOf (.scr ns) m=some (ns.map .int) from rfl)
   obtain⟨n,e0,e0'⟩:=Option.map_eq_some_iff.mp (show (atI ns i).map D.int=some d from e)
   subst e0'
   have e2:atI (ns.map D.int) i=some (.int n):=by
    unfold atI at e0 ⊢
    obtain⟨j,e3,e4⟩:=Option.bind_eq_some_iff.mp e0
    rw[List.length_map,e3]
    show (ns.map D.int)[j]?=_
    rw[List.getElem?_map,e4];rfl
   obtain⟨v,e1,a1⟩:=as.atI e2
   exact .inl ⟨p,vs,i,v,rfl,rfl,h,e1,.of (q.here M a1)⟩
  | str z=>
   cases ax
   have e:(if z.length≤1000 then (atI z.cps.toList i).map fun c=>D.str ⟨#[c]⟩ else none)=some d:=e
   split at e
   ·rename_i hl
    obtain⟨c,e0,e0'⟩:=Option.map_eq_some_iff.mp e
    subst e0'
    exact .inr (.inr ⟨z,i,c,rfl,rfl,G4 (by lia),e0,.of (q.here M rfl)⟩)
   ·cases e
  | mref r=>
   have e:(match m[r]? with | some (.lst xs)=>atI xs i | _=>none)=some d:=e
   split at e
   ·rename_i xs hm
    obtain⟨p,vs,rfl,h,as⟩:=G8 M ax (show lstOf (.mref r) m=some xs by show (match m[r]? with | some (.lst xs)=>some xs | _=>none)=some xs;rw[hm])
    obtain⟨v,e1,a1⟩:=as.atI e
    exact .inl ⟨p,vs,i,v,rfl,rfl,h,e1,.of (q.here M a1)⟩
   ·cases e
  | _=>cases e
 | _=>cases dx<;>cases e
theorem CN(ha:PE X a (tD C X.K pa))(hb:PE X b (tD C X.K pb))(hs:PlainIx b:=by intro _ _;rfl):PE X (.Subscript a b pos) (tD C X.K (.ix pa pb)):=M7 (xX w6 ha hb hs) uJ fun _ _=>rfl
def rSlF(K:PySem.W.Frag):V→Option Int→Option Int→Hp→VK→Prop:=fun x lo hi H Q=>∃a xs,x=.ref a∧FzT K H a xs∧
 ((HT.sIx xs.length 0 lo=0∧HT.sIx xs.length xs.length hi=xs.length)→Q (.ref a) H)∧(¬(HT.sIx xs.length 0 lo=0∧HT.sIx xs.length xs.length hi=xs.length)→∀p o,H p=none→o.cls=.type "tuple"→o.dict=none→Q (.ref p) (upd H p (.frz o (.tup (cutV xs lo hi)))))
end
end WL
end
section
namespace WL
open PySem PySem.Spec PyProof.Rows L2
section
variable{C:String→List D→Mem→Option (D×Mem)}{X:Cx}{a b c:Expr}{pa pb pc:Ex}{p pos:Pos}{es:List Expr}{ps:Exs}{x:Str}{id:String}
def SndB(X:Cx)(k:B1)(r:List V→Hp→VK→Prop):Prop:=Snd1 X.K (b1D k) (fun x H Q=>r [x] H Q)
theorem S8{k:B1}{r:List V→Hp→VK→Prop}(hc:CallR X (.builtin id) r)(hs:SndB X k r)(hv:bootBuiltins x=some (.builtin id))(hg:Gl X x)(hm:X.mg x=none)(ha:PE X a (tD C X.K pa))(hn:x≠"__name__":=by decide)(hdb:(x==("__debug__" : Str))=false:=by decide)
  (he:starEach [a] X.env=[(false,eval a X.env)]:=by rfl):PE X (.Call (.Name x p) [a] [] pos) (tD C X.K (.b1 k pa)):=
 aN (r:=fun x H Q=>r [x] H Q) (R3 hc hg hm hv (FJ ha HD he) hn hdb he rfl) hs fun _ _=>rfl
theorem bW{k:B1}{r:List V→Hp→VK→Prop}(hc:CallR X (.type id) r)(hs:SndB X k r)(hv:bootBuiltins x=some (.type id))(hg:Gl X x)(hm:X.mg x=none)(ha:PE X a (tD C X.K pa))(hn:x≠"__name__":=by decide)(hdb:(x==("__debug__" : Str))=false:=by decide)
  (he:starEach [a] X.env=[(false,eval a X.env)]:=by rfl):PE X (.Call (.Name x p) [a] [] pos) (tD C X.K (.b1 k pa)):=
 aN (r:=fun x H Q=>r [x] H Q) (fL hc hg hm hv (FJ ha HD he) hn hdb he rfl) hs fun _ _=>rfl
theorem WQ{K:PySem.W.Frag}{ρ:List Addr}{H:Hp}{ks:List Key}{ds:List D}{kvs:List (Key×V)}(h:KAt K ρ H ks ds kvs):ks.length=kvs.length:=by rw[←h.1,List.length_map]
def rLen(K:PySem.W.Frag):List V→Hp→VK→Prop:=fun xs H Q=>(∃x n,xs=[x]∧LenV K x H n∧Q (.int n) H)∨∃a kvs,xs=[V.ref a]∧Rd H a (.dK kvs)∧Q (.int kvs.length) H
theorem gM:CallR X (.builtin "len") (rLen X.K):=by
 refine call_len.or ?_
 intro pins s σ H xs us Q I r h
 obtain⟨a,kvs,rfl,ha,q⟩:=h
 obtain⟨u,rfl,ru⟩:=vals1 r
 cases ru
 exact yU I ha fun t s' I'=>⟨.int kvs.length,H,I',⟨t,rfl⟩,q⟩
theorem oG:SndB X .len (rLen X.K):=by
 intro ρ m m' H dx d x Q M ax e q
 have gen:∀{dx:D},At X.K ρ H dx x→(match seqOf dx m,dctOf dx m with
  | some xs,_=>some (D.int xs.length,m)
  | none,some (ks,_)=>some (.int ks.length,m)
  | none,none=>none)=some (d,m')→rLen X.K [x] H (Fz Q):=fun {dx} ax e=>by
  split at e
  ·rename_i xs hs
   cases e
   obtain⟨p,vs,rfl,h,as⟩:=aJ M ax hs
   refine .inl ⟨_,vs.length,rfl,?_,.of (q.here M (by rw[as.len];rfl))⟩
   rcases h with h | h
   ·exact .inl ⟨vs,h,rfl⟩
   ·exact .inr ⟨vs,h,rfl⟩
  ·rename_i ks ds _ hs
   cases e
   obtain⟨p,kvs,rfl,h,ka⟩:=W4 M ax hs
   exact .inr ⟨p,kvs,rfl,h,.of (q.here M (by rw[WQ ka];rfl))⟩
  ·cases e
 cases dx with
 | str z=>
  cases ax
  have e:(if z.length≤1000 then some (D.int z.length,m) else none)=some (d,m'):=e
  split at e
  ·rename_i hl
   cases e
   exact .inl ⟨_,z.length,rfl,⟨G4 (by lia),rfl⟩,.of (q.here M rfl)⟩
  ·cases e
 | _=>exact gen ax e
theorem aO(hg:Gl X "len")(hm:X.mg "len" = none)(ha:PE X a (tD C X.K pa))(he:starEach [a] X.env=[(false,eval a X.env)]:=by rfl):PE X (.Call (.Name "len" p) [a] [] pos) (tD C X.K (.b1 .len pa)):=S8 gM oG PySem.boot_len hg hm ha (by decide) (by decide) he
theorem iT{mu:Bool}:SndB X (.list mu) (fun xs H Q=>∃p ys,xs=[.ref p]∧(SqL X.K H p ys∨SqT X.K H p ys)∧∀l,H l=none→Q (.ref l) (upd H l (.lst ys))):=by
 intro ρ m m' H dx d x Q M ax e q
 obtain⟨xs,e1,e⟩:=Option.map_eq_some_iff.mp (show (seqOf dx m).map (fun xs=>mkL mu xs m)=some (d,m') from e)
 obtain⟨p,vs,rfl,h,as⟩:=aJ M ax e1
 have q':Beh X.K ρ H (mkL mu xs m).1 (mkL mu xs m).2 Q:=by rw[e];exact q
 exact⟨p,vs,rfl,h,fun l hl=>q'.lst M as hl⟩
theorem p8{mu:Bool}(hg:Gl X "list")(hm:X.mg "list" = none)(ha:PE X a (tD C X.K pa))(he:starEach [a] X.env=[(false,eval a X.env)]:=by rfl):PE X (.Call (.Name "list" p) [a] [] pos) (tD C X.K (.b1 (.list mu) pa)):=bW WM iT PyProof.Rows.boot_list hg hm ha (by decide) (by decide) he
def rTuple(K:PySem.W.Frag):List V→Hp→VK→Prop:=fun xs H Q=>(∃p ys,xs=[.ref p]∧SqL K H p ys∧∀l o,H l=none→o.cls=.type "tuple"→o.dict=none→Q (.ref l) (upd H l (.frz o (.tup ys))))∨∃a ys,xs=[.ref a]∧SqT K H a ys∧Q (.ref a) H
theorem Z7:CallR X (.type "tuple") (rTuple X.K):=call_tupleF.or Z8
theorem f9:SndB X .tuple (rTuple X.K):=by
 intro ρ m m' H dx d x Q M ax e q
 have gen:∀{dx:D},At X.K ρ H dx x→((lstOf dx m).map fun xs=>(D.tup xs,m))=some (d,m')→rTuple X.K [x] H (Fz Q):=fun {dx} ax e=>by
  obtain⟨xs,e1,e⟩:=Option.map_eq_some_iff.mp e
  cases e
  obtain⟨p,vs,rfl,h,as⟩:=G8 M ax e1
  exact .inl ⟨p,vs,rfl,h,fun l o hl hc hd=>.of (q.tup M as hl hc hd)⟩
 cases dx with
 | tup xs=>
  cases e
  obtain⟨p,vs,rfl,h,as⟩:=ax
  exact .inr ⟨p,vs,rfl,h.sq,.of (q.here M ⟨p,vs,rfl,h,as⟩)⟩
 | _=>exact gen ax e
theorem HB(hg:Gl X "tuple")(hm:X.mg "tuple" = none)(ha:PE X a (tD C X.K pa))(he:starEach [a] X.env=[(false,eval a X.env)]:=by rfl):PE X (.Call (.Name "tuple" p) [a] [] pos) (tD C X.K (.b1 .tuple pa)):=bW Z7 f9 PyProof.Rows.boot_tuple hg hm ha (by decide) (by decide) he
theorem oH:SndB X .int (fun xs H Q=>(∃i,xs=[.int i]∧Q (.int i) H)∨∃k,xs=[.bl k]∧Q (.int (if k then 1 else 0)) H):=by
 intro ρ m m' H dx d x Q M ax e q
 cases dx with
 | int i=>cases e;cases ax;exact .inl ⟨i,rfl,.of (q.here M rfl)⟩
 | bl k=>cases e;cases ax;exact .inr ⟨k,rfl,.of (q.here M (by cases k<;>rfl))⟩
 | _=>cases e
theorem pC(hg:Gl X "int")(hm:X.mg "int" = none)(ha:PE X a (tD C X.K pa))(he:starEach [a] X.env=[(false,eval a X.env)]:=by rfl):PE X (.Call (.Name "int" p) [a] [] pos) (tD C X.K (.b1 .int pa)):=bW gO oH PyProof.Rows.boot_int hg hm ha (by decide) (by decide) he
theorem ZJ{K:PySem.W.Frag}{ρ:List Addr}{H:Hp}:∀{ds:List D} {vs:List V} {ns:List Int},intsOf ds=some ns→Ats K ρ H ds vs→vs=ns.map V.int∧ds.length=ns.length
 | [],_,_,e,a=>by cases e;cases (show _=[] from a);exact⟨rfl,rfl⟩
 | d::r,_,_,e,hq1=>by
  obtain⟨v,vr,ev,a1,as⟩:=hq1
  subst ev
  cases d with
  | int i=>
   obtain⟨ns',e1,rfl⟩:=Option.map_eq_some_iff.mp (show (intsOf r).map (i::·)=some _ from e)
   cases a1
   obtain⟨h1,h2⟩:=ZJ e1 as
   exact⟨by rw[h1];rfl,by simp[h2]⟩
  | _=>cases e
theorem rB{ns:List Int}{x:Int}(h:maxL ns=some x){y:Int}(hy:y∈ns)(hm:∀a∈ns,a≤y):y=x:=by
 have fold:∀(r:List Int) (a:Int),(r.foldl (fun x y=>if y > x then y else x) a∈a::r)∧∀z∈a::r,z≤r.foldl (fun x y=>if y > x then y else x) a:=by
  intro r
  induction r with
  | nil=>intro a;exact⟨by simp,fun z hz=>by simp at hz;subst hz;exact Int.le_refl _⟩
  | cons b r ih=>
   intro a
   rw[List.foldl_cons]
   obtain⟨h1,h2⟩:=ih (if b > a then b else a)
   refine⟨?_,fun z hz=>?_⟩
   ·rcases List.mem_cons.mp h1 with h1 | h1
    ·rw[h1];split<;>simp
    ·exact List.mem_cons_of_mem _ (List.mem_cons_of_mem _ h1)
   ·have h3:=h2 _ List.mem_cons_self
    rcases List.mem_cons.mp hz with rfl | hz
    ·refine Int.le_trans ?_ h3;split<;>lia
    ·rcases List.mem_cons.mp hz with rfl | hz
     ·refine Int.le_trans ?_ h3;split<;>lia
     ·exact h2 z (List.mem_cons_of_mem _ hz)
 cases ns with
 | nil=>cases h
 | cons a r=>
  have e:r.foldl (fun x y=>if y > x then y else x) a=x:=Option.some.inj h
  obtain⟨h1,h2⟩:=fold r a
  rw[e]at h1 h2
  have:=h2 y hy
  have:=hm x h1
  lia
theorem oF:SndB X .max (fun xs H Q=>∃(a:Addr) (ns:List Int),xs=[.ref a]∧SqL X.K H a (ns.map V.int)∧0<ns.length∧∀M,M∈ns→(∀a,a∈ns→a≤M)→Q (.int M) H):=by
 intro ρ m m' H dx d x Q M ax e q
 obtain⟨xs,e1,e⟩:=Option.bind_eq_some_iff.mp (show ((lstOf dx m).bind fun xs=>(intsOf xs).bind fun ns=>(maxL ns).map fun x=>(D.int x,m))=some (d,m') from e)
 obtain⟨ns,e2,e⟩:=Option.bind_eq_some_iff.mp e
 obtain⟨y,e3,e⟩:=Option.map_eq_some_iff.mp e
 cases e
 obtain⟨p,vs,rfl,h,as⟩:=G8 M ax e1
 obtain⟨rfl,_⟩:=ZJ e2 as
 refine⟨p,ns,rfl,h,?_,fun z hz hm=>.of (q.here M (by rw[rB e3 hz hm];rfl))⟩
 cases ns with
 | nil=>cases e3
 | cons _ _=>exact Nat.succ_pos _
theorem uO(hc:X.calm=true)(hg:Gl X "max")(hm:X.mg "max" = none)(ha:PE X a (tD C X.K pa))(he:starEach [a] X.env=[(false,eval a X.env)]:=by rfl):PE X (.Call (.Name "max" p) [a] [] pos) (tD C X.K (.b1 .max pa)):=S8 (RV hc) oF PyProof.Rows.boot_max hg hm ha (by decide) (by decide) he
theorem oZ(hc:X.calm=true)(hg:Gl X "max")(hm:X.mg "max" = none)(ha:PE X a (tD C X.K pa))(hb:PE X b (tD C X.K pb))(he:starEach [a,b] X.env=[(false,eval a X.env),(false,eval b X.env)]:=by rfl)(he1:starEach [b] X.env=[(false,eval b X.env)]:=by rfl):
  PE X (.Call (.Name "max" p) [a,b] [] pos) (tD C X.K (.max2 pa pb)):=
 M7 (r:=fun x y H Q=>∃i j,[x,y]=[.int i,.int j]∧Q (.int (if j > i then j else i)) H) (f:=fun x y m2=>match x,y with | .int i,.int j=>some (.int (if j > i then j else i),m2) | _,_=>none)
  (R3 (gK hc) hg hm PyProof.Rows.boot_max (FJ ha (FJ hb HD he1) (by rw[he,he1])) (by decide) (by decide) (by rw[he,he1]) (by rw[he1];rfl)) (by
  intro ρ m m' H dx dy d x y Q M ax ay e q
  cases dx<;>cases dy<;>simp only at e<;>try (cases e;done)
  cases e
  cases ax;cases ay
  exact⟨_,_,rfl,.of (q.here M rfl)⟩) fun _ _=>rfl
theorem K4{K:PySem.W.Frag}{ρ:List Addr}{H:Hp}:∀{ds:List D} {vs:List V} {ks:List Key} {us:List D},pairsOf ds=some (ks,us)→Ats K ρ H ds vs→∃kvs,PrsV K H vs kvs∧KAt K ρ H ks us kvs
 | [],_,_,_,e,a=>by
  cases e
  cases (show _=[] from a)
  exact⟨[],.nil,KAt.nil⟩
 | d::r,_,ks,us,e,hq1=>by
  obtain⟨v,vr,ev,a1,as⟩:=hq1
  subst ev
  unfold pairsOf at e
  split at e
  ·rename_i hd;cases hd
  ·rename_i k u r' hd
   cases hd
   split at e
   ·rename_i k' ks' vs' hk hr
    cases e
    obtain⟨kvs,h1,h2⟩:=K4 hr as
    obtain⟨p,ws,rfl,ht,aw⟩:=a1
    obtain⟨x,xr,rfl,ax,y,yr,rfl,ay,hn⟩:=aw
    cases (show _=[] from hn)
    refine⟨(k',y)::kvs,.cons ⟨p,rfl,?_⟩ h1,by rw[List.map_cons,h2.1],by rw[List.map_cons];exact⟨y,_,rfl,ay,h2.2⟩⟩
    have:=bH ax hk
    subst this
    exact ht.sq
   ·cases e
  ·cases e
theorem iU{mu:Bool}:SndB X (.dict mu) (fun xs H Q=>∃a o vs kvs,xs=[.ref a]∧(H a=some (.frz o (.tup vs))∨(X.K.lookup a=some o∧∃(its:Array Value) (n:Nat),o.data=.seq its n∧its.size≤sizeLine∧Vals vs its.toList))∧o.cls=.type "tuple"∧o.dict=none∧PrsV X.K H vs kvs∧kvs.length≤1000∧∀p,H p=none→Q (.ref p) (upd H p (.dK (mergeK [] kvs)))):=by
 intro ρ m m' H dx d x Q M ax e q
 cases dx with
 | tup xs=>
  obtain⟨⟨ks,us⟩,e1,e⟩:=Option.bind_eq_some_iff.mp (show ((pairsOf xs).bind fun z=>if z.1.length≤1000 then some (mkD mu (putsD [] [] z.1 z.2).1 (putsD [] [] z.1 z.2).2 m) else none)=some (d,m') from e)
  split at e
  ·rename_i hl
   have e':=Option.some.inj e
   obtain⟨p,vs,rfl,⟨o,hc,hd,ht⟩,as⟩:=ax
   obtain⟨kvs,h1,h2⟩:=K4 e1 as
   have q':Beh X.K ρ H (mkD mu (putsD [] [] ks us).1 (putsD [] [] ks us).2 m).1 (mkD mu (putsD [] [] ks us).1 (putsD [] [] ks us).2 m).2 Q:=by rw[e'];exact q
   have h3:=KAt.puts (KAt.nil (K:=X.K) (ρ:=ρ) (H:=H)) h2
   exact⟨p,o,vs,kvs,rfl,ht,hc,hd,h1,by rw[←WQ h2];exact hl,fun l hl=>q'.dct M h3.1 h3.2 hl⟩
  ·cases e
 | _=>cases e
theorem bC(hc:X.calm=true):CallR X (.type "dict") (fun xs H Q=>∃a o vs kvs,xs=[.ref a]∧(H a=some (.frz o (.tup vs))∨(X.K.lookup a=some o∧∃(its:Array Value) (n:Nat),o.data=.seq its n∧its.size≤sizeLine∧Vals vs its.toList))∧o.cls=.type "tuple"∧o.dict=none∧PrsV X.K H vs kvs∧kvs.length≤1000∧∀p,H p=none→Q (.ref p) (upd H p (.dK (mergeK [] kvs)))):=by
 intro pins s σ H xs us Q I r h
 obtain⟨a,o,vs,kvs,rfl,ha,hcl,hd,hp,hz,q⟩:=h
 obtain⟨u,rfl,ru⟩:=vals1 r
 cases ru
 have key:∃(its:List Value) (m:Nat),s.heap.get? a=some o∧Vals vs its∧o.data=.seq its.toArray m:=by
  rcases ha with ha | ⟨hk,its,n,hdat,_,rv⟩
  ·obtain⟨e,z,its,rv,o',e',c',m,hdat⟩:=I.hok a _ ha
   rw[e]at e'
   cases e'
   exact⟨its,m,e,rv,hdat⟩
  ·exact⟨its.toList,n,I.kIn a o hk,rv,by simpa using hdat⟩
 obtain⟨its,m,e,rv,hdat⟩:=key
 obtain⟨ps,hkv,hpa⟩:=vC I hp rv
 have hl:its.length=kvs.length:=by rw[←rv.length];exact Paired.length hp
 refine sO (I.ok.hd hc) e hcl hd hdat hpa (by lia) I.big fun h' tk hD hk=>?_
 have I2:Inv X pins σ (upd H s.heap.objs.size (.dK (mergeK [] kvs))) { s with heap:=h',toks:=tk }:=I.laid (fun b ob e=>hk b ob e) (Nat.le_refl _) ?_
 ·exact⟨.ref _,_,I2,rfl,q _ (I.hok.fresh (Nat.le_refl _))⟩
 ·refine m8 ?_ ?_ (YH kvs (P:=X.prog) (w:=X.w) hkv .nil) hD
  ·have:=LK kvs []
   simp only[List.length_nil]at this
   rw[sizeLine_eq]
   lia
  ·have:=I.big
   simp only[beq_eq_false_iff_ne]
   exact Nat.ne_of_gt this
theorem V0{mu:Bool}(hc:X.calm=true)(hg:Gl X "dict")(hm:X.mg "dict" = none)(ha:PE X a (tD C X.K pa))(he:starEach [a] X.env=[(false,eval a X.env)]:=by rfl):PE X (.Call (.Name "dict" p) [a] [] pos) (tD C X.K (.b1 (.dict mu) pa)):=bW (bC hc) iU PyProof.Rows.boot_dict hg hm ha (by decide) (by decide) he
end
end WL
end
section
namespace WL
open PySem PySem.Spec PyProof.Rows L2
section
variable{X:Cx}{x:Str}{pos:Pos}
theorem G5(i:Nat)(hN:X.N.Nodup)(hi:X.N[i]?=some x)(hx:Loc X.env.scope x)(hf:X.fn x=true∨X.env.scope.names.lookup x=some .local:=by first | exact .inl rfl | exact .inr rfl | assumption):PG X (.Name x pos) (tDG X.K (.nm i)):=by
 intro pins s σ H v u Q I r h
 obtain⟨σd,ρ,d,σd',S,a,e,q⟩:=h
 cases e
 exact pY hN hi hx hf pins s σ H v u Q I r (q _ (S.set i a))
theorem _root_.L2.PG.imp{tg:Expr}{t t':TG}(h:PG X tg t)(hi:∀v σ H Q,t' v σ H Q→t v σ H Q):PG X tg t':=fun pins s σ H v u Q I r q=>h pins s σ H v u Q I r (hi v σ H Q q)
end
theorem bY{ρ:List Addr}{H H':Hp}(h:Same H H'):Go ρ ρ H H':=⟨fun b o e _=>h b o e,List.prefix_rfl,fun _ e=>.inl e⟩
theorem MemAt.same{K:PySem.W.Frag}{ρ:List Addr}{m:Mem}{H H':Hp}(M:MemAt K ρ m H)(h:Same H H'):MemAt K ρ m H':=M.keep (fun a o u e=>h a _ e) fun a ha=>by
 obtain⟨u,e,_⟩:=M.there ha
 rw[e,h a u e]
def WalkAt(K:PySem.W.Frag)(w:Walk)(J:It)(ρ:List Addr)(H:Hp):Prop:=∀(i:Nat) (ρ':List Addr) (m':Mem) (H':Hp),FzSub H H'→RSub ρ ρ'→MemAt K ρ' m' H'→w.ok m'=true→
 (∀d,w.xs[i]?=some d→J.go i H'∧∀x H2,J.yld i H' x H2→Same H' H2∧At K ρ' H2 d x)∧(w.xs.length≤i→J.stop i H')
noncomputable def tDI(C:String→List D→Mem→Option (D×Mem))(K:PySem.W.Frag)(p:Ie):TI:=fun σ H R=>∃σd m ρ w m',StAt K ρ H σd σ∧MemAt K ρ m H∧ei C p σd m=some (w,m')∧∀J H' ρ',Go ρ ρ' H H'→MemAt K ρ' m' H'→WalkAt K w J ρ' H'→R J H'
section
variable{C:String→List D→Mem→Option (D×Mem)}{X:Cx}{tg a b:Expr}{pa pb:Ex}{p pos:Pos}
theorem _root_.L2.PI.imp{wi wi':TI}(h:PI X tg a wi)(hi:∀σ H R,wi' σ H R→wi σ H R):PI X tg a wi':=fun pins s σ H R I q=>h pins s σ H R I (hi σ H R q)
noncomputable def iSeq(K:PySem.W.Frag)(tl:TE):TI:=fun σ H R=>tl σ H fun x H1=>∃a,x=.ref a∧(((∃xs,SqL K H1 a xs)∧R (Itl K a) H1)∨((∃xs,SqT K H1 a xs)∧R (Itt K a) H1))
theorem vD{l:Expr}{tl:TE}(hl:PE X l tl):PI X tg l (iSeq X.K tl):=by
 intro pins s σ H R I h
 refine thn (hl pins s σ H _ I h) fun v s1 hq0=>?_
 obtain⟨x,H1,I1,r1,q1⟩:=hq0
 obtain⟨a,e,q1⟩:=q1
 subst e
 cases r1
 have fin:∀b∈[s1.heap.objs.size],FpOk X pins H1 b:=fun b hb=>by
  have e:b=s1.heap.objs.size:=by simpa using hb
  subst e
  exact I1.fpOk (Nat.le_refl _) (I1.hok.fresh (Nat.le_refl _))
 rcases q1 with ⟨⟨xs,hq⟩,q⟩ | ⟨⟨xs,hq⟩,q⟩
 ·obtain⟨its,rv,p,hz⟩:=I1.list hq
  refine wpAny_pyIter_list p.isList ?_
  exact⟨s1.heap.objs.size,[s1.heap.objs.size],_,_,H1,rfl,I1.kept (t':=s1.toks) fun b o e=>Heap.get?_push_of_some _ e,eO a _,⟨_,Heap.get?_push_size _ rfl,rfl,rfl⟩,fin,q⟩
 ·obtain⟨its,rv,p,hz⟩:=I1.tuple hq
  refine wpAny_pyIter_tuple (show s1.heap.IsTuple a its.toArray from p) ?_
  exact⟨s1.heap.objs.size,[s1.heap.objs.size],_,_,H1,rfl,I1.kept (t':=s1.toks) fun b o e=>Heap.get?_push_of_some _ e,ZR a _,⟨_,Heap.get?_push_size _ rfl,rfl,rfl⟩,fin,q⟩
theorem ZP{K:PySem.W.Frag}{w:Walk}{ρ:List Addr}{H:Hp}{a:Addr}(h:∀ρ' m' H',FzSub H H'→RSub ρ ρ'→MemAt K ρ' m' H'→w.ok m'=true→∃vs,SqL K H' a vs∧Ats K ρ' H' w.xs vs):WalkAt K w (Itl K a) ρ H:=by
 intro i ρ' m' H' hf hr M ok
 obtain⟨vs,hs,as⟩:=h ρ' m' H' hf hr M ok
 refine⟨fun d e=>?_,fun hl=>⟨vs,hs,by rw[as.len];exact hl⟩⟩
 obtain⟨v,e1,a1⟩:=as.get e
 refine⟨⟨vs,v,hs,e1⟩,fun x H2 y=>?_⟩
 obtain⟨rfl,y⟩:=y
 have:=y vs hs
 rw[e1]at this
 cases this
 exact⟨.refl _,a1⟩
theorem u6{K:PySem.W.Frag}{w:Walk}{ρ:List Addr}{H:Hp}{a:Addr}(h:∀ρ' m' H',FzSub H H'→RSub ρ ρ'→MemAt K ρ' m' H'→w.ok m'=true→∃vs,SqT K H' a vs∧Ats K ρ' H' w.xs vs):WalkAt K w (Itt K a) ρ H:=by
 intro i ρ' m' H' hf hr M ok
 obtain⟨vs,hs,as⟩:=h ρ' m' H' hf hr M ok
 refine⟨fun d e=>?_,fun hl=>⟨vs,hs,by rw[as.len];exact hl⟩⟩
 obtain⟨v,e1,a1⟩:=as.get e
 refine⟨⟨vs,v,hs,e1⟩,fun x H2 y=>?_⟩
 obtain⟨rfl,y⟩:=y
 have:=y vs hs
 rw[e1]at this
 cases this
 exact⟨.refl _,a1⟩
theorem GZ(ha:PE X a (tD C X.K pa)):PI X tg a (tDI C X.K (.seq pa)):=(vD ha).imp fun σ H R hq0=>by
 obtain⟨σd,m,ρ,w,m',S,M,e,q⟩:=hq0
 obtain⟨⟨x,m1⟩,e1,e⟩:=Option.bind_eq_some_iff.mp e
 obtain⟨xs,e2,e⟩:=Option.map_eq_some_iff.mp e
 cases e
 refine⟨σd,m,ρ,x,m',S,M,e1,fun v H1 ρ1 g1 M1 A1=>?_⟩
 cases x with
 | tup ys=>
  cases e2
  obtain⟨p,vs,rfl,h,as⟩:=A1
  exact⟨p,rfl,.inr ⟨⟨vs,h.sq⟩,q _ H1 ρ1 g1 M1 (u6 fun ρ' m'' H' hf hr M' _=>⟨vs,(h.mono hf).sq,as.mono' hf hr⟩)⟩⟩
 | lst ys=>
  cases e2
  obtain⟨p,o,vs,rfl,h,as⟩:=A1
  exact⟨p,rfl,.inl ⟨⟨vs,.inl (.inr ⟨o,h⟩)⟩,q _ H1 ρ1 g1 M1 (ZP fun ρ' m'' H' hf hr M' _=>⟨vs,.inl (.inr ⟨o,hf _ _ _ h⟩),as.mono' hf hr⟩)⟩⟩
 | scr ns=>
  cases e2
  obtain⟨p,rfl,h⟩:=A1
  exact⟨p,rfl,.inl ⟨⟨_,h.sq⟩,q _ H1 ρ1 g1 M1 (ZP fun ρ' m'' H' hf hr M' _=>⟨_,(h.mono hf).sq,.ints ns⟩)⟩⟩
 | mref i=>
  obtain⟨p,vs,e,h,as⟩:=G8 M1 A1 (show lstOf (.mref i) m'=some xs from e2)
  subst e
  obtain⟨p',hi,e⟩:=A1
  cases e
  refine⟨p,rfl,.inl ⟨⟨vs,h⟩,q _ H1 ρ1 g1 M1 (ZP fun ρ' m'' H' hf hr M' ok=>?_)⟩⟩
  have ok:(match m''[i]? with | some (.lst ys)=>D.beqs xs ys | _=>false)=true:=ok
  split at ok
  ·rename_i ys hm
   have:=D.eqs_of_beq ok
   subst this
   obtain⟨us,hu,bs⟩:=M'.at' i p _ (hr _ _ hi) hm
   exact⟨us,.of hu,bs.mono' (fun _ _ _ z=>z) (.take ρ' i)⟩
  ·cases ok
 | _=>cases e2
theorem QW(hg:Gl X "range")(hm:X.mg "range" = none)(ha:PE X a (tD C X.K pa))(hs:starEach [a] X.env=[(false,eval a X.env)]:=by rfl):PI X tg (.Call (.Name "range" p) [a] [] pos) (tDI C X.K (.rng pa)):=
 (fJ hg hm (FJ ha HD hs) hs).imp fun σ H R hq0=>by
 obtain⟨σd,m,ρ,w,m',S,M,e,q⟩:=hq0
 obtain⟨⟨x,m1⟩,e1,e⟩:=Option.bind_eq_some_iff.mp e
 cases x with
 | int j=>
  have e:(if -(2 ^ 62)≤j∧j<2 ^ 62 then some ((⟨(List.range j.toNat).map fun(i:Nat)=>.int i,none⟩:Walk),m1) else none)=some (w,m'):=e
  split at e
  ·rename_i hj
   cases e
   refine⟨σd,m,ρ,_,m',S,M,e1,fun v H1 ρ1 g1 M1 A1=>?_⟩
   cases A1
   refine⟨j,rfl,hj.1,hj.2,q _ H1 ρ1 g1 M1 fun i ρ' m'' H' hf hr M' ok=>⟨fun d e=>?_,fun hl=>?_⟩⟩
   ·have hi:i<j.toNat:=by
     have:=(List.getElem?_eq_some_iff.mp e).1
     simpa using this
    have ed:d=.int i:=by
     have:((List.range j.toNat).map fun(i:Nat)=>D.int i)[i]?=some d:=e
     rw[List.getElem?_map,List.getElem?_range hi]at this
     exact(Option.some.inj this).symm
    subst ed
    refine⟨hi,fun x H2 y=>?_⟩
    obtain⟨rfl,rfl⟩:=y
    exact⟨.refl _,by rw[Int.zero_add];rfl⟩
   ·show j.toNat≤i
    simpa using hl
  ·cases e
 | _=>cases e
theorem oU(hg:Gl X "range")(hm:X.mg "range" = none)(ha:PE X a (tD C X.K pa))(hb:PE X b (tD C X.K pb))(hs:starEach [a,b] X.env=[(false,eval a X.env),(false,eval b X.env)]:=by rfl)(hs2:starEach [b] X.env=[(false,eval b X.env)]:=by rfl):
  PI X tg (.Call (.Name "range" p) [a,b] [] pos) (tDI C X.K (.rng2 pa pb)):=
 (fH hg hm (FJ ha (FJ hb HD hs2) (by rw[hs,hs2])) hs hs2).imp fun σ H R hq0=>by
 obtain⟨σd,m,ρ,w,m',S,M,e,q⟩:=hq0
 obtain⟨⟨x,m1⟩,e1,e⟩:=Option.bind_eq_some_iff.mp e
 obtain⟨⟨y,m2⟩,e2,e⟩:=Option.bind_eq_some_iff.mp e
 cases x with
 | int k=>
  cases y with
  | int j=>
   have e:(if -(2 ^ 62)≤k∧k<2 ^ 62∧-(2 ^ 62)≤j∧j<2 ^ 62 then some ((⟨(List.range (j-k).toNat).map fun(n:Nat)=>.int (k+n),none⟩:Walk),m2) else none)=some (w,m'):=e
   split at e
   ·rename_i hj
    cases e
    refine⟨σd,m,ρ,_,m1,S,M,e1,fun v H1 ρ1 g1 M1 A1=>⟨σd,m1,ρ1,_,m',S.mono M g1,M1,e2,fun u H2 ρ2 g2 M2 A2=>?_⟩⟩
    cases A1;cases A2
    refine⟨k,j,rfl,hj,q _ H2 ρ2 (g1.trans g2) M2 fun i ρ' m'' H' hf hr M' ok=>⟨fun d e=>?_,fun hl=>?_⟩⟩
    ·have hi:i<(j-k).toNat:=by
      have:=(List.getElem?_eq_some_iff.mp e).1
      simpa using this
     have ed:d=.int (k+i):=by
      have:((List.range (j-k).toNat).map fun(i:Nat)=>D.int (k+i))[i]?=some d:=e
      rw[List.getElem?_map,List.getElem?_range hi]at this
      exact(Option.some.inj this).symm
     subst ed
     refine⟨hi,fun x H2 y=>?_⟩
     obtain⟨rfl,rfl⟩:=y
     exact⟨.refl _,rfl⟩
    ·show (j-k).toNat≤i
     simpa using hl
   ·cases e
  | _=>cases e
 | _=>cases e
theorem T8:∀(xs:List D) (n i:Nat),(enumD xs n)[i]?=(xs[i]?).map fun d=>.tup [.int ((n+i:Nat):Int),d]
 | [],n,i=>by simp[enumD]
 | x::r,n,0=>by simp[enumD]
 | x::r,n,i+1=>by
  simp only[enumD,List.getElem?_cons_succ]
  rw[T8 r (n+1) i,show n+1+i=n+(i+1) by lia]
theorem T7:∀(xs:List D) (n:Nat),(enumD xs n).length=xs.length
 | [],_=>rfl
 | _::r,n=>by simp[enumD,T7 r (n+1)]
theorem oW{elts:List Expr}{k:Nat}{pt:Pos}(hg:Gl X "enumerate")(hm:X.mg "enumerate" = none)(ha:PE X a (tD C X.K pa))(hs:starEach [a] X.env=[(false,eval a X.env)]:=by rfl):PI X (.Tuple elts k pt) (.Call (.Name "enumerate" p) [a] [] pos) (tDI C X.K (.enum pa)):=
 (pW hg hm (FJ ha HD hs) hs).imp fun σ H R hq0=>by
 obtain⟨σd,m,ρ,w,m',S,M,e,q⟩:=hq0
 obtain⟨⟨x,m1⟩,e1,e⟩:=Option.bind_eq_some_iff.mp e
 cases x with
 | lst xs=>
  cases e
  refine⟨σd,m,ρ,_,m',S,M,e1,fun v H1 ρ1 g1 M1 A1=>?_⟩
  obtain⟨p,o,vs,rfl,h,as⟩:=A1
  refine⟨p,rfl,⟨vs,.inl (.inr ⟨o,h⟩)⟩,q _ H1 ρ1 g1 M1 fun i ρ' m'' H' hf hr M' ok=>?_⟩
  have h':SqL X.K H' p vs:=.inl (.inr ⟨o,hf _ _ _ h⟩)
  have as':=as.mono' (ρ':=ρ') hf hr
  refine⟨fun d e=>?_,fun hl=>⟨vs,h',by rw[as.len];rw[T7]at hl;exact hl⟩⟩
  have e:(enumD xs 0)[i]?=some d:=e
  rw[T8]at e
  obtain⟨d',e',rfl⟩:=Option.map_eq_some_iff.mp e
  obtain⟨v,e3,a3⟩:=as'.get e'
  refine⟨⟨vs,v,h',e3⟩,fun x H2 y=>?_⟩
  obtain⟨l,y,hl,rfl,⟨ob,hc,hd,rfl⟩,hy⟩:=y
  have:=hy vs h'
  rw[e3]at this
  cases this
  have hsm:Same H' (upd H' l (.frz ob (.tup [.int i,v]))):=fun b u z=>by rw[CJ (DR z hl)];exact z
  have hfz:FzSub H' (upd H' l (.frz ob (.tup [.int i,v]))):=ZQ hl
  exact⟨hsm,l,_,rfl,⟨ob,hc,hd,.inl CV⟩,_,_,rfl,by rw[Nat.zero_add];rfl,_,_,rfl,a3.mono' hfz (.refl _),rfl⟩
 | _=>cases e
end
section
variable{C:String→List D→Mem→Option (D×Mem)}{W:Nat}{X:Cx}{a b c o i v:Expr}{pa pb pc pd pk pv:Ex}{p pos pos':Pos}{st:Stmt}{rest:List Stmt}{s:Sm}{r:Sms}
theorem CG:PSs X [] (tDSs C W X.K .nil):=(pL (X:=X)).imp fun E σ H hq0=>by
 obtain⟨σd,m,ρ,o,m',S,M,e,q⟩:=hq0
 cases e
 exact q H ρ (.refl _ _) M σ S
theorem n8{K:PySem.W.Frag}{ρ:List Addr}{H:Hp}{σd1:DS}{o:Out}{m1 m':Mem}{E:Ends}{r:Sms}(e:exs C W r σd1 m1=some (o,m'))(q:Beo K ρ H o m' E):Beo K ρ H (.nx σd1) m1 { E with nx:=fun σ' H'=>tDSs C W K r E σ' H' }:=fun H1 ρ1 g1 M1 σ1 S1=>⟨σd1,m1,ρ1,o,m',S1,M1,e,fun H2 ρ2 g2 M2=>q H2 ρ2 (g1.trans g2) M2⟩
theorem BL(h1:PS X st (tDS C W X.K s))(h2:PSs X rest (tDSs C W X.K r)):PSs X (st::rest) (tDSs C W X.K (.cons s r)):=(j8 h1 h2).imp fun E σ H hq0=>by
 obtain⟨σd,m,ρ,o,m',S,M,e,q⟩:=hq0
 obtain⟨⟨o1,m1⟩,e1,e⟩:=Option.bind_eq_some_iff.mp e
 refine⟨σd,m,ρ,o1,m1,S,M,e1,?_⟩
 cases o1 with
 | nx σ1=>exact n8 e q
 | rt d=>
  cases e
  exact q
theorem CT(i:Nat){x:Str}(hN:X.N.Nodup)(hi:X.N[i]?=some x)(hx:Loc X.env.scope x)(he:PE X a (tD C X.K pa))(hs:swapsWith a (some (.Name x pos')) pos.line X.env=pure false:=by rfl)(hf:X.fn x=true∨X.env.scope.names.lookup x=some .local:=by first | exact .inl rfl | exact .inr rfl | assumption):
  PS X (.Assign [.Name x pos'] a pos) (tDS C W X.K (.set i pa)):=(v8 hN hi hx he hs hf).imp fun E σ H hq0=>by
 obtain⟨σd,m,ρ,o,m',S,M,e,q⟩:=hq0
 obtain⟨⟨d,m1⟩,e1,e⟩:=Option.map_eq_some_iff.mp e
 cases e
 exact⟨σd,m,ρ,d,m',S,M,e1,fun v H1 ρ1 g1 M1 A1=>q H1 ρ1 g1 M1 _ ((S.mono M g1).set i A1)⟩
theorem GC(he:PE X a (tD C X.K pa))(hs:swapsWith a none pos.line X.env=pure false:=by rfl):PS X (.Expr a pos) (tDS C W X.K (.drop pa)):=(pP he hs).imp fun E σ H hq0=>by
 obtain⟨σd,m,ρ,o,m',S,M,e,q⟩:=hq0
 obtain⟨⟨d,m1⟩,e1,e⟩:=Option.map_eq_some_iff.mp e
 cases e
 exact⟨σd,m,ρ,d,m',S,M,e1,fun v H1 ρ1 g1 M1 A1=>q H1 ρ1 g1 M1 _ (S.mono M g1)⟩
theorem CZ(he:PE X a (tD C X.K pa)):PS X (.Return (some a) pos) (tDS C W X.K (.ret pa)):=(v9 he).imp fun E σ H hq0=>by
 obtain⟨σd,m,ρ,o,m',S,M,e,q⟩:=hq0
 obtain⟨⟨d,m1⟩,e1,e⟩:=Option.map_eq_some_iff.mp e
 cases e
 exact⟨σd,m,ρ,d,m',S,M,e1,fun v H1 ρ1 g1 M1 A1=>q H1 ρ1 g1 M1 _ A1⟩
variable{t:Te}{ba bb:List Stmt}{ra rb:Sms}
theorem FQ(hc:PT X c (tDT C X.K t))(ha:PSs X ba (tDSs C W X.K ra))(hb:PSs X bb (tDSs C W X.K rb)):PS X (.If c ba bb pos) (tDS C W X.K (.ite t ra rb)):=(xV hc ha hb).imp fun E σ H hq0=>by
 obtain⟨σd,m,ρ,o,m',S,M,e,q⟩:=hq0
 obtain⟨⟨k,m1⟩,e1,e⟩:=Option.bind_eq_some_iff.mp e
 refine⟨σd,m,ρ,k,m1,S,M,e1,fun H1 ρ1 g1 M1=>?_⟩
 cases k with
 | true=>
  try dsimp only at e
  rw[if_pos rfl]at e ⊢
  exact⟨σd,m1,ρ1,o,m',S.mono M g1,M1,e,fun H2 ρ2 g2 M2=>q H2 ρ2 (g1.trans g2) M2⟩
 | false=>
  try dsimp only at e
  rw[if_neg Bool.false_ne_true]at e ⊢
  exact⟨σd,m1,ρ1,o,m',S.mono M g1,M1,e,fun H2 ρ2 g2 M2=>q H2 ρ2 (g1.trans g2) M2⟩
theorem iQ(hp:PassesOwn (model X.prog X.w) X.A X.env X.xe)(hc:PT X c (tDT C X.K t))(hb:PSs X bb (tDSs C W X.K rb)):PS X (.While c bb [] pos) (tDS C W X.K (.whl t rb)):=(j9 hp hc hb).imp fun E σ H hq0=>by
 obtain⟨σd,m,ρ,o,m',S,M,e,q⟩:=hq0
 refine⟨fun k σ1 H1=>∃σd1 m1 ρ1,StAt X.K ρ1 H1 σd1 σ1∧MemAt X.K ρ1 m1 H1∧Go ρ ρ1 H H1∧whlL (et C t) (fun σ m=>exs C W rb σ m) k σd1 m1=some (o,m'),⟨W,σd,m,ρ,S,M,.refl _ _,e⟩,?_⟩
 rintro k σ1 H1 ⟨σd1,m1,ρ1,S1,M1,g1,e⟩
 cases k with
 | zero=>cases e
 | succ k=>
  unfold whlL at e
  obtain⟨⟨z,m2⟩,e1,e⟩:=Option.bind_eq_some_iff.mp e
  refine⟨σd1,m1,ρ1,z,m2,S1,M1,e1,fun H2 ρ2 g2 M2=>?_⟩
  cases z with
  | false=>
   try dsimp only at e
   rw[if_neg Bool.false_ne_true]at e ⊢
   cases e
   exact q H2 ρ2 (g1.trans g2) M2 σ1 (S1.mono M1 g2)
  | true=>
   try dsimp only at e
   rw[if_pos rfl]at e ⊢
   obtain⟨⟨o2,m3⟩,e2,e⟩:=Option.bind_eq_some_iff.mp e
   refine⟨fun σ' H'=>∃σd1 m1 ρ1,StAt X.K ρ1 H' σd1 σ'∧MemAt X.K ρ1 m1 H'∧Go ρ ρ1 H H'∧whlL (et C t) (fun σ m=>exs C W rb σ m) k σd1 m1=some (o,m'),fun σ' H' h=>⟨k,Nat.lt_succ_self k,h⟩,σd1,m2,ρ2,o2,m3,S1.mono M1 g2,M2,e2,?_⟩
   cases o2 with
   | nx σ2=>exact fun H3 ρ3 g3 M3 σ' S3=>⟨σ2,m3,ρ3,S3,M3,g1.trans (g2.trans g3),e⟩
   | rt d=>
    cases e
    exact fun H3 ρ3 g3 M3 v A=>q H3 ρ3 (g1.trans (g2.trans g3)) M3 v A
variable{tg iter:Expr}{g:Tg}{ip:Ie}
theorem O4(hp:PassesOwn (model X.prog X.w) X.A X.env X.xe)(hc:X.calm=true)(hi:PI X tg iter (tDI C X.K ip))(hg:PG X tg (tDG X.K g))(hb:PSs X bb (tDSs C W X.K rb))(hs:∀x,foldedSetIterable iter X.env x=pure x:=by intro _;rfl):
  PS X (.For tg iter bb [] pos) (tDS C W X.K (.fr g ip rb)):=(vA hp hc hi hg hb hs).imp fun E σ H hq0=>by
 obtain⟨σd,m,ρ,o,m',S,M,e,q⟩:=hq0
 obtain⟨⟨w,m1⟩,e1,e⟩:=Option.bind_eq_some_iff.mp e
 refine⟨σd,m,ρ,w,m1,S,M,e1,fun J H0 ρ0 g0 M0 wk=>?_⟩
 refine⟨fun i k σ1 H1=>k=w.xs.length-i∧i≤w.xs.length∧∃σd1 m1 ρ1,StAt X.K ρ1 H1 σd1 σ1∧MemAt X.K ρ1 m1 H1∧Go ρ0 ρ1 H0 H1∧forL w g (fun σ m=>exs C W rb σ m) (w.xs.drop i) σd1 m1=some (o,m'),⟨_,rfl,Nat.zero_le _,σd,m1,ρ0,S.mono M g0,M0,.refl _ _,e⟩,?_⟩
 rintro i k σ1 H1 ⟨rfl,hil,σd1,m2,ρ1,S1,M1,g1,e⟩
 by_cases hlt:i<w.xs.length
 ·have hd:w.xs.drop i=w.xs[i]::w.xs.drop (i+1):=List.drop_eq_getElem_cons hlt
  rw[hd]at e
  unfold forL at e
  split at e
  ·rename_i ok
   obtain⟨σd2,e2,e⟩:=Option.bind_eq_some_iff.mp e
   obtain⟨⟨o3,m3⟩,e3,e⟩:=Option.bind_eq_some_iff.mp e
   obtain⟨k1,k2⟩:=(wk i ρ1 m2 H1 (g1.fz M0) (.pre g1.ex) M1 ok).1 _ (List.getElem?_eq_getElem hlt)
   refine .inr ⟨k1,fun σ' H'=>∃σd1 m1 ρ1,StAt X.K ρ1 H' σd1 σ'∧MemAt X.K ρ1 m1 H'∧Go ρ0 ρ1 H0 H'∧forL w g (fun σ m=>exs C W rb σ m) (w.xs.drop (i+1)) σd1 m1=some (o,m'),fun σ' H' h=>⟨_,by omega,rfl,hlt,h⟩,fun x H2 y=>?_⟩
   obtain⟨hsm,ax⟩:=k2 x H2 y
   have g2:Go ρ1 ρ1 H1 H2:=bY hsm
   have M2:=M1.same hsm
   refine⟨σd1,ρ1,_,σd2,S1.mono M1 g2,ax,e2,fun σ2 S2=>⟨σd2,m2,ρ1,o3,m3,S2,M2,e3,?_⟩⟩
   cases o3 with
   | nx σ3=>exact fun H3 ρ3 g3 M3 σ' S3=>⟨σ3,m3,ρ3,S3,M3,g1.trans (g2.trans g3),e⟩
   | rt d=>
    cases e
    exact fun H3 ρ3 g3 M3 v A=>q H3 ρ3 (g0.trans (g1.trans (g2.trans g3))) M3 v A
  ·cases e
 ·have hi':w.xs.drop i=[]:=List.drop_eq_nil_of_le (by omega)
  rw[hi']at e
  unfold forL at e
  split at e
  ·rename_i ok
   cases e
   exact .inl ⟨(wk i ρ1 m' H1 (g1.fz M0) (.pre g1.ex) M1 ok).2 (by omega),q H1 ρ1 (g0.trans g1) M1 σ1 S1⟩
  ·cases e
end
end WL
end
section
namespace WL
open PySem PySem.Spec PyProof.Rows L2
section
variable{C:String→List D→Mem→Option (D×Mem)}{W:Nat}{X:Cx}{pos:Pos}{e:Expr}{es:List Expr}{g:Tg}{gs:List Tg}{a:Expr}{pa:Ex}
theorem _root_.L2.PGs.imp{t t':TGs}(h:PGs X es t)(hi:∀v σ H Q,t' v σ H Q→t v σ H Q):PGs X es t':=fun pins s σ H v u Q I r q=>h pins s σ H v u Q I r (hi v σ H Q q)
theorem UW:PGs X [] (tDGs X.K []):=(pX (X:=X)).imp fun vs σ H Q hq0=>by
 obtain⟨σd,ρ,ds,σd',S,as,e,q⟩:=hq0
 cases ds with
 | nil=>
  cases e
  cases (show _=[] from as)
  exact⟨rfl,q σ S⟩
 | cons _ _=>cases e
theorem J2(h1:PG X e (tDG X.K g))(h2:PGs X es (tDGs X.K gs))(hs:(assignEach (e::es) X.env).map (·.2)=assign e X.env::(assignEach es X.env).map (·.2):=by rfl):PGs X (e::es) (tDGs X.K (g::gs)):=
 (jC h1 h2 hs).imp fun vs σ H Q hq0=>by
 obtain⟨σd,ρ,ds,σd',S,as,e,q⟩:=hq0
 cases ds with
 | nil=>cases e
 | cons d ds=>
  obtain⟨v,vr,rfl,a1,as⟩:=as
  unfold bindTs at e
  obtain⟨σ1,e1,e⟩:=Option.bind_eq_some_iff.mp e
  exact⟨v,vr,rfl,σd,ρ,d,σ1,S,a1,e1,fun σ' S'=>⟨σ1,ρ,ds,σd',S',as,e,q⟩⟩
theorem iW{k:Nat}(hc:X.calm=true)(h:PGs X es (tDGs X.K gs))(hn:(assignEach es X.env).length=gs.length:=by rfl)(hst:(assignEach es X.env).findIdx? (·.1)=none:=by rfl):PG X (.Tuple es k pos) (tDG X.K (.tp gs)):=
 (vG hc h hn hst).imp fun v σ H Q hq0=>by
 obtain⟨σd,ρ,d,σd',S,a,e,q⟩:=hq0
 cases d with
 | tup xs=>
  obtain⟨p,vs,rfl,ht,as⟩:=a
  have e:(if gs.length=xs.length then bindTs gs xs σd else none)=some σd':=e
  split at e
  ·rename_i hl
   exact⟨p,vs,rfl,ht.sq,by rw[as.len,hl],σd,ρ,xs,σd',S,as,e,q⟩
  ·cases e
 | _=>cases e
theorem uI{tg:Expr}(he:PE X a (tD C X.K pa))(hg:PG X tg (tDG X.K g))(hs:swapsWithSole [tg] a pos.line X.env=pure false:=by rfl)(hw:swappedStores [tg] a X.env=pure none:=by rfl)(h1:(assignEach [tg] X.env).map (·.2)=[assign tg X.env]:=by rfl):
  PS X (.Assign [tg] a pos) (tDS C W X.K (.asg g pa)):=(vB he hg hs hw h1).imp fun E σ H hq0=>by
 obtain⟨σd,m,ρ,o,m',S,M,e,q⟩:=hq0
 obtain⟨⟨d,m1⟩,e1,e⟩:=Option.bind_eq_some_iff.mp e
 obtain⟨σ1,e2,e⟩:=Option.map_eq_some_iff.mp e
 cases e
 exact⟨σd,m,ρ,d,m',S,M,e1,fun v H1 ρ1 g1 M1 A1=>⟨σd,ρ1,d,σ1,S.mono M g1,A1,e2,fun σ' S'=>q H1 ρ1 g1 M1 σ' S'⟩⟩
end
section
variable{C:String→List D→Mem→Option (D×Mem)}{W:Nat}{X:Cx}{a b c:Expr}{pa pb pc:Ex}{pos pos' apos cpos:Pos}
theorem uG(hu:X.A.units+1<cLine)(ho:PE X a (tD C X.K pa))(hi:PE X b (tD C X.K pb))(hv:PE X c (tD C X.K pc))(hs:swapsWith c (some (.Subscript a b pos')) pos.line X.env=pure false:=by rfl):
  PS X (.Assign [.Subscript a b pos'] c pos) (tDS C W X.K (.put pa pb pc)):=(pQ hu ho hi hv hs).imp fun E σ H hq0=>by
 obtain⟨σd,m,ρ,o,m',S,M,e,q⟩:=hq0
 obtain⟨⟨z,m1⟩,e1,e⟩:=Option.bind_eq_some_iff.mp e
 obtain⟨⟨x,m2⟩,e2,e⟩:=Option.bind_eq_some_iff.mp e
 obtain⟨⟨y,m3⟩,e3,e⟩:=Option.bind_eq_some_iff.mp e
 refine⟨σd,m,ρ,z,m1,S,M,e1,fun v H1 ρ1 g1 M1 A1=>⟨σd,m1,ρ1,x,m2,S.mono M g1,M1,e2,fun u H2 ρ2 g2 M2 A2=>⟨σd,m2,ρ2,y,m3,(S.mono M g1).mono M1 g2,M2,e3,fun w H3 ρ3 g3 M3 A3=>?_⟩⟩⟩
 have A1':=(A1.mono M1 g2).mono M2 g3
 have A2':=A2.mono M2 g3
 have S3:=((S.mono M g1).mono M1 g2).mono M2 g3
 cases x with
 | mref i=>
  obtain⟨p,hi,rfl⟩:=A2'
  have e:(match m3[i]?,keyD y with
   | some (.dct ks vs),some k=>if z.clean&&decide (ks.length<10000) then some (Out.nx σd,m3.set i (.dct (putD ks vs k z).1 (putD ks vs k z).2)) else none
   | _,_=>none)=some (o,m'):=e
  split at e
  ·rename_i ks vs k hm hk
   split at e
   ·rename_i hz
    rw[Bool.and_eq_true,decide_eq_true_eq]at hz
    cases e
    obtain⟨kvs,hp,ka⟩:=M3.at' i p _ hi hm
    have hy:=bH A3 hk
    subst hy
    have hz0:FzSub H3 (upd H3 p (.dK (putK kvs k v))):=fun a' o' u' z'=>by
     rw[CJ]
     ·exact z'
     ·rintro rfl;rw[hp]at z';cases z'
    have kp:=KAt.put (K:=X.K) (ρ:=ρ3.take i) (H:=upd H3 p (.dK (putK kvs k v))) (k:=k) (A1'.clean (ρ':=ρ3.take i) hz0 hz.1) (KAt.mono' hz0 (.refl _) ka)
    obtain⟨M4,g4⟩:=M3.write (o:=.dK (putK kvs k v)) (q:=.dct (putD ks vs k z).1 (putD ks vs k z).2) hi ⟨_,CV,kp⟩
    have hlen:=WQ (K:=X.K) (ρ:=ρ3.take i) (H:=H3) ka
    exact⟨p,_,rfl,DPut.k hp (Nat.lt_of_lt_of_le (by lia:kvs.length<100000) (G4 (Nat.le_refl _))),q _ ρ3 (g1.trans (g2.trans (g3.trans g4))) M4 σ (S3.mono M3 g4)⟩
   ·cases e
  ·cases e
 | _=>cases e
theorem O6(hu:X.A.units+1<cLine)(ho:PE X a (tD C X.K pa))(he:PE X b (tD C X.K pb))(hf:PE X c (tD C X.K pc))(mm:M2 X a "get" apos b c cpos:=by exact⟨rfl,rfl,rfl,rfl⟩):PE X (.Call (.Attribute a "get" apos) [b,c] [] cpos) (tD C X.K (.get pa pb pc)):=
 (jG hu ho he hf mm).imp fun σ H Q hq0=>by
 obtain⟨σd,m,ρ,d,m',S,M,e,q⟩:=hq0
 obtain⟨⟨x,m1⟩,e1,e⟩:=Option.bind_eq_some_iff.mp e
 obtain⟨⟨ks0,ds0⟩,e0,e⟩:=Option.bind_eq_some_iff.mp e
 obtain⟨⟨y,m2⟩,e2,e⟩:=Option.bind_eq_some_iff.mp e
 obtain⟨⟨z,m3⟩,e3,e⟩:=Option.bind_eq_some_iff.mp e
 obtain⟨⟨ks,ds⟩,e4,e⟩:=Option.bind_eq_some_iff.mp e
 obtain⟨k,e5,e⟩:=Option.map_eq_some_iff.mp e
 cases e
 refine⟨σd,m,ρ,x,m1,S,M,e1,fun v H1 ρ1 g1 M1 A1=>?_⟩
 obtain⟨p,kvs0,rfl,hr0,_⟩:=W4 M1 A1 e0
 refine⟨p,rfl,.inl ⟨kvs0,hr0⟩,σd,m1,ρ1,y,m2,S.mono M g1,M1,e2,fun u H2 ρ2 g2 M2 A2=>⟨σd,m2,ρ2,z,m',(S.mono M g1).mono M1 g2,M2,e3,fun w H3 ρ3 g3 M3 A3=>?_⟩⟩
 obtain⟨p',kvs,e6,hr,ka⟩:=W4 M3 ((A1.mono M1 g2).mono M2 g3) e4
 cases e6
 have hy:=bH (A2.mono M2 g3) e5
 refine⟨valV kvs k,.inl ⟨kvs,k,hr,hy,rfl⟩,q _ H3 ρ3 (g1.trans (g2.trans g3)) M3 ?_⟩
 cases hl:lookD ks ds k with
 | none=>
  rw[(ka.look k).2 hl]
  exact A3
 | some d'=>
  obtain⟨v',ev',av'⟩:=(ka.look k).1 d' hl
  rw[ev']
  exact av'
theorem uN(ho:PE X a (tD C X.K pa))(hbase:attributeBase a "pop" X.env (eval a X.env)=eval a X.env:=by rfl)(hline:(apos.endLine==cpos.line)=true:=by rfl):PE X (.Call (.Attribute a "pop" apos) [] [] cpos) (tD C X.K (.pop pa)):=
 (vL PySem.F.plainAttrs_list PySem.F.slot_list_pop PySem.F.type_list_pop vU ho hbase hline).imp fun σ H Q hq0=>by
 obtain⟨σd,m,ρ,d,m',S,M,e,q⟩:=hq0
 obtain⟨⟨x,m1⟩,e1,e⟩:=Option.bind_eq_some_iff.mp e
 refine⟨σd,m,ρ,x,m1,S,M,e1,fun v H1 ρ1 g1 M1 A1=>?_⟩
 cases x with
 | mref i=>
  obtain⟨p,hi,rfl⟩:=A1
  have e:(match m1[i]? with
   | some (.lst xs)=>(xs[xs.length-1]?).map fun d=>(d,m1.set i (.lst xs.dropLast))
   | _=>none)=some (d,m'):=e
  split at e
  ·rename_i xs hm
   obtain⟨d',e2,e⟩:=Option.map_eq_some_iff.mp e
   cases e
   obtain⟨vs,hp,as⟩:=M1.at' i p _ hi hm
   obtain⟨y,e3,a3⟩:=as.get e2
   have hz0:FzSub H1 (upd H1 p (.lst vs.dropLast)):=fun a' o' u' z'=>by
    rw[CJ]
    ·exact z'
    ·rintro rfl;rw[hp]at z';cases z'
   have hd:Ats X.K (ρ1.take i) H1 xs.dropLast vs.dropLast:=by
    rw[List.dropLast_eq_take,List.dropLast_eq_take,as.len]
    exact as.take _
   obtain⟨M4,g4⟩:=M1.write (o:=.lst vs.dropLast) (q:=.lst xs.dropLast) hi ⟨_,CV,hd.mono' hz0 (.refl _)⟩
   exact⟨.inl ⟨rfl,vs,.of hp⟩,p,vs,y,rfl,rfl,hp,by rw[as.len];exact e3,q _ _ ρ1 (g1.trans g4) M4 ((a3.mono' (fun _ _ _ z=>z) (.take ρ1 i)).mono M1 g4)⟩
  ·cases e
 | _=>cases e
section
variable(hbase:attributeBase a "append" X.env (eval a X.env)=eval a X.env)
end
theorem uR(ho:PE X a (tD C X.K pa))(hb:PE X b (tD C X.K pb))(hbase:attributeBase a "append" X.env (eval a X.env)=eval a X.env:=by rfl)
  (hfew:((backTo cpos (starEach [b] X.env)).all (fun x=>!x.1)&&(backToKw cpos (keywordEach [] X.env)).all (fun x=>x.1.isSome)
   &&decide (([b]:List Expr).length+([]:List Keyword).length+(if ([]:List Keyword).isEmpty then 0 else 1)<30))=true:=by rfl)
  (hline:(apos.endLine==cpos.line)=true:=by rfl) (hs:starEach [b] X.env=[(false,eval b X.env)]:=by rfl):PE X (.Call (.Attribute a "append" apos) [b] [] cpos) (tD C X.K (.app pa pb)):=
 (cG PySem.F.plainAttrs_list PySem.F.slot_list_append PySem.F.type_list_append SM ho (FJ hb HD hs) hbase hfew hline hs rfl).imp fun σ H Q hq0=>by
 obtain⟨σd,m,ρ,d,m',S,M,e,q⟩:=hq0
 obtain⟨⟨x,m1⟩,e1,e⟩:=Option.bind_eq_some_iff.mp e
 obtain⟨xs0,e0,e⟩:=Option.bind_eq_some_iff.mp e
 obtain⟨⟨y,m2⟩,e2,e⟩:=Option.bind_eq_some_iff.mp e
 refine⟨σd,m,ρ,x,m1,S,M,e1,fun v H1 ρ1 g1 M1 A1=>?_⟩
 obtain⟨p,vs0,rfl,h0,_⟩:=G8 M1 A1 e0
 refine⟨.inl ⟨rfl,vs0,h0⟩,σd,m1,ρ1,y,m2,S.mono M g1,M1,e2,fun u H2 ρ2 g2 M2 A2=>?_⟩
 have A1':=A1.mono M1 g2
 cases x with
 | mref i=>
  obtain⟨p',hi,e6⟩:=A1'
  cases e6
  have e:(match m2[i]? with
   | some (.lst xs)=>if y.clean&&decide (xs.length<100000) then some (D.non,m2.set i (.lst (xs++[y]))) else none
   | _=>none)=some (d,m'):=e
  split at e
  ·rename_i xs hm
   split at e
   ·rename_i hz
    rw[Bool.and_eq_true,decide_eq_true_eq]at hz
    cases e
    obtain⟨vs,hp,as⟩:=M2.at' i p _ hi hm
    have hz0:FzSub H2 (upd H2 p (.lst (vs++[u]))):=fun a' o' u' z'=>by
     rw[CJ]
     ·exact z'
     ·rintro rfl;rw[hp]at z';cases z'
    obtain⟨M4,g4⟩:=M2.write (o:=.lst (vs++[u])) (q:=.lst (xs++[y])) hi ⟨_,CV,(as.mono' hz0 (.refl _)).snoc (A2.clean hz0 hz.1)⟩
    exact⟨p,vs,u,rfl,rfl,hp,Nat.lt_of_lt_of_le (by rw[as.len];exact hz.2) (G4 (Nat.le_refl _)),q _ _ ρ2 (g1.trans (g2.trans g4)) M4 rfl⟩
   ·cases e
  ·cases e
 | _=>cases e
def rExtU(K:PySem.W.Frag):V→List V→Hp→VK→Prop:=fun x vs H Q=>∃l b xs zs,x=.ref l∧vs=[.ref b]∧H l=some (.lst xs)∧(Rd H b (.lst zs)∨FzT K H b zs)∧xs.length+zs.length≤100000∧Q .non (upd H l (.lst (xs++zs)))
theorem MF(l:Addr)(items:Array Value)(n:Nat)(b:Addr)(items2:Array Value)(n2:Nat)(dd2:Option Addr)(sl2:Array (Option Value))(hs0:¬(!items.isEmpty&&Builtin.List.listTooLong (items.size+items2.size))=true)(hs1:items.size≤sizeLine)(hs2:items.size+items2.size≤sizeLine+1):
  Meets (Builtin.«list.extend» ⟨[.ref l,.ref b],[]⟩) (fun _ R s=>s.heap.get? l=some { cls:=.type "list",dict:=none,data:=.seq items n,slots:=#[] }∧s.heap.get? b=some { cls:=.type "tuple",dict:=dd2,data:=.seq items2 n2,slots:=sl2 }∧R (.ok (.ret Value.none)) { s with heap:=s.heap.update l (Obj.mapSeq fun x=>x++items2),toks:=s.toks }):=
 .of_wp fun prog w A R s h=>by
  obtain⟨hp,g,d,tk,os⟩:=s;obtain⟨hl,hb,h⟩:=h;have f1:=AutoSeq1.idx_int;have f2:=AutoSeq1.sub_tuple_tuple;have f3:=AutoSeq1.sub_list_list;have f4:=AutoSeq1.sub_tuple_list;have f5:=AutoSeq1.sub_list_tuple;
  have hz':(items++items2).size≤sizeLine+1:=by rw[Array.size_append];exact hs2
  wp_walk using (wpAny_updateSeq hl rfl (hz:=hs1) (_hz':=hz')),wpAny_loadPart' hl,wpAny_loadPart' hb;exact⟨_,rfl,h⟩
theorem qZ:MtM X "list.extend" (rExtU X.K):=by
 intro pins s σ H x vs v us Q I rx rv h
 obtain⟨l,b,xs,zs,rfl,rfl,hH,hB,hz,q⟩:=h
 cases rx
 obtain⟨u,rfl,ru⟩:=rv.one
 cases ru
 obtain⟨z,its,n,r,hl,e⟩:=I.lstM hH
 have hzz:=G4 (Nat.le_refl 100000)
 have key:∀its2:List Value,Vals zs its2→its.toArray.size+its2.toArray.size≤sizeLine∧¬(!its.toArray.isEmpty&&Builtin.List.listTooLong (its.toArray.size+its2.toArray.size))=true:=fun its2 r2=>by
  have hl2:=r2.length
  have hsz:its.toArray.size+its2.toArray.size≤sizeLine:=by rw[List.size_toArray,List.size_toArray];lia
  refine⟨hsz,?_⟩
  rw[jT hsz,Bool.and_false]
  exact Bool.false_ne_true
 have fin:∀its2:List Value,Vals zs its2→EP X pins σ Q .none { s with heap:=s.heap.update l (Obj.mapSeq fun x=>x++its2.toArray),toks:=s.toks }:=fun its2 r2=>by
  refine⟨.non,_,I.lset (its':=its++its2) hH e (by simp) (r.append r2) ?_,rfl,q⟩
  rw[List.length_append]
  lia
 rcases hB with hB | hB
 ·obtain⟨z2,its2,n2,r2,e2⟩:=hB.ok I.hok
  obtain⟨hsz,hlong⟩:=key its2 r2
  exact call_meets F.slot_list_extend ⟨_,e,rfl⟩ F.entry_list_extend (F.args_list_extend_2 _ _)
   (AutoSeq1.list_extend_list_list_0 l its.toArray n b its2.toArray n2 hlong (by rw[List.size_toArray];lia) (by lia)) ⟨e,e2,fin its2 r2⟩
 ·obtain⟨its2,r2,⟨⟨cls2,dd2,data2,sl2⟩,ho2,hc2,n2,hd2⟩,_⟩:=I.tuple hB.sq
  simp only at hc2 hd2
  subst hc2 hd2
  obtain⟨hsz,hlong⟩:=key its2 r2
  exact call_meets F.slot_list_extend ⟨_,e,rfl⟩ F.entry_list_extend (F.args_list_extend_2 _ _)
   (MF l its.toArray n b its2.toArray n2 dd2 sl2 hlong (by rw[List.size_toArray];lia) (by lia)) ⟨e,ho2,fin its2 r2⟩
theorem O7(ho:PE X a (tD C X.K pa))(hb:PE X b (tD C X.K pb))(hbase:attributeBase a "extend" X.env (eval a X.env)=eval a X.env:=by rfl)
  (hfew:((backTo cpos (starEach [b] X.env)).all (fun x=>!x.1)&&(backToKw cpos (keywordEach [] X.env)).all (fun x=>x.1.isSome)
   &&decide (([b]:List Expr).length+([]:List Keyword).length+(if ([]:List Keyword).isEmpty then 0 else 1)<30))=true:=by rfl)
  (hline:(apos.endLine==cpos.line)=true:=by rfl) (hs:starEach [b] X.env=[(false,eval b X.env)]:=by rfl):PE X (.Call (.Attribute a "extend" apos) [b] [] cpos) (tD C X.K (.ext pa pb)):=
 (cG PySem.F.plainAttrs_list PySem.F.slot_list_extend PySem.F.type_list_extend qZ ho (FJ hb HD hs) hbase hfew hline hs rfl).imp fun σ H Q hq0=>by
 obtain⟨σd,m,ρ,d,m',S,M,e,q⟩:=hq0
 obtain⟨⟨x,m1⟩,e1,e⟩:=Option.bind_eq_some_iff.mp e
 obtain⟨xs0,e0,e⟩:=Option.bind_eq_some_iff.mp e
 obtain⟨⟨y,m2⟩,e2,e⟩:=Option.bind_eq_some_iff.mp e
 refine⟨σd,m,ρ,x,m1,S,M,e1,fun v H1 ρ1 g1 M1 A1=>?_⟩
 obtain⟨p,vs0,rfl,h0,_⟩:=G8 M1 A1 e0
 refine⟨.inl ⟨rfl,vs0,h0⟩,σd,m1,ρ1,y,m2,S.mono M g1,M1,e2,fun u H2 ρ2 g2 M2 A2=>?_⟩
 have A1':=A1.mono M1 g2
 cases x with
 | mref i=>
  obtain⟨p',hi,e6⟩:=A1'
  cases e6
  have fin:∀{xs ys:List D} {b:Addr} {zs:List V},m2[i]?=some (.lst xs)→u=.ref b→(Rd H2 b (.lst zs)∨FzT X.K H2 b zs)→Ats X.K ρ2 H2 ys zs→(if D.clean.cleans ys&&decide (xs.length+ys.length≤100000) then some (D.non,m2.set i (.lst (xs++ys))) else none)=some (d,m')→rExtU X.K (.ref p) [u] H2 Q:=fun {xs ys b zs} hm eu hb as2 e=>by
   subst eu
   split at e
   ·rename_i hz
    rw[Bool.and_eq_true,decide_eq_true_eq]at hz
    cases e
    obtain⟨vs,hp,as⟩:=M2.at' i p _ hi hm
    have hz0:FzSub H2 (upd H2 p (.lst (vs++zs))):=fun a' o' u' z'=>by
     rw[CJ]
     ·exact z'
     ·rintro rfl;rw[hp]at z';cases z'
    obtain⟨M4,g4⟩:=M2.write (o:=.lst (vs++zs)) (q:=.lst (xs++ys)) hi ⟨_,CV,(as.mono' hz0 (.refl _)).app (as2.clean hz0 hz.1)⟩
    have l1:=as.len
    have l2:=as2.len
    exact⟨p,b,vs,zs,rfl,rfl,hp,hb,by lia,q _ _ ρ2 (g1.trans (g2.trans g4)) M4 rfl⟩
   ·cases e
  dsimp only at e
  split at e
  ·rename_i xs ys hm
   obtain⟨b,o,zs,rfl,hb,as2⟩:=A2
   exact fin hm rfl (.inl (.inr ⟨o,hb⟩)) as2 e
  ·rename_i xs ys hm
   obtain⟨b,zs,rfl,hb,as2⟩:=A2
   exact fin hm rfl (.inr hb) as2 e
  ·cases e
 | _=>cases e
theorem NK{K:PySem.W.Frag}{ρ:List Addr}{H:Hp}{y:D}{v:V}(fy:y.flat=true)(ay:At K ρ H y v):∀{xs:List D} {vs:List V} {n k:Nat},xs.all D.flat=true→Ats K ρ H xs vs→findD y xs n=some k→∃j,k=n+j∧j<vs.length∧(∃u,vs[j]?=some u∧eqV u v=true)∧∀i u,i<j→vs[i]?=some u→eqV u v=false
 | [],_,_,_,_,_,e=>by cases e
 | x::r,_,n,k,fs,hq1,e=>by
  obtain⟨w,vr,ev,a1,as⟩:=hq1
  subst ev
  rw[List.all_cons,Bool.and_eq_true]at fs
  have h1:=(KJ fy ay).2 fs.1 a1
  unfold findD at e
  split at e
  ·rename_i h
   cases e
   exact⟨0,rfl,by simp,⟨w,rfl,by rw[h1];exact h⟩,fun i u hi=>absurd hi (Nat.not_lt_zero _)⟩
  ·rename_i h
   obtain⟨j,e1,h2,⟨u,h3,h3'⟩,h4⟩:=NK fy ay fs.2 as e
   refine⟨j+1,by lia,by simp;lia,⟨u,by simpa using h3,h3'⟩,fun i u' hi e'=>?_⟩
   cases i with
   | zero=>
    have:w=u':=by simpa using e'
    subst this
    rw[h1]
    simpa using h
   | succ i=>exact h4 i u' (by lia) (by simpa using e')
theorem lA{x:V}:∀{xs:List V} {j:Nat} {u:V},xs[j]?=some u→eqV u x=true→inV x xs=true
 | [],_,_,e,_=>by simp at e
 | y::r,0,u,e,h=>by
  have:y=u:=by simpa using e
  subst this
  simp[inV,h]
 | y::r,j+1,u,e,h=>by
  have:=lA (xs:=r) (j:=j) (by simpa using e) h
  unfold inV at this ⊢
  rw[List.any_cons,this,Bool.or_true]
theorem iZ(ho:PE X a (tD C X.K pa))(hb:PE X b (tD C X.K pb))(hbase:attributeBase a "index" X.env (eval a X.env)=eval a X.env:=by rfl)
  (hfew:((backTo cpos (starEach [b] X.env)).all (fun x=>!x.1)&&(backToKw cpos (keywordEach [] X.env)).all (fun x=>x.1.isSome)
   &&decide (([b]:List Expr).length+([]:List Keyword).length+(if ([]:List Keyword).isEmpty then 0 else 1)<30))=true:=by rfl)
  (hline:(apos.endLine==cpos.line)=true:=by rfl) (hs:starEach [b] X.env=[(false,eval b X.env)]:=by rfl):PE X (.Call (.Attribute a "index" apos) [b] [] cpos) (tD C X.K (.index pa pb)):=
 (cG PySem.F.plainAttrs_list PySem.F.slot_list_index PySem.F.type_list_index jX ho (FJ hb HD hs) hbase hfew hline hs rfl).imp fun σ H Q hq0=>by
 obtain⟨σd,m,ρ,d,m',S,M,e,q⟩:=hq0
 obtain⟨⟨x,m1⟩,e1,e⟩:=Option.bind_eq_some_iff.mp e
 obtain⟨xs0,e0,e⟩:=Option.bind_eq_some_iff.mp e
 obtain⟨⟨y,m2⟩,e2,e⟩:=Option.bind_eq_some_iff.mp e
 obtain⟨xs,e3,e⟩:=Option.bind_eq_some_iff.mp e
 split at e
 ·rename_i hz
  rw[Bool.and_eq_true,Bool.and_eq_true,decide_eq_true_eq]at hz
  obtain⟨k,e4,e⟩:=Option.map_eq_some_iff.mp e
  cases e
  refine⟨σd,m,ρ,x,m1,S,M,e1,fun v H1 ρ1 g1 M1 A1=>?_⟩
  obtain⟨p,vs0,rfl,h0,_⟩:=G8 M1 A1 e0
  refine⟨.inl ⟨rfl,vs0,h0⟩,σd,m1,ρ1,y,m',S.mono M g1,M1,e2,fun u H2 ρ2 g2 M2 A2=>?_⟩
  obtain⟨p',vs,e6,h,as⟩:=G8 M2 (A1.mono M1 g2) e3
  cases e6
  obtain⟨j,ek,h1,⟨w,h2,h3⟩,h4⟩:=NK hz.1.1 A2 hz.1.2 as e4
  have hfl:=(N8 hz.1.1 A2 hz.1.2 as).1
  refine⟨p,vs,u,rfl,rfl,h,(KJ hz.1.1 A2).1,hfl,by rw[as.len];exact hz.2,lA h2 h3,fun i hi ⟨z,e7,e8⟩ hfirst=>?_⟩
  have hij:i=j:=by
   rcases Nat.lt_trichotomy i j with hlt | heq | hgt
   ·rw[h4 i z hlt e7]at e8;cases e8
   ·exact heq
   ·rw[hfirst j w hgt h2]at h3;cases h3
  subst hij
  refine q _ H2 ρ2 (g1.trans g2) M2 ?_
  rw[ek,Nat.zero_add]
  rfl
 ·cases e
theorem ZF{K:PySem.W.Frag}{ρ:List Addr}{H:Hp}:∀{ds:List D} {vs:List V} {ns:List Str},strsOf ds=some ns→Ats K ρ H ds vs→vs=ns.map V.str
 | [],_,_,e,a=>by cases e;cases (show _=[] from a);rfl
 | d::r,_,_,e,hq1=>by
  obtain⟨v,vr,ev,a1,as⟩:=hq1
  subst ev
  cases d with
  | str i=>
   obtain⟨ns',e1,rfl⟩:=Option.map_eq_some_iff.mp (show (strsOf r).map (i::·)=some _ from e)
   cases a1
   rw[ZF e1 as];rfl
  | _=>cases e
theorem pB(ho:PE X a (tD C X.K pa))(hb:PE X b (tD C X.K pb))(hbase:attributeBase a "join" X.env (eval a X.env)=eval a X.env:=by rfl)
  (hfew:((backTo cpos (starEach [b] X.env)).all (fun x=>!x.1)&&(backToKw cpos (keywordEach [] X.env)).all (fun x=>x.1.isSome)
   &&decide (([b]:List Expr).length+([]:List Keyword).length+(if ([]:List Keyword).isEmpty then 0 else 1)<30))=true:=by rfl)
  (hline:(apos.endLine==cpos.line)=true:=by rfl) (hs:starEach [b] X.env=[(false,eval b X.env)]:=by rfl):PE X (.Call (.Attribute a "join" apos) [b] [] cpos) (tD C X.K (.join pa pb)):=
 (cG PySem.F.plainAttrs_str PySem.F.slot_str_join PySem.F.type_str_join qY ho (FJ hb HD hs) hbase hfew hline hs rfl).imp fun σ H Q hq0=>by
 obtain⟨σd,m,ρ,d,m',S,M,e,q⟩:=hq0
 obtain⟨⟨x,m1⟩,e1,e⟩:=Option.bind_eq_some_iff.mp e
 obtain⟨⟨y,m2⟩,e2,e⟩:=Option.bind_eq_some_iff.mp e
 refine⟨σd,m,ρ,x,m1,S,M,e1,fun v H1 ρ1 g1 M1 A1=>?_⟩
 cases x with
 | str sep=>
  cases A1
  refine⟨rfl,σd,m1,ρ1,y,m2,S.mono M g1,M1,e2,fun u H2 ρ2 g2 M2 A2=>?_⟩
  obtain⟨xs,e3,e⟩:=Option.bind_eq_some_iff.mp (show ((lstOf y m2).bind fun xs=>(strsOf xs).bind fun ys=>if (ys.map (·.length)).sum+ys.length*sep.length≤100000 then some (D.str (Txt.join sep ys),m2) else none)=some (d,m') from e)
  obtain⟨ys,e4,e⟩:=Option.bind_eq_some_iff.mp e
  split at e
  ·rename_i hz
   cases e
   obtain⟨p,vs,rfl,h,as⟩:=G8 M2 A2 e3
   have:=ZF e4 as
   subst this
   exact⟨sep,p,ys,rfl,rfl,h,by lia,q _ H2 ρ2 (g1.trans g2) M2 rfl⟩
  ·cases e
 | _=>cases e
end
end WL
end
section
namespace WL
open PySem PySem.Spec PyProof.Rows L2
section
variable{C:String→List D→Mem→Option (D×Mem)}{W:Nat}{X:Cx}{scope:Scope}{own:List Str}{elt tg iter:Expr}{ifs:List Expr}{pos:Pos}{ip:Ie}{g:Tg}{t:Te}{pe:Ex}
theorem GX:PTs X [] (tDT C X.K .tt):=fun pins s σ H Q I hq0=>by
 obtain⟨σd,m,ρ,c,m',S,M,e,q⟩:=hq0
 cases e
 exact pJ pins s σ H Q I (q H ρ (.refl _ _) M)
theorem QB{c:Expr}(h:PT X c (tDT C X.K t)):PTs X [c] (tDT C X.K t):=pI h
theorem iM{K:PySem.W.Frag}{ρ:List Addr}{H:Hp}{σd:DS}{σ:L2.St}(S:StAt K ρ H σd σ)(k:Nat):StAt K ρ H (σd++List.replicate k none) (σ++List.replicate k none):=by
 refine⟨by simp[S.1],fun i d e=>?_⟩
 by_cases hi:i<σd.length
 ·rw[List.getElem?_append_left hi]at e
  obtain⟨v,e1,a⟩:=S.2 i d e
  exact⟨v,by rw[List.getElem?_append_left (by rw[←S.1];exact hi)];exact e1,a⟩
 ·rw[List.getElem?_append_right (by lia)]at e
  have:=List.mem_of_getElem? e
  rw[List.mem_replicate]at this
  cases this.2
noncomputable def turnC(C:String→List D→Mem→Option (D×Mem))(k:Nat)(g:Tg)(t:Te)(pe:Ex)(σ:DS):D→Mem→Option (Option D×Mem):=fun d m=>(bindT g d (σ++List.replicate k none)).bind fun σ1=>(et C t σ1 m).bind fun(c,m2)=>if c then (ev C pe σ1 m2).map fun(y,m3)=>(some y,m3) else some (none,m2)
mutual
theorem ZC{n:Nat}:∀{g:Tg} {d:D} {σ σ':DS},outT n g=true→bindT g d σ=some σ'→∀i,i<n→σ'[i]?=σ[i]?
 | .nm j,d,σ,σ',o,e=>by
  cases e
  have:n≤j:=of_decide_eq_true o
  intro i hi
  rw[List.getElem?_set_ne (by lia)]
 | .tp ts,d,σ,σ',o,e=>by
  cases d with
  | tup xs=>
   have e:(if ts.length=xs.length then bindTs ts xs σ else none)=some σ':=e
   split at e
   ·exact TJ o e
   ·cases e
  | _=>cases e
theorem TJ{n:Nat}:∀{gs:List Tg} {ds:List D} {σ σ':DS},outT.outTs n gs=true→bindTs gs ds σ=some σ'→∀i,i<n→σ'[i]?=σ[i]?
 | [],ds,σ,σ',_,e=>by
  cases ds with
  | nil=>cases e;intro _ _;rfl
  | cons _ _=>cases e
 | t::ts,ds,σ,σ',o,e=>by
  cases ds with
  | nil=>cases e
  | cons d ds=>
   have o':=Bool.and_eq_true_iff.mp o
   obtain⟨σ1,e1,e⟩:=Option.bind_eq_some_iff.mp (show (bindT t d σ).bind (fun σ'=>bindTs ts ds σ')=some σ' from e)
   intro i hi
   rw[TJ o'.2 e i hi,ZC o'.1 e1 i hi]
end
mutual
theorem ZD:∀{g:Tg} {d:D} {σ σ':DS},bindT g d σ=some σ'→σ'.length=σ.length
 | .nm i,d,σ,σ',e=>by cases e;simp
 | .tp ts,d,σ,σ',e=>by
  cases d with
  | tup xs=>
   have e:(if ts.length=xs.length then bindTs ts xs σ else none)=some σ':=e
   split at e
   ·exact TQ e
   ·cases e
  | _=>cases e
theorem TQ:∀{gs:List Tg} {ds:List D} {σ σ':DS},bindTs gs ds σ=some σ'→σ'.length=σ.length
 | [],ds,σ,σ',e=>by
  cases ds with
  | nil=>cases e;rfl
  | cons _ _=>cases e
 | t::ts,ds,σ,σ',e=>by
  cases ds with
  | nil=>cases e
  | cons d ds=>
   obtain⟨σ1,e1,e⟩:=Option.bind_eq_some_iff.mp (show (bindT t d σ).bind (fun σ'=>bindTs ts ds σ')=some σ' from e)
   rw[TQ e,ZD e1]
end
theorem QS{K:PySem.W.Frag}{ρ:List Addr}{H:Hp}{σd σd2:DS}{k:Nat}{g:Tg}{d:D}{σ:L2.St}(o:outT σd.length g=true)(e:bindT g d (σd++List.replicate k none)=some σd2)(S:StAt K ρ H σd2 σ):StAt K ρ H (σd++List.replicate k none) σ:=by
 refine⟨by rw[←ZD e];exact S.1,fun i d' h=>?_⟩
 by_cases hi:i<σd.length
 ·rw[←ZC o e i hi]at h
  exact S.2 i d' h
 ·rw[List.getElem?_append_right (by lia)]at h
  have:=List.mem_of_getElem? h
  rw[List.mem_replicate]at this
  cases this.2
theorem MemAt.push'{K:PySem.W.Frag}{ρ:List Addr}{H:Hp}{m:Mem}{p:Addr}{q:MO}(M:MemAt K ρ m H)(hn:p∉ρ)(h:MOAt K ρ H p q):MemAt K (ρ++[p]) (m++[q]) H:=by
 refine⟨by simp[M.len],List.nodup_append.mpr ⟨M.nd,by simp,fun a ha b hb=>?_⟩,fun j a u e1 e2=>?_⟩
 ·have:b=p:=by simpa using hb
  subst this
  exact fun z=>hn (z▸ha)
 ·by_cases hj:j<ρ.length
  ·rw[List.getElem?_append_left hj]at e1
   rw[List.getElem?_append_left (by rw[←M.len];exact hj)]at e2
   rw[List.take_append_of_le_length (Nat.le_of_lt hj)]
   exact M.at' j a u e1 e2
  ·have hj':j=ρ.length:=by
    have:=(List.getElem?_eq_some_iff.mp e1).1
    simp at this
    lia
   subst hj'
   have e1':p=a:=by simpa using e1
   rw[M.len]at e2
   have e2':q=u:=by simpa using e2
   subst e1' e2'
   rw[List.take_append_of_le_length (Nat.le_refl _),List.take_length]
   exact h
theorem Z1{K:PySem.W.Frag}{wi:TI}{mu:Bool}{k:Nat}{te:TE}(hwi:wi=tDI C K ip)(hte:te=tD C K pe):∀{σ:L2.St} {H:Hp} {Q:VK},tD C K (.comp mu k g ip t pe) σ H Q→tComp wi k (tDG K g) (tDT C K t) te σ H (Fz Q):=by
 rintro σ H Q ⟨σd,m,ρ,d,m',S,M,e,q⟩
 subst hwi hte
 change (if outT σd.length g=true then (ei C ip σd m).bind _ else none)=_ at e
 split at e
 case isFalse=>cases e
 rename_i hout
 obtain⟨⟨w,m1⟩,e1,e⟩:=Option.bind_eq_some_iff.mp e
 obtain⟨⟨ys,m2⟩,e2,e⟩:=Option.bind_eq_some_iff.mp e
 dsimp only at e
 have e2:compL w (turnC C k g t pe σd) w.xs m1=some (ys,m2):=e2
 split at e
 case isFalse=>cases e
 rename_i hyl
 have e':=Option.some.inj e
 refine⟨σd,m,ρ,w,m1,S,M,e1,fun J H0 ρ0 g0 M0 wk D hD=>?_⟩
 have q':Beh K ρ0 H0 (mkL mu ys m2).1 (mkL mu ys m2).2 Q:=by rw[e'];exact q.go g0
 refine⟨fun i n σ1 H1=>n=w.xs.length-i∧i≤w.xs.length∧∃zs us vs m3 ρ1,StAt K ρ1 H1 (σd++List.replicate k none) σ1∧MemAt K ρ1 m3 H1∧Go ρ0 ρ1 H0 H1∧H1 D=some (.lst vs)∧D∉ρ1∧Ats K ρ1 H1 zs vs∧compL w (turnC C k g t pe σd) (w.xs.drop i) m3=some (us,m2)∧ys=zs++us,
  ⟨_,rfl,Nat.zero_le _,[],ys,[],m1,ρ0,(iM (S.mono M g0) k).mono M0 (JD hD),M0.new hD,JD hD,CV,M0.fresh hD,rfl,e2,rfl⟩,?_⟩
 rintro i n σ1 H1 ⟨rfl,hil,zs,us,vs,m3,ρ1,S1,M1,g1,hv,hnD,as,e3,hys⟩
 by_cases hlt:i<w.xs.length
 ·have hd:w.xs.drop i=w.xs[i]::w.xs.drop (i+1):=List.drop_eq_getElem_cons hlt
  rw[hd]at e3
  unfold compL at e3
  split at e3
  case isFalse=>cases e3
  rename_i ok
  obtain⟨⟨oy,m4⟩,e4,e3⟩:=Option.bind_eq_some_iff.mp e3
  obtain⟨⟨us',m5⟩,e5,e3⟩:=Option.bind_eq_some_iff.mp e3
  cases e3
  obtain⟨k1,k2⟩:=(wk i ρ1 m3 H1 (g1.fz M0) (.pre g1.ex) M1 ok).1 _ (List.getElem?_eq_getElem hlt)
  refine .inr ⟨k1,fun x H2 y=>?_⟩
  obtain⟨hsm,ax⟩:=k2 x H2 y
  have g2:Go ρ1 ρ1 H1 H2:=bY hsm
  have M2:=M1.same hsm
  unfold turnC at e4
  obtain⟨σd2,e6,e4⟩:=Option.bind_eq_some_iff.mp e4
  obtain⟨⟨c,m6⟩,e7,e4⟩:=Option.bind_eq_some_iff.mp e4
  refine⟨_,ρ1,_,σd2,S1.mono M1 g2,ax,e6,fun σ2 S2=>⟨σd2,m3,ρ1,c,m6,S2,M2,e7,fun H3 ρ3 g3 M3=>?_⟩⟩
  have keepD:∀{ρa ρb:List Addr} {Ha Hb:Hp} {m:Mem},Go ρa ρb Ha Hb→MemAt K ρb m Hb→Ha D=some (.lst vs)→D∉ρa→Hb D=some (.lst vs)∧D∉ρb:=fun {ρa ρb Ha Hb m} ga Mb ha hn=>⟨ga.fr D _ ha hn,fun z=>(ga.nw D z).elim hn fun y=>by rw[ha]at y;cases y⟩
  obtain⟨hv2,hn2⟩:=keepD g2 M2 hv hnD
  obtain⟨hv3,hn3⟩:=keepD g3 M3 hv2 hn2
  cases c with
  | false=>
   dsimp only
   rw[if_neg Bool.false_ne_true]
   cases e4
   exact⟨_,by lia,rfl,hlt,zs,_,vs,_,ρ3,QS hout e6 (S2.mono M2 g3),M3,g1.trans (g2.trans g3),hv3,hn3,(as.mono M1 g2).mono M2 g3,e5,hys⟩
  | true=>
   dsimp only
   rw[if_pos rfl]
   obtain⟨⟨y,m7⟩,e8,e4⟩:=Option.map_eq_some_iff.mp (show (ev C pe σd2 m6).map (fun z=>(some z.1,z.2))=some (oy,m4) from e4)
   cases e4
   refine⟨σd2,m6,ρ3,y,m7,S2.mono M2 g3,M3,e8,fun v H5 ρ5 g5 M5 A5=>?_⟩
   obtain⟨hv5,hn5⟩:=keepD g5 M5 hv3 hn3
   have as5:=((as.mono M1 g2).mono M2 g3).mono M3 g5
   have hlen:vs.length<1001:=by
    have h1:=as.len
    rw[hys,List.length_append]at hyl
    lia
   have hz0:FzSub H5 (upd H5 D (.lst (vs++[v]))):=fun a' o' u' z'=>by
    rw[CJ]
    ·exact z'
    ·rintro rfl;rw[hv5]at z';cases z'
   have gall:=g1.trans (g2.trans (g3.trans g5))
   refine⟨vs,hv5,Nat.lt_of_lt_of_le hlen (G4 (by lia)),_,by lia,rfl,hlt,zs++[y],us',vs++[v],m7,ρ5,(QS hout e6 ((S2.mono M2 g3).mono M3 g5)).mono' hz0 (.refl _),M5.keep hz0 fun a' ha'=>CJ fun z=>hn5 (z▸ha'),⟨fun b' o' hb' hn'=>?_,gall.ex,gall.nw⟩,CV,hn5,(as5.mono' hz0 (.refl _)).snoc (A5.mono' hz0 (.refl _)),e5,by rw[hys];simp⟩
   rw[CJ (DR hb' hD)]
   exact gall.fr b' o' hb' hn'
 ·have hi':w.xs.drop i=[]:=List.drop_eq_nil_of_le (by lia)
  rw[hi']at e3
  unfold compL at e3
  split at e3
  case isFalse=>cases e3
  rename_i ok
  cases e3
  rw[List.append_nil]at hys
  subst hys
  refine .inl ⟨(wk i ρ1 _ H1 (g1.fz M0) (.pre g1.ex) M1 ok).2 (by lia),?_⟩
  cases mu with
  | true=>
   refine .inl (q' _ H1 (ρ1++[D]) ⟨g1.fr,g1.ex.trans (List.prefix_append _ _),fun b hb=>?_⟩ (M1.push' hnD ⟨vs,hv,as⟩) ⟨D,?_,rfl⟩)
   ·rcases List.mem_append.mp hb with hb | hb
    ·exact g1.nw b hb
    ·have:b=D:=by simpa using hb
     subst this
     exact .inr hD
   ·rw[←M1.len];simp
  | false=>
   have hz0:∀o,FzSub H1 (upd H1 D (.frz o (.lst vs))):=fun o a' o' u' z'=>by
    rw[CJ]
    ·exact z'
    ·rintro rfl;rw[hv]at z';cases z'
   refine .inr ⟨D,_,rfl,hv,trivial,fun o=>q' _ _ ρ1 ⟨fun b' o' hb' hn'=>?_,g1.ex,g1.nw⟩ (M1.keep (hz0 o) fun a' ha'=>CJ fun z=>hnD (z▸ha')) ⟨D,o,vs,rfl,CV,as.mono' (hz0 o) (.refl _)⟩⟩
   rw[CJ (DR hb' hD)]
   exact g1.fr b' o' hb' hn'
theorem GK{mu:Bool}(B:BlkOk X scope own)(hc:X.calm=true)(hi:PI X tg iter (tDI C X.K ip))(hg:∀C' s₀ H₀ ex,PG (cxC X scope own C' s₀ H₀ ex) tg (tDG X.K g))(ht:∀C' s₀ H₀ ex,PTs (cxC X scope own C' s₀ H₀ ex) ifs (tDT C X.K t))(he:∀C' s₀ H₀ ex,PE (cxC X scope own C' s₀ H₀ ex) elt (tD C X.K pe))
  (hs:∀x,foldedSetIterable iter X.env x=pure x:=by intro _;rfl):PE X (.ListComp elt [⟨tg,iter,ifs,0⟩] scope pos) (tD C X.K (.comp mu own.length g ip t pe)):=(qF B hc hi hg ht he hs).imf fun σ H Q h=>Z1 rfl rfl h
theorem ZX{wi:TI}{k:Nat}{gg:TG}{tt:TT}{te:TE}{σ:L2.St}{H:Hp}{Q Q':VK}(hwi:∀σ H R R',(∀J H1,R J H1→R' J H1)→wi σ H R→wi σ H R')(hq:∀v H,Q v H→Q' v H)(h:tComp wi k gg tt te σ H Q):tComp wi k gg tt te σ H Q':=by
 refine hwi σ H _ _ (fun J H1 h1 D hD=>?_) h
 obtain⟨W,h0,ht⟩:=h1 D hD
 refine⟨W,h0,fun i m σ' H' hw=>?_⟩
 rcases ht i m σ' H' hw with ⟨a,b⟩ | z
 ·exact .inl ⟨a,hq _ _ b⟩
 ·exact .inr z
theorem iD{C:String→List D→Mem→Option (D×Mem)}{K:PySem.W.Frag}{ip:Ie}:∀σ H R R',(∀J H1,R J H1→R' J H1)→tDI C K ip σ H R→tDI C K ip σ H R':=by
 intro σ H R R' h hq0
 obtain⟨σd,m,ρ,w,m',S,M,e,q⟩:=hq0
 exact⟨σd,m,ρ,w,m',S,M,e,fun J H' ρ' g M' wk=>h _ _ (q J H' ρ' g M' wk)⟩
def FzN(Q:L2.St→Hp→Prop):L2.St→Hp→Prop:=fun σ H=>Q σ H∨∃a u,H a=some u∧canFz u∧∀o,Q σ (upd H a (.frz o u))
theorem _root_.L2.PS.fzN{st:Stmt}{t:TS}(h:PS X st t):PS X st (fun E σ H=>t { E with nx:=FzN E.nx } σ H):=fun pins s σ H E I q=>thn (h pins s σ H _ I q) fun f s' z=>by
 cases f with
 | ret u=>exact z
 | brk=>exact z
 | cont=>exact z
 | next=>
  obtain⟨σ',H',I',q | ⟨a,w,ha,c,q⟩⟩:=z
  ·exact⟨σ',H',I',q⟩
  ·obtain⟨o,I2⟩:=freeze I' ha c
   exact⟨σ',_,I2,q o⟩
theorem bT{mu:Bool}(i:Nat){y:Str}{py spos:Pos}(hN:X.N.Nodup)(hiN:X.N[i]?=some y)(hy:X.env.scope.names.lookup y=some .local)(B:BlkOk X scope own)(hc:X.calm=true)(hi:PI X tg iter (tDI C X.K ip))(hg:∀C' s₀ H₀ ex,PG (cxC X scope own C' s₀ H₀ ex) tg (tDG X.K g))
  (ht:∀C' s₀ H₀ ex,PTs (cxC X scope own C' s₀ H₀ ex) ifs (tDT C X.K t)) (he:∀C' s₀ H₀ ex,PE (cxC X scope own C' s₀ H₀ ex) elt (tD C X.K pe))
  (hsw:swapsWith (.ListComp elt [⟨tg,iter,ifs,0⟩] scope pos) (some (.Name y py)) spos.line X.env=pure true:=by rfl)
  (hs:∀x,foldedSetIterable iter X.env x=pure x:=by intro _;rfl):PS X (.Assign [.Name y py] (.ListComp elt [⟨tg,iter,ifs,0⟩] scope pos) spos) (tDS C W X.K (.set i (.comp mu own.length g ip t pe))):=
 (pN hN hiN hy B hc hi hg ht he hsw hs).fzN.imp fun E σ H hq0=>by
 obtain⟨σd,m,ρ,o,m',S,M,e,q⟩:=hq0
 obtain⟨⟨d,m1⟩,e1,e⟩:=Option.map_eq_some_iff.mp e
 cases e
 have h:=Z1 (C:=C) (K:=X.K) (mu:=mu) (k:=own.length) (g:=g) (t:=t) (pe:=pe) (Q:=fun x H1=>E.nx (σ.set i (some x)) H1) rfl rfl ⟨σd,m,ρ,d,_,S,M,e1,fun v H1 ρ1 g1 M1 A1=>q H1 ρ1 g1 M1 _ ((S.mono M g1).set i A1)⟩
 refine ZX iD (fun v H1 z=>?_) h
 rcases z with z | ⟨a,u,rfl,ha,cu,z⟩
 ·exact .inl z
 ·exact .inr ⟨a,u,ha,cu,z⟩
end
noncomputable def spD(K:PySem.W.Frag)(call:List D→Mem→Option (D×Mem)):Sp:=fun vs H Q _=>∃ds m ρ d m',Ats K ρ H ds vs∧MemAt K ρ m H∧call ds m=some (d,m')∧∀v H',Go ρ ρ H H'→MemAt K ρ m' H'→At K ρ H' d v→Q v H'
def Cal(X:Cx)(C:String→List D→Mem→Option (D×Mem))(f:String):Prop:=∃(k:Nat) (fa:Addr) (fd:FuncData) (ps:List Str),FnOk X.prog X.w X.K X.mg X.base CX0 k fa fd ps (spD X.K (C f))∧Room k X.A∧X.mg (Str.ofString f)=some (.ref fa)∧PySem.W.keepIn X.K (.ref fa)=true∧Binds X.K fd ps []
section
variable{C:String→List D→Mem→Option (D×Mem)}{W:Nat}{X:Cx}{e:Expr}{es:List Expr}{ps:Exs}{p pos:Pos}{f:String}
theorem BZ(F:Cal X C f)(hg:Gl X (Str.ofString f))(ha:PA X (e::es) (tDs C X.K ps))(hdb:(Str.ofString f==("__debug__" : Str))=false:=by decide)(he:starEach (e::es) X.env=(false,eval e X.env)::starEach es X.env:=by rfl)(hpl:(backTo pos (starEach es X.env)).any (·.1)=false:=by rfl):
  PE X (.Call (.Name (Str.ofString f) p) (e::es) [] pos) (tD C X.K (.call f ps)):=by
 obtain⟨k,fa,fd,qs,F,hr,hm,hk,hb⟩:=F
 refine(qH F hr hg hm hk hb .nil xY ha hdb he hpl).imp fun σ H Q hq0=>?_
 obtain⟨σd,m,ρ,d,m',S,M,e,q⟩:=hq0
 obtain⟨⟨xs,m1⟩,e1,e⟩:=Option.bind_eq_some_iff.mp e
 refine⟨σd,m,ρ,xs,m1,S,M,e1,fun vs H1 ρ1 g1 M1 A1=>?_⟩
 show spD X.K (C f) (vs++[]) H1 Q E0
 rw[List.append_nil]
 exact⟨xs,m1,ρ1,d,m',A1,M1,e,fun v H' g M' A=>q v H' ρ1 (g1.trans g) M' A⟩
end
section
variable{X:Cx}
theorem _root_.L2.PSs.fz{st:List Stmt}{t:TS}(h:PSs X st t):PSs X st (fun E σ H=>t { E with rt:=Fz E.rt } σ H):=fun pins s σ H E I q=>thn (h pins s σ H _ I q) fun f s' z=>by
 cases f with
 | next=>exact z
 | brk=>exact z
 | cont=>exact z
 | ret u=>
  obtain⟨v,σ',H',I',r,q | ⟨a,w,e,ha,c,q⟩⟩:=z
  ·exact⟨v,σ',H',I',r,q⟩
  ·obtain⟨o,I2⟩:=freeze I' ha c
   exact⟨v,σ',_,I2,r,q o⟩
end
theorem iK{K:PySem.W.Frag}{ρ:List Addr}{H:Hp}{ds:List D}{vs:List V}{N:List Str}(h:Ats K ρ H ds vs):StAt K ρ H (ds.map some++List.replicate (N.length-ds.length) none) (L2.start N vs):=by
 unfold L2.start
 rw[h.len]
 refine⟨by simp[h.len],fun i d e=>?_⟩
 by_cases hi:i<ds.length
 ·rw[List.getElem?_append_left (by simpa using hi),List.getElem?_map]at e
  obtain⟨d',e1,e2⟩:=Option.map_eq_some_iff.mp e
  cases e2
  obtain⟨v,e3,a⟩:=h.get e1
  exact⟨v,by rw[List.getElem?_append_left (by simpa[h.len] using hi),List.getElem?_map,e3];rfl,a⟩
 ·rw[List.getElem?_append_right (by simp;lia)]at e
  have:=List.mem_of_getElem? e
  rw[List.mem_replicate]at this
  cases this.2
theorem Q0{ρ ρ':List Addr}(h:ρ <+: ρ'):ρ'.take ρ.length=ρ:=by
 obtain⟨t,rfl⟩:=h
 simp
section
variable{P:Program}{w:World}{K:PySem.W.Frag}{mg:Str→Option Value}{base:Heap}{W:Nat}{Γ:String→Option Fn}
theorem DG{name:String}{qual:Str}{st:Stmt}{f:Addr}{fd:FuncData}{N ps:List Str}{n:Nat}{F:Fn}(FN:Fun K (Str.ofString name) qual st f fd)(S:FnScope N ps (defScope st))(hΓ:Γ name=some F)(hps:F.ps=ps.length)(hns:F.ns=N.length)
  (hbody:∀(cdv:Value) (A:Around) (outer:List Env) (s:Shared) (H:Hp) (E:XK),Room n (A.deeper (envOfC qual (defScope st) s.heap.objs.size f cdv))→PSs (cxOf CX0 P w K mg base N qual (defScope st) f cdv A outer s H E).nox (defBody st) (tDSs (callI W Γ n) W K F.body)) :
  FnOk P w K mg base CX0 (n+1) f fd ps (spD K (callI W Γ (n+1) name)):=by
 refine FN.ok S (fun vs H Q E h=>?_) (fun cdv A outer s H vs Q E hr h=>?_)
 ·obtain⟨ds,m,ρ,d,m',as,M,e,_⟩:=h
  unfold callI at e
  rw[hΓ]at e
  have e:(if ds.length=F.ps then _ else none)=some (d,m'):=e
  split at e
  ·rename_i hl
   rw[as.len,hl,hps]
  ·cases e
 obtain⟨ds,m,ρ,d,m',as,M,e,q⟩:=h
 refine⟨_,(hbody cdv A outer s H E hr).fz,?_⟩
 unfold callI at e
 rw[hΓ]at e
 dsimp only[Option.bind_some]at e
 split at e
 case isFalse=>cases e
 rename_i hl
 obtain⟨⟨o,m1⟩,e1,e⟩:=Option.bind_eq_some_iff.mp e
 rw[hns,←hl]at e1
 refine⟨_,m,ρ,o,m1,iK as,M,e1,fun H' ρ' g M'=>?_⟩
 cases o with
 | nx σ'=>
  have hρ:ρ'.take m.length=ρ:=by rw[←M.len];exact Q0 g.ex
  have g':Go ρ ρ H H':=⟨g.fr,List.prefix_rfl,fun _ h=>.inl h⟩
  have Mc:MemAt K ρ (m1.take m.length) H':=by have:=M'.cut m.length;rw[hρ]at this;exact this
  have e:some (D.non,m1.take m.length)=some (d,m'):=e
  cases e
  intro σ1 S1
  exact q .non H' g' Mc rfl
 | rt d0=>
  intro v A0
  obtain⟨d1,e2,e⟩:=Option.map_eq_some_iff.mp (show (outD m.length m1 d0).map (fun d=>(d,m1.take m.length))=some (d,m') from e)
  cases e
  have hρ:ρ'.take m.length=ρ:=by rw[←M.len];exact Q0 g.ex
  have g':Go ρ ρ H H':=⟨g.fr,List.prefix_rfl,fun _ h=>.inl h⟩
  have Mc:MemAt K ρ (m1.take m.length) H':=by have:=M'.cut m.length;rw[hρ]at this;exact this
  have plain:d0.clean=true→d0=d→Fz Q v H':=fun hc hd=>by
   subst hd
   exact .inl (q v H' g' Mc (A0.clean (fun _ _ _ z=>z) hc))
  have frozen:∀{i:Nat} {u:HO} {a:Addr},ρ'[i]?=some a→m.length≤i→v=.ref a→H' a=some u→canFz u→(∀o,FzSub H' (upd H' a (.frz o u))→At K ρ (upd H' a (.frz o u)) d v)→Fz Q v H':=fun {i u a} hi hle hv ha hu hat=>by
   have hn:a∉ρ:=fun z=>by
    obtain⟨j,hj,ej⟩:=List.getElem_of_mem z
    have e3:ρ'[j]?=some a:=RSub.pre g.ex j a (by rw[List.getElem?_eq_getElem hj,ej])
    obtain⟨h1,x1⟩:=List.getElem?_eq_some_iff.mp hi
    obtain⟨h2,x2⟩:=List.getElem?_eq_some_iff.mp e3
    have:=(List.getElem_inj M'.nd).mp (x1.trans x2.symm)
    rw[M.len]at hj
    lia
   have hfree:H a=none:=by
    rcases g.nw a (List.mem_of_getElem? hi) with z | z
    ·exact absurd z hn
    ·exact z
   have hz0:∀o,FzSub H' (upd H' a (.frz o u)):=fun o a' o' u' z'=>by
    rw[CJ]
    ·exact z'
    ·rintro rfl;rw[ha]at z';cases z';exact hu
   refine .inr ⟨a,u,hv,ha,hu,fun o=>q v _ ⟨fun b ob hb hnb=>?_,List.prefix_rfl,fun _ h=>.inl h⟩ (Mc.keep (hz0 o) fun b hb=>CJ fun z=>hn (z▸hb)) (hat o (hz0 o))⟩
   rw[CJ (DR hb hfree)]
   exact g.fr b ob hb hnb
  cases d0 with
  | mref i=>
   obtain⟨a,hi,rfl⟩:=A0
   have e2:(if i<m.length then none else match m1[i]? with
    | some (.lst xs)=>if D.clean.cleans xs then some (D.lst xs) else none
    | some (.dct ks vs)=>if D.clean.cleans vs then some (D.dct ks vs) else none
    | _=>none)=some d:=e2
   split at e2
   case isTrue=>cases e2
   rename_i hge
   split at e2
   ·rename_i xs hm
    split at e2
    ·rename_i hc
     cases e2
     obtain⟨us,ha,bs⟩:=M'.at' i a _ hi hm
     exact frozen hi (by lia) rfl ha trivial fun o hz=>⟨a,o,us,rfl,CV,bs.clean hz hc⟩
    ·cases e2
   ·rename_i ks xs hm
    split at e2
    ·rename_i hc
     cases e2
     obtain⟨kvs,ha,hk,bs⟩:=M'.at' i a _ hi hm
     exact frozen hi (by lia) rfl ha trivial fun o hz=>⟨a,o,kvs,rfl,CV,hk,bs.clean hz hc⟩
    ·cases e2
   ·cases e2
  | _=>
   unfold outD at e2
   dsimp only at e2
   split at e2
   ·rename_i hc
    exact plain hc (Option.some.inj e2)
   ·cases e2
end
end WL
end
section
namespace PySem
end PySem
namespace WL
open PySem PySem.Spec PyProof.Rows L2
section
variable{prog:Program}{w:World}{A:Around}{E:Value→Shared→Prop}{s:Shared}
theorem KZ{t sl:Addr}{items:Array Value}{vl vu:Value}{lo hi:Option Int}{Q:Value→Shared→Prop}(ht:IsTup s.heap t items)(hs:s.heap.IsSliceOf sl vl vu .none)(pl:IsPart vl lo)(pu:IsPart vu hi)
  (hw:HT.sIx items.size 0 lo=0∧HT.sIx items.size items.size hi=items.size)
  (h:Q (.ref t) s) (hsz:items.size≤sizeLine):wpAny (model prog w) A (getItem (.ref t) (.ref sl)) Q E s:=by
 obtain⟨os,hos,hcs,hds⟩:=id hs
 have hTs:s.TypeIs (.ref sl) "slice":=⟨os,hos,hcs⟩
 unfold getItem
 try with_reducible refine wpAny_holding ?_
 first | refine wpAny_bind (wpAny_pure ?_) | skip
 refine wpAny_bind (wpAny_sequenceKey ht.typeIs (by decide) ?_)
 refine wpAny_bind (wpAny_callSpecial?_slot (name:=Str.ofString "__getitem__") ht.typeIs PyProof.Rows.slot_tuple_getitem
  (wpAny_call_entry PyProof.Rows.slot_tuple_getitem ht.typeIs entry_tuple_getitem ?_ (args_tuple_getitem _ _)))
 show wpAny _ _ (Builtin.Tuple.tupleItemsOf (.ref t) >>= _) _ _ s
 refine wpAny_bind (tupleItemsOf_ ht ?_)
 refine wpAny_bind (wpAny_typeOf hTs ?_)
 rw[if_pos (by decide)]
 refine wpAny_bind (HT.sliceApplied_gen hs pl pu ?_)
 have hyes:((((HT.sIx items.size 0 lo:Nat):Int)==0&&(1:Int)==1&&(HT.sIx items.size items.size hi-HT.sIx items.size 0 lo)==items.size)=true):=by
  rw[hw.1,hw.2];simp
 show wpAny _ _ (if (((HT.sIx items.size 0 lo:Nat):Int)==0&&(1:Int)==1&&(HT.sIx items.size items.size hi-HT.sIx items.size 0 lo)==items.size)=true then _ else _) _ _ s
 rw[if_pos hyes]
 refine wpAny_bind (m:=Builtin.Tuple.tupleIsExact (.ref t)) ?_
 unfold Builtin.Tuple.tupleIsExact
 refine wpAny_bind (wpAny_typeOf ht.typeIs (wpAny_pure ?_))
 rw[if_pos (by decide)]
 first
  | exact wpAny_bind (wpAny_rule (wpAny_pure ⟨_,rfl,wpAny_pure h⟩))
  | exact wpAny_rule (wpAny_pure ⟨_,rfl,wpAny_pure h⟩)
  | exact wpAny_bind (wpAny_pure (wpAny_pure ⟨_,rfl,wpAny_pure h⟩))
  | exact wpAny_pure ⟨_,rfl,wpAny_pure h⟩
end
section
variable{C:String→List D→Mem→Option (D×Mem)}{X:Cx}{a:Expr}{pa:Ex}{pos p2:Pos}{lo hi:Option Expr}{ol oh:Oe}
theorem sl_tupF:SlR X (rSlF X.K):=by
 intro pins s σ H x v vl vu lo hi sl Q I rx hs pl pu h
 obtain⟨a,xs,rfl,hx,hw,hn⟩:=h
 cases rx
 obtain⟨its,r,ht,hz⟩:=I.tuple hx.sq
 have hlen:its.toArray.size=xs.length:=by rw[List.size_toArray];exact r.length.symm
 refine⟨"tuple",_,PyProof.Rows.slot_tuple_getitem.lookup,ht.typeIs,?_⟩
 by_cases c:HT.sIx xs.length 0 lo=0∧HT.sIx xs.length xs.length hi=xs.length
 ·exact KZ ht hs pl pu (by rw[hlen];exact c) ⟨.ref a,H,I,rfl,hw c⟩ (by rw[hlen];exact hz)
 ·refine HT.getItem_tuple_cut ht hs pl pu (by rw[hlen];exact c) ?_ (by rw[hlen];exact hz)
  rw[hlen]
  refine⟨.ref s.heap.objs.size,_,I.laid (t':=s.toks) (o:=.frz { cls:=.type "tuple",data:=.seq ((its.toArray.toList.drop (HT.sIx xs.length 0 lo)).take (HT.sIx xs.length xs.length hi-HT.sIx xs.length 0 lo)).toArray } (.tup (cutV xs lo hi))) (fun b ob q=>Heap.get?_push_of_some _ q) (Nat.le_refl _) ?_,rfl,hn c _ _ (I.hok.fresh (Nat.le_refl _)) rfl rfl⟩
  exact⟨Heap.get?_push_size _ rfl,Nat.le_trans (Q5 xs lo hi) hz,_,(r.drop (HT.sIx xs.length 0 lo)).take (HT.sIx xs.length xs.length hi-HT.sIx xs.length 0 lo),IsTup.new _ _⟩
theorem zK:SlR X (fun x lo hi H Q=>rSlF X.K x lo hi H Q∨rSlL X.K x lo hi H Q∨rSlS x lo hi H Q):=sl_tupF.or (sl_list.or uK)
theorem Ats.cut{K:PySem.W.Frag}{ρ:List Addr}{H:Hp}{ds:List D}{vs:List V}(h:Ats K ρ H ds vs)(lo hi:Option Int):Ats K ρ H (cutD ds lo hi) (cutV vs lo hi):=by
 unfold cutD cutV
 rw[h.len]
 exact(h.drop _).take _
theorem bU:PO X none (tDO C X.K .no):=(pU (X:=X)).imp fun σ H Q hq0=>by
 obtain⟨σd,m,ρ,c,m',S,M,e,q⟩:=hq0
 cases e
 exact q H ρ (.refl _ _) M
theorem S6(ha:PE X a (tD C X.K pa)):PO X (some a) (tDO C X.K (.pt pa)):=(pR ha).imp fun σ H Q hq0=>by
 obtain⟨σd,m,ρ,c,m',S,M,e,q⟩:=hq0
 obtain⟨⟨x,m1⟩,e1,e⟩:=Option.bind_eq_some_iff.mp e
 cases x with
 | int i=>
  cases e
  refine⟨σd,m,ρ,_,_,S,M,e1,fun v H1 ρ1 g1 M1 A1=>?_⟩
  cases A1
  exact⟨i,rfl,q H1 ρ1 g1 M1⟩
 | _=>cases e
theorem xO{ρ:List Addr}{m:Mem}{H:Hp}{d d':D}{x:V}{l h:Option Int}{Q:VK}(M:MemAt X.K ρ m H)(A:At X.K ρ H d x)(e:slD d l h=some d')(q:Beh X.K ρ H d' m Q):rSlF X.K x l h H (Fz Q)∨rSlL X.K x l h H (Fz Q)∨rSlS x l h H (Fz Q):=by
 cases d with
 | tup xs=>
  cases e
  obtain⟨p,vs,rfl,ht,as⟩:=A
  refine .inl ⟨p,vs,rfl,ht,fun c=>.of ?_,fun c p' o hp hc hd=>.of (q.tup M (as.cut l h) hp hc hd)⟩
  have e1:cutD xs l h=xs:=by
   unfold cutD
   rw[as.len]at c
   rw[c.1,c.2]
   simp
  rw[e1]at q
  exact q.here M ⟨p,vs,rfl,ht,as⟩
 | lst xs=>
  cases e
  obtain⟨p,vs,rfl,hs,as⟩:=G8 M A (show lstOf (.lst xs) m=some xs from rfl)
  exact .inr (.inl ⟨p,vs,rfl,hs,fun p' hp=>Beh.lst (mu:=false) q M (as.cut l h) hp⟩)
 | scr ns=>
  cases e
  obtain⟨p,vs,rfl,hs,as⟩:=G8 M A (show lstOf (.scr ns) m=some (ns.map .int) from rfl)
  exact .inr (.inl ⟨p,vs,rfl,hs,fun p' hp=>Beh.lst (mu:=false) q M (as.cut l h) hp⟩)
 | str z=>
  cases A
  have e:(if z.length≤1000 then some (D.str (StrLaws.sliceText z l h)) else none)=some d':=e
  split at e
  ·rename_i hl
   cases e
   exact .inr (.inr ⟨z,rfl,G4 (by lia),.of (q.here M rfl)⟩)
  ·cases e
 | _=>cases e
theorem XH(ha:PE X a (tD C X.K pa))(hl:PO X lo (tDO C X.K ol))(hh:PO X hi (tDO C X.K oh)):PE X (.Subscript a (.Slice lo hi none p2) pos) (tD C X.K (.sl pa ol oh)):=(jE zK ha hl hh).imf fun σ H Q hq0=>by
 obtain⟨σd,m,ρ,d,m',S,M,e,q⟩:=hq0
 obtain⟨⟨x,m1⟩,e1,e⟩:=Option.bind_eq_some_iff.mp e
 obtain⟨⟨l,m2⟩,e2,e⟩:=Option.bind_eq_some_iff.mp e
 obtain⟨⟨h,m3⟩,e3,e⟩:=Option.bind_eq_some_iff.mp e
 obtain⟨d',e4,e⟩:=Option.map_eq_some_iff.mp e
 cases e
 exact⟨σd,m,ρ,x,m1,S,M,e1,fun v H1 ρ1 g1 M1 A1=>⟨σd,m1,ρ1,l,m2,S.mono M g1,M1,e2,fun H2 ρ2 g2 M2=>⟨σd,m2,ρ2,h,_,(S.mono M g1).mono M1 g2,M2,e3,fun H3 ρ3 g3 M3=>xO M3 ((A1.mono M1 g2).mono M2 g3) e4 (q.go (g1.trans (g2.trans g3)))⟩⟩⟩
theorem iJ(a b:Str):strLe a b=!ltCps b.cps.toList a.cps.toList:=by unfold strLe;rw[ltCps_eq]
theorem nY{a b:Str}(h:a.cps.toList=b.cps.toList):a=b:=by
 obtain⟨x⟩:=a
 obtain⟨y⟩:=b
 have:x=y:=by simpa using congrArg List.toArray h
 rw[this]
theorem LR{a b:Str}(h1:strLe a b=true)(h2:strLe b a=true):a=b:=by
 unfold strLe at h1 h2
 simp only[Bool.not_eq_true',decide_eq_false_iff_not]at h1 h2
 exact nY (List.le_antisymm h1 h2)
theorem JX{a b c:Str}(h1:strLe a b=true)(h2:strLe b c=true):strLe a c=true:=by
 unfold strLe at *
 simp only[Bool.not_eq_true',decide_eq_false_iff_not]at *
 exact List.le_trans h1 h2
theorem PL(a b:Str):(strLe a b||strLe b a)=true:=by
 unfold strLe
 rcases List.le_total a.cps.toList b.cps.toList with h | h
 ·rw[decide_eq_false (show ¬b.cps.toList<a.cps.toList from h)];rfl
 ·rw[decide_eq_false (show ¬a.cps.toList<b.cps.toList from h),Bool.or_comm];rfl
theorem aD:∀{l:List Str},sortedS l=true→l.Pairwise fun a b=>strLe a b=true
 | [],_=>.nil
 | x::r,h=>by
  have go:∀(r:List Str) (p:Str),risingS p r=true→(p::r).Pairwise fun a b=>strLe a b=true:=by
   intro r
   induction r with
   | nil=>intro p _;exact List.pairwise_singleton _ _
   | cons y r ih=>
    intro p h
    have h':(!ltCps y.cps.toList p.cps.toList)=true∧risingS y r=true:=Bool.and_eq_true_iff.mp h
    have i:=ih y h'.2
    have hp:strLe p y=true:=by rw[iJ];exact h'.1
    refine List.pairwise_cons.mpr ⟨fun z hz=>?_,i⟩
    rcases List.mem_cons.mp hz with rfl | hz
    ·exact hp
    ·exact JX hp (List.rel_of_pairwise_cons i hz)
  exact go r x h
theorem o8{ss ss':List Str}(hp:ss'.Perm ss)(hs:sortedS ss'=true):ss'=sortStr ss:=by
 have h1:(sortStr ss).Pairwise fun a b=>strLe a b=true:=List.pairwise_mergeSort (le:=strLe) (fun a b c h1 h2=>JX h1 h2) PL ss
 exact List.Perm.eq_of_pairwise (fun x y _ _ h1 h2=>LR h1 h2) (aD hs) h1 (hp.trans (List.mergeSort_perm ss strLe).symm)
theorem fY{ks:List Key}:∀{ss:List Str},strsOf (ks.map b1D.kD)=some ss→ks=ss.map Sum.inr:=by
 induction ks with
 | nil=>intro ss e;cases e;rfl
 | cons k r ih=>
  intro ss e
  cases k with
  | inl i=>cases e
  | inr x=>
   obtain⟨ss',e1,rfl⟩:=Option.map_eq_some_iff.mp (show (strsOf (r.map b1D.kD)).map (x::·)=some ss from e)
   rw[ih e1];rfl
theorem aM{mu:Bool}{p1 q1:Pos}(hc:X.calm=true)(hg:Gl X "sorted")(hm:X.mg "sorted" = none)(ha:PE X a (tD C X.K pa))(he:starEach [a] X.env=[(false,eval a X.env)]:=by rfl):PE X (.Call (.Name "sorted" p1) [a] [] q1) (tD C X.K (.b1 (.sortedD mu) pa)):=
 S8 (WK hc) (by
  intro ρ m m' H dx d x Q M ax e q
  obtain⟨⟨ks,vs⟩,e1,e⟩:=Option.bind_eq_some_iff.mp (show ((dctOf dx m).bind fun z=>if z.1.length<64 then (strsOf (z.1.map b1D.kD)).map fun ss=>mkL mu ((sortStr ss).map .str) m else none)=some (d,m') from e)
  split at e
  case isFalse=>cases e
  rename_i h64
  obtain⟨ss,e2,e⟩:=Option.map_eq_some_iff.mp e
  obtain⟨p,kvs,rfl,hr,ka⟩:=W4 M ax e1
  have hk:=fY e2
  refine⟨p,kvs,ss,rfl,hr,by rw[ka.1];exact hk,by rw[←WQ ka];exact h64,fun l ss' hl hp hs=>?_⟩
  rw[o8 hp hs]
  have q':Beh X.K ρ H (mkL mu ((sortStr ss).map D.str) m).1 (mkL mu ((sortStr ss).map D.str) m).2 Q:=by rw[e];exact q
  refine q'.lst M ?_ hl
  have:∀l:List Str,Ats X.K ρ H (l.map D.str) (l.map V.str):=fun l=>by
   induction l with
   | nil=>rfl
   | cons y r ih=>exact⟨_,_,rfl,rfl,ih⟩
  exact this _) PyProof.Rows.boot_sorted hg hm ha (by decide) (by decide) he
theorem XM{ps:List (Str×Int)}(hn:(ps.map (·.1)).Nodup):∀{js:List Nat},(∀j∈js,j<ps.length)→PySem.W.risesA (ansP ps) js=true→js.Pairwise fun i j=>ansP ps i j=true
 | [],_,_=>.nil
 | [_],_,_=>List.pairwise_singleton _ _
 | a::b::r,hj,h=>by
  have h':ansP ps a b=true∧PySem.W.risesA (ansP ps) (b::r)=true:=Bool.and_eq_true_iff.mp h
  have ih:=XM hn (js:=b::r) (fun j hj'=>hj j (List.mem_cons_of_mem _ hj')) h'.2
  refine List.pairwise_cons.mpr ⟨fun z hz=>?_,ih⟩
  rcases List.mem_cons.mp hz with rfl | hz
  ·exact h'.1
  ·exact(ZK hn).2.2 a b z (hj a (by simp)) (hj b (by simp)) (hj z (by simp[hz])) h'.1 (List.rel_of_pairwise_cons ih hz)
theorem S9{K:PySem.W.Frag}{ρ:List Addr}{H:Hp}:∀{ds:List D} {vs:List V} {ps:List (Str×Int)},pairSIs ds=some ps→Ats K ρ H ds vs→SiV K H vs ps∧ds=ps.map unSI
 | [],_,_,e,a=>by
  cases e
  cases (show _=[] from a)
  exact⟨.nil,rfl⟩
 | d::r,_,ps,e,hq1=>by
  obtain⟨v,vr,ev,a1,as⟩:=hq1
  subst ev
  unfold pairSIs at e
  split at e
  ·rename_i hd;cases hd
  ·rename_i a b r' hd
   cases hd
   obtain⟨ps',e1,rfl⟩:=Option.map_eq_some_iff.mp e
   obtain⟨h1,h2⟩:=S9 e1 as
   obtain⟨p,ws,rfl,ht,aw⟩:=a1
   obtain⟨x,xr,rfl,ax,y,yr,rfl,ay,hn⟩:=aw
   cases (show _=[] from hn)
   cases ax
   cases ay
   exact⟨.cons ⟨p,rfl,ht.sq⟩ h1,by rw[h2];rfl⟩
  ·cases e
theorem eZ{ps L:List (Str×Int)}(hn:(ps.map (·.1)).Nodup)(hp:L.Perm ps)(hs:L.Pairwise fun p q=>strLe p.1 q.1=true):L=sortSI ps:=by
 have h1:(sortSI ps).Pairwise fun p q=>strLe p.1 q.1=true:=List.pairwise_mergeSort (le:=fun p q:Str×Int=>strLe p.1 q.1) (fun a b c h1 h2=>JX h1 h2) (fun a b=>PL _ _) ps
 refine List.Perm.eq_of_pairwise (fun x y hx hy h1 h2=>?_) hs h1 (hp.trans (List.mergeSort_perm ps _).symm)
 have hx':=hp.mem_iff.mp hx
 have hy':y∈ps:=(List.mergeSort_perm ps _).mem_iff.mp hy
 have hk:=LR h1 h2
 obtain⟨i,hi,ei⟩:=List.getElem_of_mem hx'
 obtain⟨j,hj,ej⟩:=List.getElem_of_mem hy'
 have:i=j:=(List.getElem_inj hn (h₀:=by simpa using hi) (h₁:=by simpa using hj)).mp (by simp[ei,ej,hk])
 subst this
 rw[←ei,←ej]
theorem ZG{K:PySem.W.Frag}{ρ:List Addr}{H:Hp}{ds:List D}{vs:List V}(as:Ats K ρ H ds vs):∀js:List Nat,(∀j∈js,j<ds.length)→Ats K ρ H (js.map fun j=>ds.getD j .non) (js.map fun j=>vs.getD j .non)
 | [],_=>rfl
 | j::js,h=>by
  have hj:=h j List.mem_cons_self
  obtain⟨v,e,a⟩:=as.get (show ds[j]?=some ds[j] by simp[hj])
  refine⟨_,_,rfl,?_,ZG as js fun i hi=>h i (List.mem_cons_of_mem _ hi)⟩
  show At K ρ H (ds.getD j .non) (vs.getD j .non)
  rw[List.getD_eq_getElem?_getD,List.getD_eq_getElem?_getD,e]
  simpa[hj] using a
theorem fK{α:Type}(l:List α)(d:α){js:List Nat}(h:js.Perm (List.range l.length)):(js.map fun j=>l.getD j d).Perm l:=by
 have e:(List.range l.length).map (fun j=>l.getD j d)=l:=by
  apply List.ext_getElem?
  intro i
  by_cases hi:i<l.length
  ·rw[List.getElem?_map,List.getElem?_range hi]
   simp[List.getD_eq_getElem?_getD,hi]
  ·rw[List.getElem?_eq_none (by simp;lia),List.getElem?_eq_none (by lia)]
 have:=h.map fun j=>l.getD j d
 rwa [e]at this
theorem O5{mu:Bool}{p1 q1:Pos}(hg:Gl X "sorted")(hm:X.mg "sorted" = none)(ha:PE X a (tD C X.K pa))(he:starEach [a] X.env=[(false,eval a X.env)]:=by rfl):PE X (.Call (.Name "sorted" p1) [a] [] q1) (tD C X.K (.b1 (.sorted mu) pa)):=
 S8 W9 (by
  intro ρ m m' H dx d x Q M ax e q
  obtain⟨xs,e1,e⟩:=Option.bind_eq_some_iff.mp (show ((lstOf dx m).bind fun xs=>(pairSIs xs).bind fun ps=>if xs.length≤4∧(ps.map (·.1)).Nodup then some (mkL mu ((sortSI ps).map unSI) m) else none)=some (d,m') from e)
  obtain⟨ps,e2,e⟩:=Option.bind_eq_some_iff.mp e
  split at e
  case isFalse=>cases e
  rename_i hc
  have e':=Option.some.inj e
  obtain⟨p,vs,rfl,hr,as⟩:=G8 M ax e1
  obtain⟨si,hds⟩:=S9 e2 as
  have hl1:=as.len
  have hl2:xs.length=ps.length:=by rw[hds,List.length_map]
  refine⟨p,vs,ps,rfl,hr,si,by lia,hc.2,fun l js hl hp hs=>?_⟩
  have q':Beh X.K ρ H (mkL mu ((sortSI ps).map unSI) m).1 (mkL mu ((sortSI ps).map unSI) m).2 Q:=by rw[e'];exact q
  refine q'.lst M ?_ hl
  have hjs:∀j∈js,j<vs.length:=fun j hj=>List.mem_range.mp (hp.mem_iff.mp hj)
  have hpw:=XM hc.2 (fun j hj=>by have:=hjs j hj;lia) hs
  have hL:(js.map fun j=>ps.getD j (⟨#[]⟩,0))=sortSI ps:=by
   refine eZ hc.2 (fK ps _ (by rw[←hl2,←hl1];exact hp)) ?_
   rw[List.pairwise_map]
   have hnd:js.Nodup:=hp.nodup_iff.mpr List.nodup_range
   refine List.Pairwise.imp_of_mem (fun {i j} hi hj z=>?_) (List.Pairwise.and hpw hnd)
   obtain⟨z1,z2⟩:=z
   have ki:=hjs i hi
   have kj:=hjs j hj
   unfold ansP at z1
   rw[KD (key_ne hc.2 (by lia) (by lia) z2),decide_eq_true_eq]at z1
   unfold strLe
   rw[decide_eq_false (fun h=>List.lt_irrefl _ (List.lt_trans z1 h))]
   rfl
  rw[←hL,List.map_map]
  have hap:=ZG as js fun j hj=>by have:=hjs j hj;lia
  have he':(js.map (unSI∘fun j=>ps.getD j (⟨#[]⟩,0)))=js.map fun j=>xs.getD j .non:=by
   apply List.map_congr_left
   intro j hj
   have:=hjs j hj
   rw[hds]
   simp only[Function.comp,List.getD_eq_getElem?_getD,List.getElem?_map]
   have hjp:j<ps.length:=by lia
   rw[List.getElem?_eq_getElem hjp]
   rfl
  rw[he']
  exact hap) PyProof.Rows.boot_sorted hg hm ha (by decide) (by decide) he
theorem xR{x:Str}{d:D}{v:V}{u:Value}(hg:Gl X x)(hm:X.mg x=some u)(r:RelV v u)(ha:∀ρ H,At X.K ρ H d v)(hd:(x==("__debug__" : Str))=false:=by decide):PE X (.Name x pos) (tD C X.K (.con d)):=V1 (qD hg hm r hd) ha
end
end WL
end
section
namespace WL
open PySem PySem.Spec PyProof.Rows L2
def GlAt(K:PySem.W.Frag)(mg:Str→Option Value)(x:String)(d:D):Prop:=∃v u,mg (Str.ofString x)=some u∧L2.RelV v u∧∀ρ H,At K ρ H d v
theorem uQ{C:String→List D→Mem→Option (D×Mem)}{X:Cx}{pos:Pos}{x:String}{d:D}(h:GlAt X.K X.mg x d)(hg:Gl X (Str.ofString x))(hd:(Str.ofString x==("__debug__" : Str))=false:=by decide):PE X (.Name (Str.ofString x) pos) (tD C X.K (.con d)):=by
 obtain⟨v,u,hm,r,ha⟩:=h
 exact xR hg hm r ha hd
section
variable(P:Program)(w:World)(K:PySem.W.Frag)(mg:Str→Option Value)(base:Heap)
def There(name:String)(st:Stmt)(ps:List Str)(fa:Addr)(fd:FuncData):Prop:=Fun K (Str.ofString name) (Str.ofString name) st fa fd∧Binds K fd ps []∧mg (Str.ofString name)=some (.ref fa)
def Def(n:Nat)(C:String→List D→Mem→Option (D×Mem))(g:String):Prop:=∃(fa:Addr) (fd:FuncData) (ps:List Str),FnOk P w K mg base CX0 n fa fd ps (spD K (C g))∧mg (Str.ofString g)=some (.ref fa)∧PySem.W.keepIn K (.ref fa)=true∧Binds K fd ps []
end
section
variable{P:Program}{w:World}{K:PySem.W.Frag}{mg:Str→Option Value}{base:Heap}{W:Nat}{Γ:String→Option Fn}
theorem Def.cal{X:Cx}{n:Nat}{C:String→List D→Mem→Option (D×Mem)}{g:String}(h:Def X.prog X.w X.K X.mg X.base n C g)(hr:Room n X.A):Cal X C g:=by
 obtain⟨fa,fd,ps,F,hm,hk,hb⟩:=h
 exact⟨n,fa,fd,ps,F,hr,hm,hk,hb⟩
theorem rO{name:String}{f:Addr}{fd:FuncData}{ps:List Str}:FnOk P w K mg base CX0 0 f fd ps (spD K (callI W Γ 0 name)):=by
 have no:∀vs H Q E,¬spD K (callI W Γ 0 name) vs H Q E:=fun vs H Q E h=>by
  obtain⟨ds,m,ρ,d,m',_,_,e,_⟩:=h
  cases e
 exact⟨fun vs H Q E h=>absurd h (no vs H Q E),fun A outer s H args us vs Q E _ _ _ _ h=>absurd h (no vs H Q E)⟩
theorem There.zero{name:String}{st:Stmt}{ps:List Str}{fa:Addr}{fd:FuncData}(t:There K mg name st ps fa fd):Def P w K mg base 0 (callI W Γ 0) name:=⟨fa,fd,ps,rO,t.2.2,t.1.kp,t.2.1⟩
end
end WL
namespace WL
open PySem PySem.Spec PyProof.Rows L2
noncomputable def spLaw(K:PySem.W.Frag):Sp:=fun vs H Q _=>∃(a:Addr) (ns:List Int),vs=[.ref a]∧ScrAt K H a (ns.map V.int)∧ns.length≤63∧∀H',Q (.bl true) H'
theorem rE{P:Program}{w:World}{K:PySem.W.Frag}{mg:Str→Option Value}{base:Heap}{k:Nat}{f:Addr}{fd:FuncData}{ps:List Str}{call:List D→Mem→Option (D×Mem)}(F:FnOk P w K mg base CX0 k f fd ps (spD K call))(h:∀ns:List Int,ns.length≤63→call [.scr ns] []=some (.bl true,[])):
  FnOk P w K mg base CX0 k f fd ps (spLaw K):=F.imp fun vs H Q E hq0=>by
 obtain⟨a,ns,e,hs,hl,q⟩:=hq0
 subst e
 refine⟨[.scr ns],[],[],.bl true,[],⟨_,_,rfl,⟨a,rfl,hs⟩,rfl⟩,⟨rfl,List.nodup_nil,fun j a o e=>by simp at e⟩,h ns hl,fun v H' _ _ A=>?_⟩
 cases A
 exact q H'
theorem uT{K:PySem.W.Frag}{H:Hp}{a:Addr}{vs:List V}(o:Only H)(h:SqL K H a vs):ScrAt K H a vs:=by
 rcases h with (h | ⟨ob,h⟩) | h
 ·rcases o a with z | ⟨ob,xs,z⟩
  ·rw[h]at z;cases z
  ·rw[h]at z;cases z
 ·exact .inl ⟨ob,h⟩
 ·exact .inr h
theorem walk_law{l:PySem.W.OpenLaw}{q:Program}{loose:List Str}{XP:(Str→Option Value)→Heap→Prop}{YP:World→Heap→Prop}{d:DefRec}{K:Params→PySem.W.Frag}(hn:l.most=some 63)(hdf:d.params.defaults=[])
  (hY:∀(w:World) (h:Heap),YP w h→(K w.params).In h)
  (F:∀(w:World) (mg:Str→Option Value) (fa:Addr) (h:Heap),(K w.params).In h→h.Ns mainGlobals mg→mg d.name=some (.ref fa)→
   ∃fd:FuncData,(∀(s:Shared) (u:Value),BindsTo s fd ⟨[u],[]⟩ [("_law_script",u)])∧∀base:Heap,(K w.params).In base→base.Ns mainGlobals mg→FnOk l.prog w (K w.params) mg base CX0 60 fa fd ["_law_script"] (spLaw (K w.params))) :
  PySem.W.WalkO q loose XP YP l.row.toRowW d [] (fun f vs=>PySem.call f vs):=
 L2.walk_of (n:=63) (k:=60) (x:="_law_script") (CX:=fun _=>CX0) (sp:=fun w=>spLaw (K w.params)) hn (by decide) hdf ⟨rfl,by decide,by decide⟩ hY F (fun _ _ a ns hl ho hS=>⟨a,ns,rfl,uT ho hS,hl,fun _=>rfl⟩) fun _ _ _ _ _ z=>z
end WL
end
section
namespace WL
open PySem PySem.Spec PyProof.Rows L2
noncomputable def tyD:D→Option String
 | .non=>some "NoneType"
 | .bl _=>some "bool"
 | .int _=>some "int"
 | .str _=>some "str"
 | .tup _=>some "tuple"
 | .lst _=>some "list"
 | .scr _=>some "list"
 | _=>none
section
variable{C:String→List D→Mem→Option (D×Mem)}{X:Cx}{a b:Expr}{pa pb:Ex}{pos p p2:Pos}
def rIsi(K:PySem.W.Frag)(T:String):List V→Hp→VK→Prop:=fun xs H Q=>∃ρ d x t b,xs=[x,.ty T]∧At K ρ H d x∧tyD d=some t∧PySem.W.kitOne K (.type t) (.type T)=some b∧Q (.bl b) H
theorem mO{T:String}:CallR X (.builtin "isinstance") (rIsi X.K T):=by
 intro pins s σ H xs us Q I r h
 obtain⟨ρ,d,x,t,b,rfl,A,e,k,q⟩:=h
 obtain⟨u,c,rfl,rx,rc⟩:=vals2 r
 cases rc
 have fin:∀tk,EP X pins σ Q (.bool b) { s with toks:=tk }:=fun tk=>⟨.bl b,H,I.tok tk,rfl,q⟩
 cases d with
 | non=>cases e;cases A;cases rx;exact PySem.W.kia_one PySem.W.kitx_none I.kIn True.intro k (fun z=>nomatch z) fin
 | bl y=>cases e;cases A;cases rx;exact PySem.W.kia_one PySem.W.kitx_bool I.kIn True.intro k (fun z=>nomatch z) fin
 | int i=>cases e;cases A;obtain⟨t,rfl⟩:=rx;exact PySem.W.kia_one PySem.W.kitx_int I.kIn True.intro k (fun z=>nomatch z) fin
 | str i=>cases e;cases A;obtain⟨t,rfl⟩:=rx;exact PySem.W.kia_one PySem.W.kitx_str I.kIn True.intro k (fun z=>nomatch z) fin
 | tup ys=>
  cases e
  obtain⟨a,vs,rfl,ht,_⟩:=A
  cases rx
  obtain⟨_,_,⟨o,h1,h2,_⟩,_⟩:=I.tuple ht.sq
  exact PySem.W.kia_one PySem.W.kitx_tuple I.kIn ⟨o,h1,h2⟩ k (fun z=>nomatch z) fin
 | lst ys=>
  cases e
  obtain⟨a,o,vs,rfl,ht,_⟩:=A
  cases rx
  obtain⟨_,_,⟨o,_,h1,h2,_⟩,_⟩:=I.list (X:=X) (.inl (.inr ⟨o,ht⟩))
  exact PySem.W.kia_one PySem.W.kitx_list I.kIn ⟨o,h1,h2⟩ k (fun z=>nomatch z) fin
 | scr ns=>
  cases e
  obtain⟨a,rfl,ht⟩:=A
  cases rx
  obtain⟨_,_,⟨o,_,h1,h2,_⟩,_⟩:=I.list ht.sq
  exact PySem.W.kia_one PySem.W.kitx_list I.kIn ⟨o,h1,h2⟩ k (fun z=>nomatch z) fin
 | _=>cases e
theorem uP{T:String}{k:B1}{x:Str}(hx:bootBuiltins x=some (.type T))(hk:∀(K:PySem.W.Frag) (d dd:D) (m m':Mem),b1D k d m=some (dd,m')→m'=m∧∃t b,tyD d=some t∧PySem.W.kitOne K (.type t) (.type T)=some b∧dd=.bl b)
  (hg:Gl X "isinstance") (hm:X.mg "isinstance" = none) (hg2:Gl X x) (hm2:X.mg x=none) (ha:PE X a (tD C X.K pa)) (hn:x≠"__name__":=by decide) (hd:(x==("__debug__" : Str))=false:=by decide)
  (hs:starEach [a,.Name x p2] X.env=[(false,eval a X.env),(false,eval (.Name x p2) X.env)]:=by rfl) (hs2:starEach [Expr.Name x p2] X.env=[(false,eval (.Name x p2) X.env)]:=by rfl) :
  PE X (.Call (.Name "isinstance" p) [a,.Name x p2] [] pos) (tD C X.K (.b1 k pa)):=
 (R3 mO hg hm PyProof.Rows.boot_isinstance (FJ ha (FJ (qI hg2 hm2 hx (v:=.ty T) rfl hn hd) HD hs2) (by rw[hs,hs2])) (by decide) (by decide) (by rw[hs,hs2]) (by rw[hs2];rfl)).imp fun σ H Q hq0=>by
 obtain⟨σd,m,ρ,d,m',S,M,e,q⟩:=hq0
 obtain⟨⟨y,m1⟩,e1,e⟩:=Option.bind_eq_some_iff.mp e
 obtain⟨rfl,t,b,ht,hb,rfl⟩:=hk X.K y d m1 m' e
 exact⟨σd,m,ρ,y,m',S,M,e1,fun v H1 ρ1 g1 M1 A1=>⟨ρ1,y,v,t,b,rfl,A1,ht,hb,q _ H1 ρ1 g1 M1 rfl⟩⟩
theorem fB(hg:Gl X "isinstance")(hm:X.mg "isinstance" = none)(hg2:Gl X "bool")(hm2:X.mg "bool" = none)(ha:PE X a (tD C X.K pa))(hs:starEach [a,.Name "bool" p2] X.env=[(false,eval a X.env),(false,eval (.Name "bool" p2) X.env)]:=by rfl):
  PE X (.Call (.Name "isinstance" p) [a,.Name "bool" p2] [] pos) (tD C X.K (.b1 .isBool pa)):=uP PyProof.Rows.boot_bool (by
  intro K d dd m m' e
  cases d<;>cases e<;>exact⟨rfl,_,_,rfl,rfl,rfl⟩) hg hm hg2 hm2 ha (by decide) (by decide) hs
end
end WL
end
section
namespace PySem
structure Drw(prog:Program)(w:World)(it l:Addr)(St:Nat→Heap→Prop)(xs:Array Value):Prop where
 item:∀(A:Around) (E:Value→Shared→Prop) (s:Shared) (k:Nat) (x:Value) (Q:Value→Shared→Prop),St k s.heap→xs[k]?=some x→
  (∀h',St (k+1) h'→Heap.SameBut it s.heap h'→Q x { s with heap:=h' })→wpAny (model prog w) A (Builtin.SmallTypes.nextOf (.ref it)) Q E s
 stop:∀(A:Around) (E:Value→Shared→Prop) (s:Shared) (k:Nat) (Q:Value→Shared→Prop),A.handled=none→St k s.heap→xs[k]?=none→
  (∀h' e,Heap.ExtBut it s.heap h'→(∃o,h'.get? e=some o∧o.cls=.type "StopIteration")→E (.ref e) { s with heap:=h' })→wpAny (model prog w) A (Builtin.SmallTypes.nextOf (.ref it)) Q E s
 ext:∀(k:Nat) (h h':Heap),St k h→(∀c o,(c=it∨c=l)→h.get? c=some o→h'.get? c=some o)→St k h'
 obj:∀(k:Nat) (h:Heap),St k h→(∃o,h.get? it=some o∧(∀v,o.data≠.cell v)∧o.cls≠.type "tuple"∧o.cls≠.type "zip")∧∃o,h.get? l=some o∧∀a,o.data≠.fields a
theorem YW{prog:Program}{w:World}{it l:Addr}{xs:Array Value}(hne:l≠it):Drw prog w it l (fun k h=>h.IsListIter it l k∧h.IsList l xs) xs where
 item:=fun A E s k x Q st hx q=>wpAny_nextOf_list_item st.1 st.2 hx fun h' a b=>q h' ⟨a,st.2.extBut b.extBut hne⟩ b
 stop:=fun A E s k Q hh st hx q=>wpAny_nextOf_list_end hh st.1 st.2 hx q
 ext:=fun k h h' st e=>⟨st.1.at fun o z=>e it o (.inl rfl) z,st.2.at fun o z=>e l o (.inr rfl) z⟩
 obj:=fun k h st=>by
  obtain⟨⟨o,ho,hc,hd⟩,⟨ol,hl,_,n,hdl⟩⟩:=st
  exact⟨⟨o,ho,(fun v z=>by rw[hd]at z;cases z),(by rw[hc];decide),(by rw[hc];decide)⟩,ol,hl,(fun a z=>by rw[hdl]at z;cases z)⟩
section
variable{prog:Program}{w:World}{A:Around}{E:Value→Shared→Prop}{s:Shared}
structure ZApart(z TI TO i1 i2 l1 l2:Addr):Prop where
 nd:[z,TI,TO,i1,i2].Nodup
 l1:l1∉[z,TO,i1,i2]
 l2:l2∉[z,TO,i1,i2]
variable{z TI TO i1 i2 l1 l2:Addr}{S1 S2:Nat→Heap→Prop}{xs ys:Array Value}{k:Nat}{a b:Value}
theorem nM(D:ZApart z TI TO i1 i2 l1 l2)(d1:Drw prog w i1 l1 S1 xs)(d2:Drw prog w i2 l2 S2 ys)(hz:IsZip s.heap z TI TO .none)(hTI:IsPair s.heap TI (.ref i1) (.ref i2))(hTO:IsPair s.heap TO a b)(h1:S1 k s.heap)(h2:S2 k s.heap){Q:Value→Shared→Prop}
  (h:(∃x y,xs[k]?=some x∧ys[k]?=some y∧∀h',IsZip h' z TI TO (rawInt s.heap.objs.size)→IsPair h' TO x y→S1 (k+1) h'→S2 (k+1) h'→IsPair h' s.heap.objs.size x y→(∀c o,c≠z→c≠TO→c≠i1→c≠i2→s.heap.get? c=some o→h'.get? c=some o)→Q (.ref s.heap.objs.size) { s with heap:=h' })∨
   (A.handled=none∧(xs[k]?=none∨ys[k]?=none)∧∀h' e,(∀c o,c≠z→c≠TO→c≠i1→c≠i2→s.heap.get? c=some o→h'.get? c=some o)→(∃o,h'.get? e=some o∧o.cls=.type "StopIteration")→E (.ref e) { s with heap:=h' })) :
  wpAny (model prog w) A (Builtin.«zip.__next__» ⟨[.ref z],[]⟩) (fun fin s'=>∃v,fin=.done (.ret v)∧Q v s') E s:=by
 have nd:=D.nd
 simp only[List.nodup_cons,List.mem_cons,List.not_mem_nil,or_false,not_or,List.nodup_nil,not_false_eq_true,and_true]at nd
 obtain⟨⟨zTI,zTO,zi1,zi2⟩,⟨TITO,TIi1,TIi2⟩,⟨TOi1,TOi2⟩,i12⟩:=nd
 have D1:=D.l1;have D2:=D.l2
 simp only[List.mem_cons,List.not_mem_nil,or_false,not_or]at D1 D2
 obtain⟨l1z,l1TO,l1i1,l1i2⟩:=D1
 obtain⟨l2z,l2TO,l2i1,l2i2⟩:=D2
 show wpAny _ _ (field (.ref z) 2 >>= _) _ _ _
 refine wpAny_bind (wpAny_field hz rfl (x:=.bool false) rfl ?_);show wpAny _ _ (field (.ref z) 3 >>= _) _ _ _
 refine wpAny_bind (wpAny_field hz rfl (x:=.ref TI) rfl (wpAny_bind (wpAny_seqItems hTI rfl ?_)))
 show wpAny _ _ (Builtin.SmallTypes.ownedTupleIsFree (.ref z) >>= _) _ _ _
 refine wpAny_bind ?_
 unfold Builtin.SmallTypes.ownedTupleIsFree
 refine wpAny_bind (wpAny_field hz rfl (x:=.none) rfl (wpAny_pure ?_));simp only[if_true]
 refine wpAny_bind (wpAny_rule (wpAny_bind (wpAny_field hz rfl (x:=.ref TO) rfl (wpAny_bind (wpAny_setField_rec hz (by simp) fun ha hza sa=>?_)))))
 replace hza:IsZip ha z TI TO .ellipsis:=hza
 refine wpAny_bind ?_
 simp only[List.zipIdx_cons,List.zipIdx_nil,List.forIn_cons,List.forIn_nil]
 have h1a:S1 k ha:=d1.ext k _ _ h1 fun c o hc e=>sa.extBut c o (by rcases hc with rfl | rfl;exact Ne.symm zi1;exact l1z) e
 have h2a:S2 k ha:=d2.ext k _ _ h2 fun c o hc e=>sa.extBut c o (by rcases hc with rfl | rfl;exact Ne.symm zi2;exact l2z) e
 have hTOa:IsPair ha TO a b:=sa.extBut _ _ (Ne.symm zTO) hTO
 refine wpAny_bind (wpAny_bind (wpAny_onRaise ?_));show wpAny _ _ (Builtin.SmallTypes.nextOf (.ref i1) >>= _) _ _ _
 refine wpAny_bind ?_
 cases hx:xs[k]? with
 | none=>
  have h':A.handled=none∧∀h' e,(∀c o,c≠z→c≠TO→c≠i1→c≠i2→s.heap.get? c=some o→h'.get? c=some o)→(∃o,h'.get? e=some o∧o.cls=.type "StopIteration")→E (.ref e) { s with heap:=h' }:=by
   rcases h with ⟨x,_,e,_⟩ | ⟨hh,_,q⟩
   ·rw[hx]at e;cases e
   ·exact⟨hh,q⟩
  refine d1.stop _ _ _ k _ h'.1 h1a hx fun hb e sb he=>?_
  obtain⟨oe,hoe,hce⟩:=he
  have hzb:IsZip hb z TI TO .ellipsis:=sb _ _ zi1 hza
  have hez:e≠z:=fun x=>by subst x;rw[hzb]at hoe;cases hoe;simp at hce
  exact wpAny_setField_rec hzb (by simp) fun hc _ sc=>h'.2 hc e (fun c o c1 _ c3 _ x=>sc.extBut _ _ c1 (sb _ _ c3 (sa.extBut _ _ c1 x))) ⟨oe,sc.extBut _ _ hez hoe,hce⟩
 | some x=>
  refine d1.item _ _ _ k x _ h1a hx fun hb h1b sb=>wpAny_pure ?_
  have hTOb:IsPair hb TO a b:=sb.extBut _ _ TOi1 hTOa
  have h2b:S2 k hb:=d2.ext k _ _ h2a fun c o hc e=>sb.extBut c o (by rcases hc with rfl | rfl;exact Ne.symm i12;exact l2i1) e
  refine wpAny_bind (wpAny_seqItems hTOb rfl (wpAny_bind (wpAny_updateSeq_pair hTOb fun hc hTOc sc=>wpAny_bind (wpAny_letGo (wpAny_pure ?_)))))
  replace hTOc:IsPair hc TO x b:=hTOc
  have h1c:S1 (k+1) hc:=d1.ext _ _ _ h1b fun c o hc' e=>sc.extBut c o (by rcases hc' with rfl | rfl;exact Ne.symm TOi1;exact l1TO) e
  have h2c:S2 k hc:=d2.ext k _ _ h2b fun c o hc' e=>sc.extBut c o (by rcases hc' with rfl | rfl;exact Ne.symm TOi2;exact l2TO) e
  refine wpAny_bind (wpAny_bind (wpAny_onRaise ?_));show wpAny _ _ (Builtin.SmallTypes.nextOf (.ref i2) >>= _) _ _ _
  refine wpAny_bind ?_
  have kc:∀c o,c≠z→c≠TO→c≠i1→s.heap.get? c=some o→hc.get? c=some o:=fun c o c1 c2 c3 e=>sc.extBut _ _ c2 (sb.extBut _ _ c3 (sa.extBut _ _ c1 e))
  have hzc:IsZip hc z TI TO .ellipsis:=sc.extBut _ _ zTO (sb.extBut _ _ zi1 hza)
  cases hy:ys[k]? with
  | none=>
   have h':A.handled=none∧∀h' e,(∀c o,c≠z→c≠TO→c≠i1→c≠i2→s.heap.get? c=some o→h'.get? c=some o)→(∃o,h'.get? e=some o∧o.cls=.type "StopIteration")→E (.ref e) { s with heap:=h' }:=by
    rcases h with ⟨_,y,_,e,_⟩ | ⟨hh,_,q⟩
    ·rw[hy]at e;cases e
    ·exact⟨hh,q⟩
   refine d2.stop _ _ _ k _ h'.1 h2c hy fun hd e sd he=>?_
   obtain⟨oe,hoe,hce⟩:=he
   have hzd:IsZip hd z TI TO .ellipsis:=sd _ _ zi2 hzc
   have hez:e≠z:=fun x=>by subst x;rw[hzd]at hoe;cases hoe;simp at hce
   exact wpAny_setField_rec hzd (by simp) fun he' _ se=>h'.2 he' e (fun c o c1 c2 c3 c4 x=>se.extBut _ _ c1 (sd _ _ c4 (kc c o c1 c2 c3 x))) ⟨oe,se.extBut _ _ hez hoe,hce⟩
  | some y=>
   have q:∀h',IsZip h' z TI TO (rawInt s.heap.objs.size)→IsPair h' TO x y→S1 (k+1) h'→S2 (k+1) h'→IsPair h' s.heap.objs.size x y→(∀c o,c≠z→c≠TO→c≠i1→c≠i2→s.heap.get? c=some o→h'.get? c=some o)→Q (.ref s.heap.objs.size) { s with heap:=h' }:=by
    rcases h with ⟨x',y',e1,e2,q⟩ | ⟨_,e | e,_⟩
    ·rw[hx]at e1;rw[hy]at e2;cases e1;cases e2;exact q
    ·rw[hx]at e;cases e
    ·rw[hy]at e;cases e
   refine d2.item _ _ _ k y _ h2c hy fun hd h2d sd=>wpAny_pure ?_
   have hTOd:IsPair hd TO x b:=sd.extBut _ _ TOi2 hTOc
   refine wpAny_bind (wpAny_seqItems hTOd rfl (wpAny_bind (wpAny_updateSeq_pair hTOd fun he hTOe se=>wpAny_bind (wpAny_letGo (wpAny_pure (wpAny_pure ?_))))))
   replace hTOe:IsPair he TO x y:=hTOe
   refine wpAny_bind (wpAny_seqItems hTOe rfl (wpAny_bind (wpAny_newTuple ?_)))
   have ke:∀c o,c≠z→c≠TO→c≠i1→c≠i2→s.heap.get? c=some o→he.get? c=some o:=fun c o c1 c2 c3 c4 e=>se.extBut _ _ c2 (sd.extBut _ _ c4 (kc c o c1 c2 c3 e))
   have hsz:he.objs.size=s.heap.objs.size:=by rw[se.1,sd.1,sc.1,sb.1,sa.1]
   have hze:IsZip he z TI TO .ellipsis:=se.extBut _ _ zTO (sd.extBut _ _ zi2 hzc)
   have h1e:S1 (k+1) he:=d1.ext _ _ _ h1c fun c o hc' e=>se.extBut c o (by rcases hc' with rfl | rfl;exact Ne.symm TOi1;exact l1TO) (sd.extBut c o (by rcases hc' with rfl | rfl;exact i12;exact l1i2) e)
   have h2e:S2 (k+1) he:=d2.ext _ _ _ h2d fun c o hc' e=>se.extBut c o (by rcases hc' with rfl | rfl;exact Ne.symm TOi2;exact l2TO) e
   have hzlt:z<he.objs.size:=Heap.lt_size hze
   show wpAny _ _ (Builtin.SmallTypes.ownedTupleHandOut (.ref z) (.ref he.objs.size) >>= _) _ _ _
   refine wpAny_bind ?_
   unfold Builtin.SmallTypes.ownedTupleHandOut
   refine wpAny_bind (wpAny_setField_rec (show IsZip (he.push { cls:=.type "tuple",data:=.seq #[x,y] }) z TI TO .ellipsis from Heap.get?_push_of_some _ hze) (by simp) fun hf hzf sf=>?_)
   replace hzf:IsZip hf z TI TO (rawInt he.objs.size):=hzf
   refine wpAny_setField_rec hzf (by simp) fun hg hzg sg=>wpAny_pure ⟨_,rfl,?_⟩
   replace hzg:IsZip hg z TI TO (rawInt he.objs.size):=hzg
   have up:∀c o,c≠z→he.get? c=some o→hg.get? c=some o:=fun c o c1 e=>sg.extBut _ _ c1 (sf.extBut _ _ c1 (Heap.get?_push_of_some _ e))
   have hT:IsPair hg he.objs.size x y:=sg.extBut _ _ (Nat.ne_of_gt hzlt) (sf.extBut _ _ (Nat.ne_of_gt hzlt) (Heap.get?_push_size _ rfl))
   show Q (.ref he.objs.size) _
   rw[hsz]at hzg hT ⊢
   exact q hg hzg (up _ _ (Ne.symm zTO) hTOe) (d1.ext _ _ _ h1e fun c o hc' e=>up c o (by rcases hc' with rfl | rfl;exact Ne.symm zi1;exact l1z) e) (d2.ext _ _ _ h2e fun c o hc' e=>up c o (by rcases hc' with rfl | rfl;exact Ne.symm zi2;exact l2z) e) hT fun c o c1 c2 c3 c4 e=>up c o c1 (ke c o c1 c2 c3 c4 e)
theorem eF(D:ZApart z TI TO i1 i2 l1 l2)(d1:Drw prog w i1 l1 S1 xs)(d2:Drw prog w i2 l2 S2 ys)(hz:IsZip s.heap z TI TO .none)(hTI:IsPair s.heap TI (.ref i1) (.ref i2))(hTO:IsPair s.heap TO a b)(h1:S1 k s.heap)(h2:S2 k s.heap){Q:Option Value→Shared→Prop}
  (h:(∃x y,xs[k]?=some x∧ys[k]?=some y∧∀h',IsZip h' z TI TO (rawInt s.heap.objs.size)→IsPair h' TO x y→S1 (k+1) h'→S2 (k+1) h'→IsPair h' s.heap.objs.size x y→(∀c o,c≠z→c≠TO→c≠i1→c≠i2→s.heap.get? c=some o→h'.get? c=some o)→Q (some (.ref s.heap.objs.size)) { s with heap:=h' })∨
   (A.handled=none∧(xs[k]?=none∨ys[k]?=none)∧∀h',(∀c o,c≠z→c≠TO→c≠i1→c≠i2→s.heap.get? c=some o→h'.get? c=some o)→Q none { s with heap:=h' })) :
  wpAny (model prog w) A (pyNext (.ref z)) Q E s:=by
 have hT:s.TypeIs (.ref z) "zip":=⟨_,hz,rfl⟩
 unfold pyNext
 refine wpAny_bind (wpAny_attempt (wpAny_callSpecial?_slot (name:=Str.ofString "__next__") hT F.slot_zip_next (wpAny_call_entry F.slot_zip_next hT F.entry_zip_next (nM (A:=A.in1) D d1 d2 hz hTI hTO h1 h2 ?_) (F.args_zip_next_1 _))))
 rcases h with ⟨x,y,e1,e2,q⟩ | ⟨hh,he,q⟩
 ·exact .inl ⟨x,y,e1,e2,fun h' a1 a2 a3 a4 a5 a6=>wpAny_pure (q h' a1 a2 a3 a4 a5 a6)⟩
 ·refine .inr ⟨hh,he,fun h' e hk ⟨o,ho,hc⟩=>?_⟩
  exact wpAny_bind (wpAny_isInstance (T:="StopIteration") (b:=true) ⟨o,ho,hc⟩ isSubtype_stop (wpAny_pure (q h' hk)))
theorem gR{n t u:Nat}(ht:t<n)(hu:u<n):ZApart (n+4) (n+2) (n+3) n (n+1) t u:=by
 have a1:(n+4:Nat)≠n+2∧(n+4:Nat)≠n+3∧(n+4:Nat)≠n∧(n+4:Nat)≠n+1:=by lia
 have a2:(n+2:Nat)≠n+3∧(n+2:Nat)≠n∧(n+2:Nat)≠n+1:=by lia
 have a3:(n+3:Nat)≠n∧(n+3:Nat)≠n+1:=by lia
 have a4:(n:Nat)≠n+1:=by lia
 have b1:(t:Nat)≠n+4∧(t:Nat)≠n+3∧(t:Nat)≠n∧(t:Nat)≠n+1:=by lia
 have b2:(u:Nat)≠n+4∧(u:Nat)≠n+3∧(u:Nat)≠n∧(u:Nat)≠n+1:=by lia
 refine⟨?_,?_,?_⟩
 ·simp only[List.nodup_cons,List.mem_cons,List.not_mem_nil,or_false,not_or,List.nodup_nil,not_false_eq_true,and_true]
  exact⟨a1,a2,a3,a4⟩
 ·simp only[List.mem_cons,List.not_mem_nil,or_false,not_or]
  exact b1
 ·simp only[List.mem_cons,List.not_mem_nil,or_false,not_or]
  exact b2
end
end PySem
end
section
namespace L2
open PySem PySem.Spec PyProof.Rows
section
variable{X:Cx}
end
end L2
end
section
namespace WL
open PySem PySem.Spec PyProof.Rows L2
section
variable{C:String→List D→Mem→Option (D×Mem)}{X:Cx}{a b:Expr}{pa pb:Ex}{pos p:Pos}
end
end WL
end
section
namespace L2
open PySem PySem.Spec PyProof.Rows
section
variable{X:Cx}
theorem mX{bs:List Bool}:∀{us:List Value},Vals (bs.map V.bl) us→us=bs.map Value.bool:=by
 induction bs with
 | nil=>intro us r;rw[List.map_nil]at r;cases r;rfl
 | cons n ns ih=>
  intro us r
  rw[List.map_cons]at r
  cases r with
  | cons r1 r2=>cases r1;rw[ih r2];rfl
theorem RW(hc:X.calm=true):CallR X (.builtin "all") (fun xs H Q=>∃(a:Addr) (bs:List Bool),xs=[.ref a]∧SqL X.K H a (bs.map V.bl)∧Q (.bl (bs.all id)) H):=by
 intro pins s σ H xs us Q I r h
 obtain⟨a,bs,rfl,hq,q⟩:=h
 obtain⟨u,rfl,ru⟩:=vals1 r
 cases ru
 obtain⟨its,rv,p,hz⟩:=I.list hq
 have hi:=mX rv
 have pl:=p.isList
 have hlt:a<s.heap.objs.size:=by obtain⟨_,e,_⟩:=pl;exact Heap.lt_size e
 refine call_all_walk (wpAny_pyIter_list pl ?_)
 refine⟨s.heap.objs.size,[s.heap.objs.size,a],[s.heap.objs.size],_,_,_,fun i=>(bs[i]?).getD true,rfl,Walks.list (A:=X.A.in1) (I.ok.hd hc) _ a (Nat.ne_of_lt hlt) _,⟨⟨_,Heap.get?_push_size _ rfl,rfl,rfl⟩,pl.push _⟩,fun i v s' Q' E' hP hQ=>?_,fun h' tk hk=>?_⟩
 ·have hv:its[i]?=some v:=by simpa using hP
  rw[hi,List.getElem?_map]at hv
  cases e:bs[i]? with
  | none=>rw[e]at hv;cases hv
  | some b=>
   rw[e]at hv
   cases hv
   simp only[e,Option.getD_some]at hQ
   exact wpAny_truthy_bool hQ
 ·have hl:its.length=bs.length:=by rw[hi,List.length_map]
  have e:((List.range its.toArray.size).all fun i=>(bs[i]?).getD true)=bs.all id:=by
   rw[List.size_toArray,hl];exact LSm.range_all bs
  rw[e]
  exact⟨.bl _,H,I.kept (LSm.kept_iter hk),rfl,q⟩
end
end L2
end
section
namespace WL
open PySem L2 PySem.Spec PyProof.Rows
section
variable{C:String→List D→Mem→Option (D×Mem)}{X:Cx}
theorem dW{K:PySem.W.Frag}{ρ:List Addr}{H:Hp}:∀{ds:List D} {bs:List Bool} {vs:List V},blsOf ds=some bs→Ats K ρ H ds vs→vs=bs.map V.bl
 | [],_,_,e,a=>by
  cases e
  exact a
 | .bl b::r,bs,vs,e,a=>by
  obtain⟨cs,e1,rfl⟩:=Option.map_eq_some_iff.mp e
  obtain⟨v,us,rfl,a1,a2⟩:=a
  cases a1
  rw[dW e1 a2]
  rfl
theorem oJ:SndB X .all (fun xs H Q=>∃(a:Addr) (bs:List Bool),xs=[.ref a]∧SqL X.K H a (bs.map V.bl)∧Q (.bl (bs.all id)) H):=by
 intro ρ m m' H dx d x Q M ax e q
 obtain⟨xs,e1,e⟩:=Option.bind_eq_some_iff.mp (show ((lstOf dx m).bind fun xs=>(blsOf xs).map fun bs=>(D.bl (bs.all id),m))=some (d,m') from e)
 obtain⟨bs,e2,e⟩:=Option.map_eq_some_iff.mp e
 cases e
 obtain⟨p,vs,rfl,h,as⟩:=G8 M ax e1
 cases dW e2 as
 exact⟨p,bs,rfl,h,.of (q.here M rfl)⟩
variable{a:Expr}{pa:Ex}{p pos:Pos}
theorem j5(hc:X.calm=true)(hg:Gl X "all")(hm:X.mg "all" = none)(ha:PE X a (tD C X.K pa))(he:starEach [a] X.env=[(false,eval a X.env)]:=by rfl):PE X (.Call (.Name "all" p) [a] [] pos) (tD C X.K (.b1 .all pa)):=S8 (RW hc) oJ PyProof.Rows.boot_all hg hm ha (by decide) (by decide) he
end
end WL
end
section
namespace WL
open PySem L2 PySem.Spec PyProof.Rows
noncomputable def txts:List Value→Option (List D)
 | []=>some []
 | .str x _::r=>(txts r).map (.str x::·)
 | _=>none
noncomputable def txtT(its:Array Value):Option D:=if its.size≤100 then (txts its.toList).map .tup else none
theorem bO{K:PySem.W.Frag}:∀{l:List Value} {ds:List D},txts l=some ds→∃vs,Vals vs l∧∀ρ H,Ats K ρ H ds vs
 | [],ds,e=>by
  cases e
  exact⟨[],.nil,fun _ _=>rfl⟩
 | .str x t::r,ds,e=>by
  obtain⟨es,e1,rfl⟩:=Option.map_eq_some_iff.mp e
  obtain⟨vs,h1,h2⟩:=bO (K:=K) e1
  exact⟨.str x::vs,.cons ⟨t,rfl⟩ h1,fun ρ H=>⟨_,_,rfl,rfl,h2 ρ H⟩⟩
theorem GlAt.strs{K:PySem.W.Frag}{mg:Str→Option Value}{x:String}{a:Addr}{its:Array Value}{n:Nat}{d:D}(h:mg (Str.ofString x)=some (.ref a))(hl:K.lookup a=some { cls:=.type "tuple",data:=.seq its n })(he:txtT its=some d):GlAt K mg x d:=by
 unfold txtT at he
 split at he
 ·rename_i hs
  obtain⟨ds,e1,rfl⟩:=Option.map_eq_some_iff.mp he
  obtain⟨vs,h1,h2⟩:=bO (K:=K) e1
  exact⟨.ref a,.ref a,h,rfl,fun ρ H=>⟨a,vs,rfl,⟨_,rfl,rfl,Or.inr ⟨hl,its,n,rfl,Nat.le_trans hs (by decide),h1⟩⟩,h2 ρ H⟩⟩
 ·cases he
end WL
end
section
namespace PySem
def ZipG(h:Heap)(z TI TO:Addr)(o1:Value)(b:Bool):Prop:=h.get? z=some { cls:=.type "zip",data:=.fields #[o1,.bool b,.bool false,.ref TI,.ref TO] }
section
variable{prog:Program}{w:World}{A:Around}{E:Value→Shared→Prop}{s:Shared}{z TI TO i1 i2 l1 l2 p:Addr}{S1 S2:Nat→Heap→Prop}{xs ys:Array Value}{k:Nat}{b:Bool}
theorem N5{α:Type}{M:Model}{a:Addr}{f:Option Obj→Sem α}{Q:α→Shared→Prop}(h:wpAny M A (f (s.heap.get? a)) Q E s):wpAny M A (loadIfAlive a >>= f) Q E s:=h
theorem nR(D:ZApart z TI TO i1 i2 l1 l2)(d1:Drw prog w i1 l1 S1 xs)(d2:Drw prog w i2 l2 S2 ys)(hz:ZipG s.heap z TI TO (rawInt p) b)(hp:(s.heap.get? p).isSome=true)(hTI:IsPair s.heap TI (.ref i1) (.ref i2))(h1:S1 k s.heap)(h2:S2 k s.heap){Q:Value→Shared→Prop}
  (h:(∃x y,xs[k]?=some x∧ys[k]?=some y∧∀h',ZipG h' z TI TO (rawInt p) true→S1 (k+1) h'→S2 (k+1) h'→IsPair h' s.heap.objs.size x y→(∀c o,c≠z→c≠i1→c≠i2→s.heap.get? c=some o→h'.get? c=some o)→Q (.ref s.heap.objs.size) { s with heap:=h' })∨
   (A.handled=none∧(xs[k]?=none∨ys[k]?=none)∧∀h' e,(∀c o,c≠z→c≠i1→c≠i2→s.heap.get? c=some o→h'.get? c=some o)→(∃o,h'.get? e=some o∧o.cls=.type "StopIteration")→E (.ref e) { s with heap:=h' })) :
  wpAny (model prog w) A (Builtin.«zip.__next__» ⟨[.ref z],[]⟩) (fun fin s'=>∃v,fin=.done (.ret v)∧Q v s') E s:=by
 show wpAny _ _ (field (.ref z) 2 >>= _) _ _ _
 refine wpAny_bind (wpAny_field hz rfl (x:=.bool false) rfl ?_);show wpAny _ _ (field (.ref z) 3 >>= _) _ _ _
 refine wpAny_bind (wpAny_field hz rfl (x:=.ref TI) rfl (wpAny_bind (wpAny_seqItems hTI rfl ?_)))
 show wpAny _ _ (Builtin.SmallTypes.ownedTupleIsFree (.ref z) >>= _) _ _ _
 obtain⟨op,hop⟩:=Option.isSome_iff_exists.mp hp
 have free:wpAny (model prog w) A (Builtin.SmallTypes.ownedTupleIsFree (.ref z)) (fun a s'=>a=false∧∃ha,s'={ s with heap:=ha }∧ZipG ha z TI TO (rawInt p) true∧Heap.SameBut z s.heap ha) E s:=by
  unfold Builtin.SmallTypes.ownedTupleIsFree
  refine wpAny_bind (wpAny_field hz rfl (x:=rawInt p) rfl ?_)
  refine N5 ?_
  rw[show (Int.toNat (p:Int))=p from Int.toNat_natCast p,hop]
  simp only[Option.isNone_some,Bool.false_eq_true,if_false]
  refine wpAny_bind (wpAny_field hz rfl (x:=.bool b) rfl ?_)
  cases b with
  | true=>exact wpAny_pure ⟨rfl,s.heap,rfl,hz,Heap.SameBut.refl _ _⟩
  | false=>exact wpAny_bind (wpAny_setField_rec hz (by simp) fun ha hza sa=>wpAny_pure ⟨rfl,ha,rfl,hza,sa⟩)
 refine wpAny_bind (wpAny_mono free (fun a s' hq0=>?_) fun _ _ x=>x)
 obtain⟨ea,ha,es,hza,sa⟩:=hq0
 subst ea es
 have nd:=D.nd
 simp only[List.nodup_cons,List.mem_cons,List.not_mem_nil,or_false,not_or,List.nodup_nil,not_false_eq_true,and_true]at nd
 obtain⟨⟨zTI,zTO,zi1,zi2⟩,⟨TITO,TIi1,TIi2⟩,⟨TOi1,TOi2⟩,i12⟩:=nd
 have D1:=D.l1;have D2:=D.l2
 simp only[List.mem_cons,List.not_mem_nil,or_false,not_or]at D1 D2
 obtain⟨l1z,l1TO,l1i1,l1i2⟩:=D1
 obtain⟨l2z,l2TO,l2i1,l2i2⟩:=D2
 have h1a:S1 k ha:=d1.ext k _ _ h1 fun c o hc e=>sa.extBut c o (by rcases hc with rfl | rfl;exact Ne.symm zi1;exact l1z) e
 have h2a:S2 k ha:=d2.ext k _ _ h2 fun c o hc e=>sa.extBut c o (by rcases hc with rfl | rfl;exact Ne.symm zi2;exact l2z) e
 simp only[Bool.false_eq_true,if_false]
 refine wpAny_bind ?_
 rw[←Array.forIn_toList]
 simp only[List.forIn_cons,List.forIn_nil]
 refine wpAny_bind (wpAny_bind (wpAny_holding ?_));show wpAny _ _ (Builtin.SmallTypes.nextOf (.ref i1) >>= _) _ _ _
 refine wpAny_bind ?_
 cases hx:xs[k]? with
 | none=>
  have h':A.handled=none∧∀h' e,(∀c o,c≠z→c≠i1→c≠i2→s.heap.get? c=some o→h'.get? c=some o)→(∃o,h'.get? e=some o∧o.cls=.type "StopIteration")→E (.ref e) { s with heap:=h' }:=by
   rcases h with ⟨x,_,e,_⟩ | ⟨hh,_,q⟩
   ·rw[hx]at e;cases e
   ·exact⟨hh,q⟩
  exact d1.stop _ _ _ k _ h'.1 h1a hx fun hb e sb he=>h'.2 hb e (fun c o c1 c2 _ x=>sb _ _ c2 (sa.extBut _ _ c1 x)) he
 | some x=>
  refine d1.item _ _ _ k x _ h1a hx fun hb h1b sb=>wpAny_pure (wpAny_pure ?_)
  have h2b:S2 k hb:=d2.ext k _ _ h2a fun c o hc e=>sb.extBut c o (by rcases hc with rfl | rfl;exact Ne.symm i12;exact l2i1) e
  have kb:∀c o,c≠z→c≠i1→s.heap.get? c=some o→hb.get? c=some o:=fun c o c1 c2 e=>sb.extBut _ _ c2 (sa.extBut _ _ c1 e)
  refine wpAny_bind (wpAny_bind (wpAny_holding ?_));show wpAny _ _ (Builtin.SmallTypes.nextOf (.ref i2) >>= _) _ _ _
  refine wpAny_bind ?_
  cases hy:ys[k]? with
  | none=>
   have h':A.handled=none∧∀h' e,(∀c o,c≠z→c≠i1→c≠i2→s.heap.get? c=some o→h'.get? c=some o)→(∃o,h'.get? e=some o∧o.cls=.type "StopIteration")→E (.ref e) { s with heap:=h' }:=by
    rcases h with ⟨_,y,_,e,_⟩ | ⟨hh,_,q⟩
    ·rw[hy]at e;cases e
    ·exact⟨hh,q⟩
   exact d2.stop _ _ _ k _ h'.1 h2b hy fun hc e sc he=>h'.2 hc e (fun c o c1 c2 c3 x=>sc _ _ c3 (kb c o c1 c2 x)) he
  | some y=>
   have q:∀h',ZipG h' z TI TO (rawInt p) true→S1 (k+1) h'→S2 (k+1) h'→IsPair h' s.heap.objs.size x y→(∀c o,c≠z→c≠i1→c≠i2→s.heap.get? c=some o→h'.get? c=some o)→Q (.ref s.heap.objs.size) { s with heap:=h' }:=by
    rcases h with ⟨x',y',e1,e2,q⟩ | ⟨_,e | e,_⟩
    ·rw[hx]at e1;rw[hy]at e2;cases e1;cases e2;exact q
    ·rw[hx]at e;cases e
    ·rw[hy]at e;cases e
   refine d2.item _ _ _ k y _ h2b hy fun hc h2c sc=>wpAny_pure (wpAny_pure (wpAny_pure ?_))
   have hsz:hc.objs.size=s.heap.objs.size:=by rw[sc.1,sb.1,sa.1]
   have h1c:S1 (k+1) hc:=d1.ext _ _ _ h1b fun c o hc' e=>sc.extBut c o (by rcases hc' with rfl | rfl;exact i12;exact l1i2) e
   have hzc:ZipG hc z TI TO (rawInt p) true:=sc.extBut _ _ zi2 (sb.extBut _ _ zi1 hza)
   refine wpAny_bind (wpAny_newTuple (hsz:=by show 2≤sizeLine;decide) (wpAny_pure ⟨_,rfl,?_⟩))
   show Q (.ref hc.objs.size) _
   have hk:∀c o,hc.get? c=some o→(hc.push { cls:=.type "tuple",data:=.seq #[x,y] }).get? c=some o:=fun c o e=>Heap.get?_push_of_some _ e
   have hT:IsPair (hc.push { cls:=.type "tuple",data:=.seq #[x,y] }) hc.objs.size x y:=Heap.get?_push_size _ rfl
   rw[hsz]at hT ⊢
   exact q _ (hk _ _ hzc) (d1.ext _ _ _ h1c fun c o _ e=>hk c o e) (d2.ext _ _ _ h2c fun c o _ e=>hk c o e) hT fun c o c1 c2 c3 e=>hk c o (sc.extBut _ _ c3 (kb c o c1 c2 e))
end
end PySem
end
section
namespace PySem
open Sem (wp)
namespace F
theorem zl_nolen:typeLookup (.type "zip") "__len__" = pure none:=by rw[typeLookup_type,builtinLookup_eq_fast];kernel_rfl
theorem zl_nohint:typeLookup (.type "zip") "__length_hint__" = pure none:=by rw[typeLookup_type,builtinLookup_eq_fast];kernel_rfl
end F
structure ZS(z TI TO i1 i2 a b:Addr)(k:Nat)(h:Heap):Prop where
 rc:IsZip h z TI TO .none∨∃(p:Addr) (q:Bool),ZipG h z TI TO (rawInt p) q∧(h.get? p).isSome=true∧p≠z∧p≠i1∧p≠i2
 ti:IsPair h TI (.ref i1) (.ref i2)
 to:∃x y,IsPair h TO x y
 s1:h.IsListIter i1 a k
 s2:h.IsListIter i2 b k
section
variable{prog:Program}{w:World}{A:Around}{E:Value→Shared→Prop}{s:Shared}{z TI TO i1 i2 a b:Addr}{xs ys:Array Value}{k:Nat}
theorem bL(D:ZApart z TI TO i1 i2 a b)(Z:ZS z TI TO i1 i2 a b k s.heap)(ha:s.heap.IsList a xs)(hb:s.heap.IsList b ys){Q:Option Value→Shared→Prop}
  (h:(∃x y,xs[k]?=some x∧ys[k]?=some y∧∀h',ZS z TI TO i1 i2 a b (k+1) h'→IsPair h' s.heap.objs.size x y→(∀c o,c∉[z,TO,i1,i2]→s.heap.get? c=some o→h'.get? c=some o)→Q (some (.ref s.heap.objs.size)) { s with heap:=h' })∨
   (A.handled=none∧(xs[k]?=none∨ys[k]?=none)∧∀h',(∀c o,c∉[z,TO,i1,i2]→s.heap.get? c=some o→h'.get? c=some o)→Q none { s with heap:=h' })) :
  wpAny (model prog w) A (pyNext (.ref z)) Q E s:=by
 have D1:=D.l1;have D2:=D.l2
 simp only[List.mem_cons,List.not_mem_nil,or_false,not_or]at D1 D2
 have nd:=D.nd
 simp only[List.nodup_cons,List.mem_cons,List.not_mem_nil,or_false,not_or,List.nodup_nil,not_false_eq_true,and_true]at nd
 have d1:=YW (prog:=prog) (w:=w) (xs:=xs) D1.2.2.1
 have d2:=YW (prog:=prog) (w:=w) (xs:=ys) D2.2.2.2
 have lt:∀{c:Addr} {o:Obj},s.heap.get? c=some o→s.heap.objs.size≠c:=fun e=>Nat.ne_of_gt (Heap.lt_size e)
 obtain⟨o1,e1,_⟩:=id Z.s1
 obtain⟨o2,e2,_⟩:=id Z.s2
 rcases Z.rc with hz | ⟨p,q,hz,hp,pz,p1,p2⟩
 ·obtain⟨x0,y0,hTO⟩:=Z.to
  refine eF D d1 d2 hz Z.ti hTO ⟨Z.s1,ha⟩ ⟨Z.s2,hb⟩ ?_
  rcases h with ⟨x,y,q1,q2,q3⟩ | ⟨hh,q1,q2⟩
  ·refine .inl ⟨x,y,q1,q2,fun h' g1 g2 g3 g4 g5 g6=>q3 h' ⟨.inr ⟨_,false,g1,by rw[show h'.get? s.heap.objs.size=_ from g5];rfl,lt hz,lt e1,lt e2⟩,g6 _ _ (Ne.symm nd.1.1) nd.2.1.1 nd.2.1.2.1 nd.2.1.2.2 Z.ti,⟨x,y,g2⟩,g3.1,g4.1⟩ g5 fun c o hc e=>?_⟩
   simp only[List.mem_cons,List.not_mem_nil,or_false,not_or]at hc
   exact g6 c o hc.1 hc.2.1 hc.2.2.1 hc.2.2.2 e
  ·refine .inr ⟨hh,q1,fun h' g6=>q2 h' fun c o hc e=>?_⟩
   simp only[List.mem_cons,List.not_mem_nil,or_false,not_or]at hc
   exact g6 c o hc.1 hc.2.1 hc.2.2.1 hc.2.2.2 e
 ·have hT:s.TypeIs (.ref z) "zip":=⟨_,hz,rfl⟩
  obtain⟨x0,y0,hTO⟩:=Z.to
  unfold pyNext
  refine wpAny_bind (wpAny_attempt (wpAny_callSpecial?_slot (name:=Str.ofString "__next__") hT F.slot_zip_next (wpAny_call_entry F.slot_zip_next hT F.entry_zip_next (nR (A:=A.in1) D d1 d2 hz hp Z.ti ⟨Z.s1,ha⟩ ⟨Z.s2,hb⟩ ?_) (F.args_zip_next_1 _))))
  rcases h with ⟨x,y,q1,q2,q3⟩ | ⟨hh,q1,q2⟩
  ·refine .inl ⟨x,y,q1,q2,fun h' g1 g3 g4 g5 g6=>wpAny_pure (q3 h' ⟨.inr ⟨p,true,g1,?_,pz,p1,p2⟩,g6 _ _ (Ne.symm nd.1.1) nd.2.1.2.1 nd.2.1.2.2 Z.ti,⟨x0,y0,g6 _ _ (Ne.symm nd.1.2.1) nd.2.2.1.1 nd.2.2.1.2 hTO⟩,g3.1,g4.1⟩ g5 fun c o hc e=>?_)⟩
   ·obtain⟨op,hop⟩:=Option.isSome_iff_exists.mp hp
    rw[g6 p op pz p1 p2 hop];rfl
   ·simp only[List.mem_cons,List.not_mem_nil,or_false,not_or]at hc
    exact g6 c o hc.1 hc.2.2.1 hc.2.2.2 e
  ·refine .inr ⟨hh,q1,fun h' e g6 ⟨o,ho,hc⟩=>?_⟩
   refine wpAny_bind (wpAny_isInstance (T:="StopIteration") (b:=true) ⟨o,ho,hc⟩ isSubtype_stop (wpAny_pure (q2 h' fun c o hc e=>?_)))
   simp only[List.mem_cons,List.not_mem_nil,or_false,not_or]at hc
   exact g6 c o hc.1 hc.2.2.1 hc.2.2.2 e
end
end PySem
namespace L2
open PySem PySem.Spec PyProof.Rows
theorem Inv.tracked{X:Cx}{pins:List (Addr×Obj)}{σ:St}{H:Hp}{s:Shared}{p:Addr}{o:HO}(I:Inv X pins σ H s)(f:FpOk X pins H p)(new:ObjOk X.prog X.w (upd H p o) s.heap p o):Inv X pins σ (upd H p o) s:=by
 have hn:=f.1
 have up:∀b u,H b=some u→upd H p o b=some u:=fun b u e=>by rw[CJ (DR e hn)];exact e
 refine I.step (h':=s.heap) (t':=s.toks) (g':=s.gens) (d':=s.drawn) (ch:=[p]) (fun b hb=>?_) (fun b ob _ _ _ e _=>e) (fun b ob _ _ _ e _=>⟨ob.slots,e⟩)
  (fun b ob hc e n=>by rw[CJ (fun z=>hc (by simp[z]))];exact n) (fun b ob _ e=>⟨ob,e⟩) (fun b xs e=>up b _ e) (fun b u xs e=>up b _ e) (fun b ps e=>⟨#[],by rw[up b _ e];simp⟩) (fun m hm=>hm) (fun b u e=>?_) I.bare
 ·rw[List.mem_singleton.mp hb]
  exact⟨f.2.2.2.1,f.2.1,f.2.2.2.2.1,f.2.2.2.2.2⟩
 ·by_cases hb:b=p
  ·subst hb;rw[CV]at e;cases e;exact new
  ·rw[CJ hb]at e
   exact(I.hok b u e).stay (fun c v _ q=>q) (fun c q=>up c _ q) fun c xs q=>up c _ q
def ZI(H:Hp)(xs ys vs:List V):Prop:=∀(j:Nat) (v:V),vs[j]?=some v→∃(x y:V) (p:Addr) (o:Obj),xs[j]?=some x∧ys[j]?=some y∧v=.ref p∧H p=some (.frz o (.tup [x,y]))∧o.cls=.type "tuple"∧o.dict=none
def SubH(H H':Hp):Prop:=∀c u,H c=some u→H' c=some u
section
variable{X:Cx}{pins:List (Addr×Obj)}{σ:St}{z TI TO i1 i2 a b S:Addr}{xs ys:List V}{oa ob:Obj}
theorem nO{A:Around}(hA:A.handled=none)(D:ZApart z TI TO i1 i2 a b)(hS:S∉[z,TI,TO,i1,i2,a,b])(hl:min xs.length ys.length≤1000){R:Result→Shared→Prop}:
  ∀(m k:Nat) (s:Shared) (H:Hp) (acc:Array Value) (c:Nat) (vs:List V),min xs.length ys.length-k=m→k≤min xs.length ys.length→Inv X pins σ H s→(∀e∈[z,TI,TO,i1,i2,S],FpOk X pins H e)→
   H a=some (.frz oa (.lst xs))→H b=some (.frz ob (.lst ys))→ZS z TI TO i1 i2 a b k s.heap→s.heap.get? S=some { cls:=.type "list",data:=.seq acc c }→Vals vs acc.toList→vs.length=k→ZI H xs ys vs→
   (∀h' H' acc' c' vs',Inv X pins σ H' { s with heap:=h' }→FpOk X pins H' S→h'.get? S=some { cls:=.type "list",data:=.seq acc' c' }→Vals vs' acc'.toList→vs'.length=min xs.length ys.length→ZI H' xs ys vs'→SubH H H'→R (.ok (.ret .none)) { s with heap:=h' })→
   codeAny (model X.prog X.w) A (.builtin "list.extend.loop" ⟨[.ref S,.ref z,.none],[]⟩) R s:=by
 have nd:=D.nd
 simp only[List.nodup_cons,List.mem_cons,List.not_mem_nil,or_false,not_or,List.nodup_nil,not_false_eq_true,and_true]at nd
 simp only[List.mem_cons,List.not_mem_nil,or_false,not_or]at hS
 obtain⟨Sz,STI,STO,S1,S2,Sa,Sb⟩:=hS
 intro m
 induction m with
 | zero=>
  intro k s H acc c vs hm hk I hf ha hb Z hL hv hvl hz hR
  obtain⟨its,r1,p1,_⟩:=I.list (.inl (.inr ⟨oa,ha⟩):SqL X.K H a xs)
  obtain⟨jts,r2,p2,_⟩:=I.list (.inl (.inr ⟨ob,hb⟩):SqL X.K H b ys)
  have l1:=r1.length
  have l2:=r2.length
  refine codeAny_builtin PySem.F.entry_extend_loop ?_
  rw[Around.under_plainId PySem.F.plain_extend_loop _]
  show wpAny _ A.in1 (pyNext (.ref z) >>= _) _ _ s
  refine wpAny_bind (bL D Z p1.isList p2.isList (.inr ⟨by simp[hA],?_,fun h' hk'=>?_⟩))
  ·rcases(show xs.length≤k∨ys.length≤k by lia) with q | q
   ·left;simp;lia
   ·right;simp;lia
  ·have I1:Inv X pins σ H { s with heap:=h' }:=I.turnedL (t':=s.toks) (fp:=[z,TI,TO,i1,i2,S]) hf fun e o he q=>hk' e o (fun w=>he (by simp only[List.mem_cons,List.not_mem_nil,or_false]at w ⊢;rcases w with rfl | rfl | rfl | rfl<;>simp)) q
   refine wpAny_pure (hR h' H acc c vs I1 (hf S (by simp)) (hk' S _ (by simp[Sz,STO,S1,S2]) hL) hv (by lia) hz fun _ _ q=>q)
 | succ m ih=>
  intro k s H acc c vs hm hk I hf ha hb Z hL hv hvl hz hR
  obtain⟨its,r1,p1,_⟩:=I.list (.inl (.inr ⟨oa,ha⟩):SqL X.K H a xs)
  obtain⟨jts,r2,p2,_⟩:=I.list (.inl (.inr ⟨ob,hb⟩):SqL X.K H b ys)
  have hk1:k<xs.length:=by lia
  have hk2:k<ys.length:=by lia
  obtain⟨u,eu,ru⟩:=r1.get (List.getElem?_eq_getElem hk1)
  obtain⟨v,ev,rv⟩:=r2.get (List.getElem?_eq_getElem hk2)
  refine codeAny_builtin PySem.F.entry_extend_loop ?_
  rw[Around.under_plainId PySem.F.plain_extend_loop _]
  show wpAny _ A.in1 (pyNext (.ref z) >>= _) _ _ s
  refine wpAny_bind (bL D Z p1.isList p2.isList (.inl ⟨u,v,by simpa using eu,by simpa using ev,fun h' Z' hT hk'=>?_⟩))
  have hL':h'.get? S=some { cls:=.type "list",data:=.seq acc c }:=hk' S _ (by simp[Sz,STO,S1,S2]) hL
  have hacc:acc.size=k:=by rw[←hvl,hv.length,Array.length_toList]
  have hSlt:=Heap.lt_size hL
  have line:(1002:Nat)≤sizeLine:=by decide
  show wpAny _ A.in1 (updateSeq S (·.push (.ref s.heap.objs.size)) >>= _) _ _ _
  refine wpAny_bind ?_
  refine wpAny_updateSeq hL' rfl (wpAny_pure ⟨plainId_quiet PySem.F.plain_extend_loop _,?_⟩) (by lia) (by show (acc.push _).size≤sizeLine+1;rw[Array.size_push];lia)
  generalize hH:h'.update S (Obj.mapSeq (·.push (.ref s.heap.objs.size)))=h2
  obtain⟨c2,hL2⟩:∃c2,h2.get? S=some { cls:=.type "list",data:=.seq (acc.push (.ref s.heap.objs.size)) c2 }:=⟨_,by rw[←hH];exact Heap.get?_update_self (Obj.mapSeq (·.push (.ref s.heap.objs.size))) hL' rfl⟩
  have k2:∀e o,e≠S→h'.get? e=some o→h2.get? e=some o:=fun e o he q=>by rw[←hH];exact(Heap.get?_update_other _ _ (Ne.symm he)).trans q
  have hT2:h2.get? s.heap.objs.size=some { cls:=.type "tuple",data:=.seq #[u,v] }:=k2 _ _ (Nat.ne_of_gt hSlt) hT
  have fresh:=I.hok.fresh (Nat.le_refl s.heap.objs.size)
  have hkk:∀e o,e∉[z,TI,TO,i1,i2,S]→s.heap.get? e=some o→h2.get? e=some o:=fun e o he q=>by
   simp only[List.mem_cons,List.not_mem_nil,or_false,not_or]at he
   exact k2 e o he.2.2.2.2.2 (hk' e o (by simp[he.1,he.2.2.1,he.2.2.2.1,he.2.2.2.2.1]) q)
  have I2:Inv X pins σ (upd H s.heap.objs.size (.frz { cls:=.type "tuple",data:=.seq #[u,v] } (.tup [xs[k],ys[k]]))) { s with heap:=h2 }:=
   I.turnedNew (t':=s.toks) (fp:=[z,TI,TO,i1,i2,S]) hf hkk (Nat.le_refl _) ⟨hT2,by show 2≤sizeLine;decide,[u,v],.cons ru (.cons rv .nil),⟨_,hT2,rfl,_,rfl⟩⟩
  have sub:SubH H (upd H s.heap.objs.size (.frz { cls:=.type "tuple",data:=.seq #[u,v] } (.tup [xs[k],ys[k]]))):=fun e w q=>by rw[CJ (DR q fresh)];exact q
  have there:∀e∈[z,TI,TO,i1,i2,S],e<s.heap.objs.size:=fun e he=>by
   simp only[List.mem_cons,List.not_mem_nil,or_false]at he
   obtain⟨x0,y0,hTO⟩:=Z.to
   obtain⟨o1,e1,_⟩:=id Z.s1
   obtain⟨o2,e2,_⟩:=id Z.s2
   rcases he with rfl | rfl | rfl | rfl | rfl | rfl
   ·rcases Z.rc with q | ⟨_,_,q,_⟩<;>exact Heap.lt_size q
   ·exact Heap.lt_size Z.ti
   ·exact Heap.lt_size hTO
   ·exact Heap.lt_size e1
   ·exact Heap.lt_size e2
   ·exact hSlt
  have hf2:∀e∈[z,TI,TO,i1,i2,S],FpOk X pins (upd H s.heap.objs.size (.frz { cls:=.type "tuple",data:=.seq #[u,v] } (.tup [xs[k],ys[k]]))) e:=fun e he=>
   ⟨by rw[CJ (Nat.ne_of_lt (there e he))];exact(hf e he).1,(hf e he).2⟩
  have Z2:ZS z TI TO i1 i2 a b (k+1) h2:=by
   have up:∀e o,e≠S→h'.get? e=some o→h2.get? e=some o:=k2
   have hp:∀e,(h'.get? e).isSome=true→(h2.get? e).isSome=true:=fun e q=>by
    obtain⟨o,ho⟩:=Option.isSome_iff_exists.mp q
    by_cases he:e=S
    ·rw[he,hL2];rfl
    ·rw[up e o he ho];rfl
   refine⟨?_,up _ _ (Ne.symm STI) Z'.ti,?_,Z'.s1.at fun o q=>up _ _ (Ne.symm S1) q,Z'.s2.at fun o q=>up _ _ (Ne.symm S2) q⟩
   ·rcases Z'.rc with q | ⟨p,q,r1,r2,r3⟩
    ·exact .inl (up _ _ (Ne.symm Sz) q)
    ·exact .inr ⟨p,q,up _ _ (Ne.symm Sz) r1,hp p r2,r3⟩
   ·obtain⟨x0,y0,q⟩:=Z'.to
    exact⟨x0,y0,up _ _ (Ne.symm STO) q⟩
  refine ih (k+1) _ _ (acc.push (.ref s.heap.objs.size)) c2 (vs++[.ref s.heap.objs.size]) (by lia) (by lia) I2 hf2 (sub _ _ ha) (sub _ _ hb) Z2 hL2 ?_ (by simp[hvl]) ?_ fun h3 H3 acc3 c3 vs3 q1 q2 q3 q4 q5 q6 q7=>hR h3 H3 acc3 c3 vs3 q1 q2 q3 q4 q5 q6 fun e w q=>q7 e w (sub e w q)
  ·rw[Array.toList_push]
   exact hv.append (.cons rfl .nil)
  ·intro j w hj
   by_cases hlt:j<vs.length
   ·rw[List.getElem?_append_left hlt]at hj
    obtain⟨x,y,p,o,e1,e2,e3,e4,e5⟩:=hz j w hj
    exact⟨x,y,p,o,e1,e2,e3,sub _ _ e4,e5⟩
   ·have hj':j=k:=by
     have:=(List.getElem?_eq_some_iff.mp hj).1
     simp at this
     lia
    subst hj'
    have ew:w=.ref s.heap.objs.size:=by
     have:(vs++[V.ref s.heap.objs.size])[j]?=some (V.ref s.heap.objs.size):=by rw[←hvl];simp
     rw[this]at hj
     exact(Option.some.inj hj).symm
    exact⟨xs[j],ys[j],_,_,List.getElem?_eq_getElem hk1,List.getElem?_eq_getElem hk2,ew,CV,rfl,rfl⟩
end
end L2
end
section
namespace L2
open PySem PySem.Spec PyProof.Rows
section
variable{X:Cx}{pins:List (Addr×Obj)}{σ:St}{H:Hp}{s:Shared}{z TI TO i1 i2 a b:Addr}{xs ys:List V}{oa ob:Obj}
theorem nQ{A:Around}{E:Value→Shared→Prop}{h:Heap}(hz:IsZip h z TI TO .none){t:Shared}(ht:t.heap=h){Q:Bool→Shared→Prop}(q:Q true t):wpAny (model X.prog X.w) A (Builtin.List.listLengthHint (.ref z)) Q E t:=by
 have hT:t.TypeIs (.ref z) "zip":=⟨_,by rw[ht];exact hz,rfl⟩
 unfold Builtin.List.listLengthHint
 refine wpAny_bind (wpAny_specialOf hT PySem.F.zl_nolen ?_)
 refine wpAny_bind (wpAny_specialOf hT PySem.F.zl_nohint ?_)
 exact wpAny_pure q
theorem nP{A:Around}(hA:A.handled=none){E:Value→Shared→Prop}(D:ZApart z TI TO i1 i2 a b)(hl:min xs.length ys.length≤1000)(I:Inv X pins σ H s)(hf:∀e∈[z,TI,TO,i1,i2],FpOk X pins H e)(ha:H a=some (.frz oa (.lst xs)))(hb:H b=some (.frz ob (.lst ys)))(hz:IsZip s.heap z TI TO .none)(hTI:IsPair s.heap TI (.ref i1) (.ref i2))(hTO:∃x y,IsPair s.heap TO x y)(h1:s.heap.IsListIter i1 a 0)(h2:s.heap.IsListIter i2 b 0){Q:Value→Shared→Prop}
  (hQ:∀S h' H' vs,Inv X pins σ (upd H' S (.lst vs)) { s with heap:=h' }→H' S=none→vs.length=min xs.length ys.length→ZI H' xs ys vs→SubH H H'→Q (.ref S) { s with heap:=h' }) :
  wpAny (model X.prog X.w) A (call (.type "list") [.ref z]) Q E s:=by
 obtain⟨x0,y0,hTO⟩:=hTO
 obtain⟨oi1,ei1,_⟩:=id h1
 obtain⟨oi2,ei2,_⟩:=id h2
 obtain⟨its,r1,p1,_⟩:=I.list (.inl (.inr ⟨oa,ha⟩):SqL X.K H a xs)
 obtain⟨jts,r2,p2,_⟩:=I.list (.inl (.inr ⟨ob,hb⟩):SqL X.K H b ys)
 obtain⟨ola,nla,ela,_⟩:=id p1
 obtain⟨olb,nlb,elb,_⟩:=id p2
 have fresh:=I.hok.fresh (Nat.le_refl s.heap.objs.size)
 have lt:∀{c:Addr} {o:Obj},s.heap.get? c=some o→s.heap.objs.size≠c:=fun e=>Nat.ne_of_gt (Heap.lt_size e)
 have hS:s.heap.objs.size∉[z,TI,TO,i1,i2,a,b]:=by
  simp only[List.mem_cons,List.not_mem_nil,or_false,not_or]
  exact⟨lt hz,lt hTI,lt hTO,lt ei1,lt ei2,lt ela,lt elb⟩
 refine callType_codes (Q₁:=fun obj s₁=>obj=.ref s.heap.objs.size∧s₁={ s with heap:=s.heap.push { cls:=.type "list",data:=.seq #[] } }) PySem.F.called_list (PySem.F.typeCall_list_1 _) PySem.F.entry_list_init (code_list_new _ ⟨rfl,rfl⟩) ?_
 rintro obj s₁ ⟨rfl,rfl⟩
 have hL:(s.heap.push { cls:=.type "list",data:=.seq #[] }).get? s.heap.objs.size=some { cls:=.type "list",data:=.seq #[] }:=Heap.get?_push_size _ rfl
 refine⟨⟨_,hL,rfl⟩,PySem.F.args_list_init_2 _ _,?_⟩
 generalize hH:s.heap.push { cls:=.type "list",data:=.seq #[] }=H1 at hL
 have k1:∀c o,s.heap.get? c=some o→H1.get? c=some o:=fun c o e=>by rw[←hH];exact Heap.get?_push_of_some _ e
 have loop:∀(h:Heap) (c:Nat),h.get? s.heap.objs.size=some { cls:=.type "list",data:=.seq #[] c }→(∀c o,s.heap.get? c=some o→h.get? c=some o)→
   codeAny (model X.prog X.w) A.in1 (.builtin "list.extend.loop" ⟨[.ref s.heap.objs.size,.ref z,.none],[]⟩) (wants (fun r s₂=>r=.none∧Q (.ref s.heap.objs.size) s₂) E) { s with heap:=h }:=by
  intro h c e1 e2
  have I1:Inv X pins σ H { s with heap:=h }:=I.kept (t':=s.toks) e2
  refine nO (by simp[hA]) D hS hl (min xs.length ys.length) 0 { s with heap:=h } H #[] c [] rfl (Nat.zero_le _) I1 (fun e he=>?_) ha hb ⟨.inl (e2 _ _ hz),e2 _ _ hTI,⟨x0,y0,e2 _ _ hTO⟩,h1.at fun o q=>e2 _ _ q,h2.at fun o q=>e2 _ _ q⟩ e1 .nil rfl (fun j v q=>by simp at q) fun h' H' acc' c' vs' q1 q2 q3 q4 q5 q6 q7=>⟨rfl,?_⟩
  ·rcases List.mem_append.mp (show e∈[z,TI,TO,i1,i2]++[s.heap.objs.size] by simpa using he) with he | he
   ·exact hf e he
   ·rw[List.mem_singleton.mp he];exact I.fpOk (Nat.le_refl _) fresh
  ·have I2:Inv X pins σ (upd H' s.heap.objs.size (.lst vs')) { s with heap:=h' }:=by
    refine q1.tracked q2 ⟨?_,acc'.toList,c',q4,by simpa using q3⟩
    rw[q5]
    exact Nat.le_trans hl (by decide)
   exact hQ _ h' H' vs' I2 q2.1 q5 q6 q7
 unfold Builtin.«list.__init__»
 show wpAny _ _ (do let old ←Builtin.List.listItems (.ref s.heap.objs.size);Builtin.List.listUpdate (.ref s.heap.objs.size) (fun _=>#[]);letGo old.toList.reverse;Builtin.List.listExtendWith (.ref s.heap.objs.size) (.ref z) .none) _ _ _
 refine wpAny_bind ?_
 unfold Builtin.List.listItems
 refine wpAny_bind (wpAny_seqItems hL rfl (wpAny_pure ?_))
 refine wpAny_bind (m:=updateSeq s.heap.objs.size (fun _=>#[])) (wpAny_updateSeq hL rfl ?_)
 have hL2:=Heap.get?_update_self (Obj.mapSeq (fun _=>(#[]:Array Value))) hL rfl
 have k2:∀c o,s.heap.get? c=some o→(H1.update s.heap.objs.size (Obj.mapSeq (fun _=>(#[]:Array Value)))).get? c=some o:=fun c o e=>(Heap.get?_update_other _ _ (lt e)).trans (k1 c o e)
 generalize hH2:H1.update s.heap.objs.size (Obj.mapSeq (fun _=>(#[]:Array Value)))=H2 at hL2 k2
 refine wpAny_bind (wpAny_letGo ?_)
 unfold Builtin.List.listExtendWith
 refine wpAny_bind (wpAny_typeOf (T:="zip") ⟨_,k2 _ _ hz,rfl⟩ ?_)
 rw[if_neg (by simp[Builtin.List.listSameRef,lt hz])]
 refine wpAny_bind (wpAny_pyIter_zip (k2 _ _ hz) ?_)
 refine wpAny_bind (wpAny_holding (nQ (X:=X) (k2 _ _ hz) rfl ?_))
 refine wpAny_ite_split (fun _=>?_) (fun q=>absurd (by simp) q)
 refine wpAny_bind (wpAny_rule ?_)
 refine wpAny_bind ?_
 show wpAny _ _ (updateSeq s.heap.objs.size (·.push .none) >>= fun _=>updateSeq s.heap.objs.size (·.pop)) _ _ _
 refine wpAny_bind (wpAny_updateSeq hL2 rfl ?_)
 have hL3:=Heap.get?_update_self (Obj.mapSeq (·.push Value.none)) hL2 rfl
 refine wpAny_updateSeq (hz:=by seq_fits) hL3 rfl ?_
 have hL4:=Heap.get?_update_self (Obj.mapSeq (·.pop)) hL3 rfl
 exact wpAny_pure ⟨plainId_quiet PySem.F.plain_extend_loop _,loop _ _ hL4 fun c o e=>(Heap.get?_update_other _ _ (lt e)).trans ((Heap.get?_update_other _ _ (lt e)).trans (k2 c o e))⟩
end
end L2
end
section
namespace L2
open PySem PySem.Spec PyProof.Rows
section
variable{X:Cx}
def rZipL(vs:List V)(H1:Hp)(Q:VK):Prop:=∃(a b:Addr) (oa ob:Obj) (xs ys:List V),vs=[.ref a,.ref b]∧H1 a=some (.frz oa (.lst xs))∧H1 b=some (.frz ob (.lst ys))∧min xs.length ys.length≤1000∧
 ∀(S:Addr) (H':Hp) (ws:List V),H' S=none→ws.length=min xs.length ys.length→ZI H' xs ys ws→SubH H1 H'→Q (.ref S) (upd H' S (.lst ws))
theorem qC{l r:Expr}{ta:TA}{p1 p2 q1 q2:Pos}(hc:X.calm=true)(hg1:Gl X "list")(hm1:X.mg "list" = none)(hg2:Gl X "zip")(hm2:X.mg "zip" = none)(ha:PA X [l,r] ta)
  (hs1:starEach [Expr.Call (.Name "zip" p2) [l,r] [] q2] X.env=[(false,eval (.Call (.Name "zip" p2) [l,r] [] q2) X.env)]:=by rfl) (hs:starEach [l,r] X.env=[(false,eval l X.env),(false,eval r X.env)]:=by rfl) (hs2:starEach [r] X.env=[(false,eval r X.env)]:=by rfl) :
  PE X (.Call (.Name "list" p1) [.Call (.Name "zip" p2) [l,r] [] q2] [] q1) (fun σ H Q=>ta σ H fun vs H1=>rZipL vs H1 Q):=by
 intro pins s σ H Q I h
 refine Call_ (JC I hg1 hm1 boot_list (PyProof.Rows.callWith_type1 ?_ hs1 rfl))
 have inner:wpAny (model X.prog X.w) X.A (eval (.Call (.Name "zip" p2) [l,r] [] q2) X.env)
   (fun v s1=>∃z TI TO i1 i2 a b oa ob xs ys H1,v=.ref z∧ZApart z TI TO i1 i2 a b∧Inv X pins σ H1 s1∧(∀e∈[z,TI,TO,i1,i2],FpOk X pins H1 e)∧H1 a=some (.frz oa (.lst xs))∧H1 b=some (.frz ob (.lst ys))∧IsZip s1.heap z TI TO .none∧IsPair s1.heap TI (.ref i1) (.ref i2)∧(∃x y,IsPair s1.heap TO x y)∧s1.heap.IsListIter i1 a 0∧s1.heap.IsListIter i2 b 0∧min xs.length ys.length≤1000∧
    ∀(S:Addr) (H':Hp) (ws:List V),H' S=none→ws.length=min xs.length ys.length→ZI H' xs ys ws→SubH H1 H'→Q (.ref S) (upd H' S (.lst ws))) X.xe s:=by
  refine Call_ (JC I hg2 hm2 boot_zip (PyProof.Rows.callWith_type1 (thn (ha q2 pins s σ H _ I h) fun us s1 hq0=>?_) (by rw[hs,hs2]) (by rw[hs2];rfl)))
  obtain⟨vs,H1,I1,r1,q1⟩:=hq0
  obtain⟨a,b,oa,ob,xs,ys,rfl,hA,hB,hl,q⟩:=q1
  obtain⟨u,v,rfl,ru,rv⟩:=r1.two
  cases ru
  cases rv
  obtain⟨its,rx,px,hzx⟩:=I1.list (.inl (.inr ⟨oa,hA⟩):SqL X.K H1 a xs)
  obtain⟨jts,ry,py,hzy⟩:=I1.list (.inl (.inr ⟨ob,hB⟩):SqL X.K H1 b ys)
  obtain⟨ox,nx,ex,_⟩:=id px
  obtain⟨oy,ny,ey,_⟩:=id py
  refine call_zip_2 px.isList py.isList fun h' g1 g2 g3 g4 g5 _ hk=>?_
  have I2:Inv X pins σ H1 { s1 with heap:=h' }:=I1.kept (t':=s1.toks) hk
  refine⟨_,_,_,_,_,a,b,oa,ob,xs,ys,H1,rfl,gR (Heap.lt_size ex) (Heap.lt_size ey),I2,fun c hc=>?_,hA,hB,g1,g2,⟨_,_,g3⟩,g4,g5,hl,q⟩
  have hb':s1.heap.objs.size≤c:=by
   simp only[List.mem_cons,List.not_mem_nil,or_false]at hc
   rcases hc with rfl | rfl | rfl | rfl | rfl
   ·exact Nat.le_add_right _ _
   ·exact Nat.le_add_right _ _
   ·exact Nat.le_add_right _ _
   ·exact Nat.le_refl _
   ·exact Nat.le_add_right _ _
  exact I1.fpOk hb' (I1.hok.fresh hb')
 rw[hs1]
 refine Calls.spliced_cons (thn inner fun v s1 hq0=>?_)
 obtain⟨z,TI,TO,i1,i2,a,b,oa,ob,xs,ys,H1,ev,D,I1,hf,hA,hB,hz,hTI,hTO,h1,h2,hl,q⟩:=hq0
 refine Calls.spliced_nil ?_
 subst ev
 exact nP (I1.ok.hd hc) D hl I1 hf hA hB hz hTI hTO h1 h2 fun S h' H' vs J n e1 e2 e3=>⟨.ref S,_,J,rfl,q S H' vs n e1 e2 e3⟩
end
end L2
end
section
namespace WL
open PySem PySem.Spec PyProof.Rows L2
section
variable{C:String→List D→Mem→Option (D×Mem)}{X:Cx}{a b:Expr}{pa pb:Ex}
theorem tM{K:PySem.W.Frag}{ρ:List Addr}{H:Hp}:∀{ds es:List D} {xs ys ws:List V},Ats K ρ H ds xs→Ats K ρ H es ys→ws.length=min xs.length ys.length→ZI H xs ys ws→Ats K ρ H (zipD ds es) ws
 | [],es,xs,ys,ws,h1,h2,hl,hz=>by
  cases (show xs=[] from h1)
  have:ws=[]:=List.eq_nil_of_length_eq_zero (by rw[hl];simp)
  subst this
  rfl
 | d::ds,[],xs,ys,ws,h1,h2,hl,hz=>by
  cases (show ys=[] from h2)
  have:ws=[]:=List.eq_nil_of_length_eq_zero (by rw[hl];simp)
  subst this
  rfl
 | d::ds,e::es,xs,ys,ws,h1,h2,hl,hz=>by
  obtain⟨x,xs',rfl,ax,as⟩:=h1
  obtain⟨y,ys',rfl,ay,bs⟩:=h2
  cases ws with
  | nil=>simp at hl
  | cons w ws=>
   obtain⟨x',y',p,o,e1,e2,e3,e4,e5,e6⟩:=hz 0 w rfl
   have e1:x=x':=Option.some.inj e1
   have e2:y=y':=Option.some.inj e2
   subst e1 e2
   refine⟨w,ws,rfl,⟨p,[x,y],e3,⟨o,e5,e6,.inl e4⟩,x,[y],rfl,ax,y,[],rfl,ay,rfl⟩,tM as bs (by simp at hl;omega) fun j v hj=>?_⟩
   obtain⟨x',y',p,o,e1,e2,e3⟩:=hz (j+1) v (by simpa using hj)
   exact⟨x',y',p,o,by simpa using e1,by simpa using e2,e3⟩
theorem SubH.fz{H H':Hp}(h:SubH H H'):FzSub H H':=fun a o u e=>h a _ e
theorem SubH.go{H H':Hp}(h:SubH H H')(ρ:List Addr):Go ρ ρ H H':=⟨fun b o e _=>h b o e,List.prefix_rfl,fun _ h=>.inl h⟩
theorem SubH.mem{K:PySem.W.Frag}{ρ:List Addr}{m:Mem}{H H':Hp}(h:SubH H H')(M:MemAt K ρ m H):MemAt K ρ m H':=M.keep (SubH.fz h) fun a ha=>by
 obtain⟨u,e,_⟩:=M.there ha
 rw[h a u e,e]
theorem p7{mu:Bool}{p1 p2 q1 q2:Pos}(hc:X.calm=true)(hg1:Gl X "list")(hm1:X.mg "list" = none)(hg2:Gl X "zip")(hm2:X.mg "zip" = none)(ha:PE X a (tD C X.K pa))(hb:PE X b (tD C X.K pb))
  (hs1:starEach [Expr.Call (.Name "zip" p2) [a,b] [] q2] X.env=[(false,eval (.Call (.Name "zip" p2) [a,b] [] q2) X.env)]:=by rfl) (hs:starEach [a,b] X.env=[(false,eval a X.env),(false,eval b X.env)]:=by rfl) (hs2:starEach [b] X.env=[(false,eval b X.env)]:=by rfl) :
  PE X (.Call (.Name "list" p1) [.Call (.Name "zip" p2) [a,b] [] q2] [] q1) (tD C X.K (.lzip mu pa pb)):=(qC hc hg1 hm1 hg2 hm2 (FJ ha (FJ hb HD hs2) (by rw[hs,hs2])) hs1 hs hs2).imf fun σ H Q hq0=>by
 obtain⟨σd,m,ρ,d,m',S,M,e,q⟩:=hq0
 obtain⟨⟨x,m1⟩,e1,e⟩:=Option.bind_eq_some_iff.mp e
 obtain⟨⟨y,m2⟩,e2,e⟩:=Option.bind_eq_some_iff.mp e
 refine⟨σd,m,ρ,x,m1,S,M,e1,fun v H1 ρ1 g1 M1 A1=>⟨σd,m1,ρ1,y,m2,S.mono M g1,M1,e2,fun u H2 ρ2 g2 M2 A2=>?_⟩⟩
 have A1':=A1.mono M1 g2
 cases x with
 | lst xs=>
  cases y with
  | lst ys=>
   have e:(if xs.length≤1000 then some (mkL mu (zipD xs ys) m2) else none)=some (d,m'):=e
   by_cases hl:xs.length≤1000
   ·rw[if_pos hl]at e
    have e':mkL mu (zipD xs ys) m2=(d,m'):=Option.some.inj e
    obtain⟨a1,o1,vs,rfl,h1,as⟩:=A1'
    obtain⟨a2,o2,us,rfl,h2,bs⟩:=A2
    have l1:=as.len
    refine⟨a1,a2,o1,o2,vs,us,rfl,h1,h2,by lia,fun p H' ws hp hw hz sub=>?_⟩
    have q':Beh X.K ρ2 H' (mkL mu (zipD xs ys) m2).1 (mkL mu (zipD xs ys) m2).2 Q:=by
     rw[e']
     exact(q.go (g1.trans g2)).go (SubH.go sub ρ2)
    exact q'.lst (SubH.mem sub M2) (tM (as.mono' (SubH.fz sub) (.refl _)) (bs.mono' (SubH.fz sub) (.refl _)) hw hz) hp
   ·rw[if_neg hl]at e
    cases e
  | _=>cases e
 | _=>cases e
end
end WL
end
section
namespace PySem
section
variable{prog:Program}{w:World}{A:Around}{E:Value→Shared→Prop}{s:Shared}
end
end PySem
end
section
namespace PySem
section
variable{prog:Program}{w:World}{A:Around}{E:Value→Shared→Prop}{s:Shared}
end
end PySem
namespace L2
open PySem PySem.Spec PyProof.Rows
section
variable{X:Cx}
end
end L2
end
section
namespace WL
open PySem PySem.Spec PyProof.Rows L2
section
variable{C:String→List D→Mem→Option (D×Mem)}{X:Cx}{a:Expr}{pa:Ex}{p q pos kp:Pos}{z:Int}{kk:Nat}
end
end WL
end
section
namespace PySem
noncomputable abbrev setObj (es:Array (Int×Value)) (ep:Nat) (t:SetTable):Obj:={ cls:=.type "set",dict:=none,data:=.set es ep t,slots:=#[] }
structure SetB(w:World)(h:Heap)(a:Addr)(es:Array (Int×Value))(ep:Nat)(t:SetTable):Prop where
 ob:h.get? a=some (setObj es ep t)
 fit:t.fits es.size=true
 led:t.led=!w.params.followText "set-order"
 pl:es.size≠0→t.plain=false
section
variable{prog:Program}{w:World}{A:Around}{E:Value→Shared→Prop}{s:Shared}
end
end PySem
end
section
namespace PySem
section
variable{prog:Program}{w:World}{A:Around}{E:Value→Shared→Prop}{s:Shared}
theorem uH{a:Value}{Q₁:Value→Shared→Prop}(h:Q₁ (.ref s.heap.objs.size) { s with heap:=s.heap.push (setObj #[] 0 (.fresh 0 0 (!w.params.followText "set-order"))) }):
  codeAny (model prog w) A (.call (.builtin "set.__new__") ⟨[.type "set",a],[]⟩) (wants Q₁ E) s:=by
 refine codeAny_of_tree ?_
 show wpAny _ A.in1 (checkBuiltinCall "set.__new__" ⟨[.type "set",a],[]⟩ >>= fun _=>again (.builtin "set.__new__" ⟨[.type "set",a],[]⟩)) _ _ s
 refine wpAny_bind (wpAny_of_eq (F.newCall_set_1 a) (wpAny_pure ⟨plainId_quiet F.plain_set_new _,codeAny_builtin F.entry_set_new ?_⟩))
 rw[Around.under_plainId F.plain_set_new _]
 unfold Builtin.«set.__new__» Builtin.Frozenset.newClass
 have hs0:=sub_set_self
 obtain⟨hp,gg,dd,kk,oo⟩:=s
 dsimp only
 wp_walk
 refine wpAny_askSetting (wpAny_pure ?_)
 dsimp only
 simp only[newObj]
 exact wpAny_bind (wpAny_alloc (wpAny_pure (wpAny_pure h)))
end
end PySem
end
section
namespace PySem
namespace F
theorem si_next:Slot "set_iterator" "__next__" "set_iterator.__next__":=
 .of (owner:="set_iterator") (n:="__next__") (by rw[typeLookup_type,builtinLookup_eq_fast];kernel_rfl) (by decide +kernel) (by decide +kernel) (by decide +kernel)
  (by first | exact .inl (by decide +kernel) | exact .inr (by decide +kernel)) (by rw[isSubtype_type];kernel_rfl)
theorem si_iter:Slot "set_iterator" "__iter__" "set_iterator.__iter__":=
 .of (owner:="set_iterator") (n:="__iter__") (by rw[typeLookup_type,builtinLookup_eq_fast];kernel_rfl) (by decide +kernel) (by decide +kernel) (by decide +kernel)
  (by first | exact .inl (by decide +kernel) | exact .inr (by decide +kernel)) (by rw[isSubtype_type];kernel_rfl)
theorem si_entry_next:entryFor table "set_iterator.__next__" = some Builtin.«set_iterator.__next__»:=entryFor_of_tree (by kernel_rfl)
theorem si_entry_iter:entryFor table "set_iterator.__iter__" = some Builtin.«dict_keyiterator.__iter__»:=
 entryFor_alias (id':="dict_keyiterator.__iter__") (by kernel_rfl) (by first | rfl | decide +kernel | (unfold String.splitOn;simp +decide [String.splitOnAux])) (by decide +kernel) (by kernel_rfl)
theorem X8:Manifest.owners.lookup (String.ofList ['r','o','t','a','r','e','t','i','_','t','e','s'].reverse)=some Manifest.sig_set_iterator:=by kernel_rfl
theorem si_args_next(a:Value):argsOk "set_iterator.__next__" ⟨[a],[]⟩:=by
 unfold argsOk;rw[signature?_of (id:="set_iterator.__next__") (n:=['_','_','t','x','e','n','_','_']) (o:=['r','o','t','a','r','e','t','i','_','t','e','s']) (by kernel_rfl) X8];kernel_rfl
theorem si_args_iter(a:Value):argsOk "set_iterator.__iter__" ⟨[a],[]⟩:=by
 unfold argsOk;rw[signature?_of (id:="set_iterator.__iter__") (n:=['_','_','r','e','t','i','_','_']) (o:=['r','o','t','a','r','e','t','i','_','t','e','s']) (by kernel_rfl) X8];kernel_rfl
theorem si_entry_set:entryFor table "set.__iter__" = some Builtin.«frozenset.__iter__»:=
 entryFor_alias (id':="frozenset.__iter__") (by kernel_rfl) rfl (by decide +kernel) (by kernel_rfl)
end F
theorem MK{α:Type}:∀(l:List α) (i:Nat) (h:i<l.length),(l[i]::l.eraseIdx i).Perm l
 | [],i,h=>absurd h (Nat.not_lt_zero _)
 | a::r,0,h=>.refl _
 | a::r,i+1,h=>(List.Perm.swap _ _ _).trans (.cons a (MK r i (by simpa using h)))
theorem cF{α:Type}(next:Nat→Nat):∀(fuel k:Nat) (left:List α) (out:Array α),fuel=left.length→(pickOrder.go next fuel k left out).toList.Perm (out.toList++left)
 | 0,k,left,out,h=>by
  have:left=[]:=List.eq_nil_of_length_eq_zero h.symm
  subst this
  simp[pickOrder.go]
 | fuel+1,k,left,out,h=>by
  have hp:0<left.length:=by lia
  have hi:next k % left.length<left.length:=Nat.mod_lt _ hp
  unfold pickOrder.go
  rw[List.getElem?_eq_getElem hi]
  dsimp only
  refine(cF next fuel (k+1) _ _ (by rw[List.length_eraseIdx_of_lt hi];lia)).trans ?_
  rw[Array.toList_push,List.append_assoc]
  exact List.Perm.append_left _ (MK _ _ hi)
theorem JG{α:Type}(next:Nat→Nat)(xs:Array α):(pickOrder next xs).toList.Perm xs.toList:=by
 have:=cF next xs.size 0 xs.toList #[] (by simp)
 simpa[pickOrder] using this
section
variable{prog:Program}{w:World}{A:Around}{E:Value→Shared→Prop}{s:Shared}
theorem RQ{src:Source}{n:Nat}{Q:Nat→Shared→Prop}(hn:n≠0)(h:∀i d',i<n→Q i { s with drawn:=d' }):wpAny (model prog w) A (choose src n) Q E s:=fun _ _ _=>⟨hn,h _ _ (Nat.mod_lt _ (Nat.pos_of_ne_zero hn))⟩
theorem RJ{α:Type}:∀(n:Nat) (xs:List α) (s:Shared) (Q:List α→Shared→Prop),xs.length=n→(∀ys d',ys.Perm xs→Q ys { s with drawn:=d' })→wpAny (model prog w) A (drawOrder n xs) Q E s
 | 0,xs,s,Q,hl,h=>by
  have:xs=[]:=List.eq_nil_of_length_eq_zero hl
  subst this
  unfold drawOrder
  exact wpAny_pure (h [] s.drawn .nil)
 | n+1,[],s,Q,hl,h=>by simp at hl
 | n+1,x::r,s,Q,hl,h=>by
  unfold drawOrder
  refine wpAny_bind (RQ (by simp) fun i d' hi=>?_)
  rw[List.getElem?_eq_getElem hi]
  dsimp only
  refine wpAny_bind (RJ n _ _ _ (by rw[List.length_eraseIdx_of_lt hi];simp at hl ⊢;lia) fun ys d2 hp=>?_)
  exact wpAny_pure (h _ d2 ((List.Perm.cons _ hp).trans (MK _ _ hi)))
end
noncomputable abbrev SIt (h:Heap) (I:Addr) (f0:Value) (i:Nat) (a:Addr) (n ep:Nat):Prop:=h.get? I=some { cls:=.type "set_iterator",data:=.fields #[f0,rawInt i,.ref a,rawInt n,rawInt ep] }
section
variable{prog:Program}{w:World}{A:Around}{E:Value→Shared→Prop}{s:Shared}{I a:Addr}{es:Array (Int×Value)}{ep:Nat}{t:SetTable}{f0:Value}{i:Nat}
theorem KC(S:SetB w s.heap a es ep t)(hI:SIt s.heap I f0 i a es.size ep){Q:Option Value→Shared→Prop}
  (h:(∃sl:Nat,f0=rawInt (sl:Nat)∧wpAny (model prog w) A.in1 (setNext a sl i ep) (fun r s'=>s'=s∧((∃x nx,r=some (x,nx)∧∀h',SIt h' I (rawInt (nx:Nat)) (i+1) a es.size ep→Heap.SameBut I s.heap h'→Q (some x) { s with heap:=h' })∨(r=none∧A.handled=none∧∀h',Heap.ExtBut I s.heap h'→Q none { s with heap:=h' }))) (fun _ _=>False) s)∨
   (∃T pl,f0=.ref T∧s.heap.IsTuple T pl∧((∃(p:Nat) (tk:Tok) (e:Int×Value),pl[i]?=some (.int p tk)∧es[p]?=some e∧∀h',SIt h' I f0 (i+1) a es.size ep→Heap.SameBut I s.heap h'→Q (some e.2) { s with heap:=h' })∨(pl[i]?=none∧A.handled=none∧∀h',Heap.ExtBut I s.heap h'→Q none { s with heap:=h' })))) :
  wpAny (model prog w) A (pyNext (.ref I)) Q E s:=by
 have hT:s.TypeIs (.ref I) "set_iterator":=⟨_,hI,rfl⟩
 unfold pyNext
 refine wpAny_bind (wpAny_attempt (wpAny_callSpecial?_slot (name:=Str.ofString "__next__") hT F.si_next (wpAny_call_entry F.si_next hT F.si_entry_next ?_ (F.si_args_next _))))
 unfold Builtin.«set_iterator.__next__»
 refine wpAny_bind (wpAny_of_eq (a:=(Value.ref I,[])) rfl ?_)
 refine wpAny_bind (wpAny_fieldsOf hI rfl ?_)
 show wpAny _ _ (setEntries a >>= _) _ _ s
 refine wpAny_bind (wpAny_setEntries_of S.ob rfl S.fit ?_)
 have hne:(((es.size:Nat):Int) != ((es.size:Nat):Int))=false:=by simp
 rw[hne]
 simp only[Bool.false_eq_true,if_false]
 rcases h with ⟨sl,rfl,h⟩ | ⟨T,pl,rfl,hTu,h⟩
 ·show wpAny _ _ (setNext a (Int.toNat (sl:Int)) (Int.toNat (i:Int)) (Int.toNat (ep:Int)) >>= _) _ _ s
  rw[Int.toNat_natCast,Int.toNat_natCast,Int.toNat_natCast]
  refine wpAny_bind (wpAny_mono h (fun r s' hq0=>?_) fun _ _ f=>f.elim)
  obtain⟨es',q⟩:=hq0
  subst es'
  rcases q with ⟨x,nx,rfl,q⟩ | ⟨rfl,hh,q⟩
  ·dsimp only
   refine wpAny_bind (wpAny_setField_rec hI (by simp) fun h1 hI1 s1=>?_)
   refine wpAny_bind (wpAny_setField_rec (s:={ s' with heap:=h1 }) hI1 (by simp) fun h2 hI2 s2=>wpAny_pure ⟨x,rfl,wpAny_pure (q h2 hI2 (s1.trans s2))⟩)
  ·dsimp only
   refine wpAny_bind (wpAny_setField_rec hI (by simp) fun h1 hI1 s1=>?_)
   exact wpAny_mono (PN (s:={ s' with heap:=h1 }) (h:=s'.heap) (it:=I) (Q:=Q) (E:=E) hh (fun b o hb e=>s1.extBut b o hb e) fun h' hk=>q h' hk) (fun _ _ f=>f.elim) fun e s2 q=>q
 ·obtain⟨oT,eT,cT,nT,dT⟩:=hTu
  show wpAny _ _ (seqItems? (.ref T) >>= _) _ _ s
  refine wpAny_bind (wpAny_seqItems eT dT ?_)
  rcases h with ⟨p,tk,e,hp,he,q⟩ | ⟨hp,hh,q⟩
  ·dsimp only
   rw[show Int.toNat (i:Int)=i from Int.toNat_natCast i,hp]
   dsimp only
   refine wpAny_bind ?_
   unfold setNextDrawn
   refine wpAny_bind (wpAny_setState_of S.ob rfl S.fit ?_)
   have h2:(ep != (Int.toNat (ep:Int)))=false:=by rw[Int.toNat_natCast];simp
   dsimp only
   rw[h2,show Int.toNat (p:Int)=p from Int.toNat_natCast p,he]
   simp only[Bool.false_eq_true,if_false]
   refine wpAny_pure ?_
   refine wpAny_bind (wpAny_setField_rec hI (by simp) fun h1 hI1 s1=>wpAny_pure ⟨e.2,rfl,wpAny_pure (q h1 hI1 s1)⟩)
  ·dsimp only
   rw[show Int.toNat (i:Int)=i from Int.toNat_natCast i,hp]
   dsimp only
   refine wpAny_bind (wpAny_setField_rec hI (by simp) fun h1 hI1 s1=>?_)
   refine wpAny_bind (wpAny_setField_rec (s:={ s with heap:=h1 }) hI1 (by simp) fun h2 hI2 s2=>?_)
   exact wpAny_mono (PN (s:={ s with heap:=h2 }) (h:=s.heap) (it:=I) (Q:=Q) (E:=E) hh (fun b o hb e=>s2.extBut b o hb (s1.extBut b o hb e)) fun h' hk=>q h' hk) (fun _ _ f=>f.elim) fun e s2 q=>q
end
end PySem
end
section
namespace PySem
section
variable{prog:Program}{w:World}{A:Around}{E:Value→Shared→Prop}{s:Shared}{I a:Addr}{es:Array (Int×Value)}{ep:Nat}{t:SetTable}
theorem SetB.at{h h':Heap}(S:SetB w h a es ep t)(e:∀o,h.get? a=some o→h'.get? a=some o):SetB w h' a es ep t:={ S with ob:=e _ S.ob }
theorem UL{f0:Value}{i n:Nat}(hI:SIt s.heap I f0 i a n ep){Q:Value→Shared→Prop}(h:Q (.ref I) s):wpAny (model prog w) A (pyIter (.ref I)) Q E s:=by
 have hT:s.TypeIs (.ref I) "set_iterator":=⟨_,hI,rfl⟩
 refine wpAny_pyIter_slot hT F.si_iter (wpAny_call_entry F.si_iter hT F.si_entry_iter ?_ (F.si_args_iter _))
 show wpAny _ _ (ret (.ref I)) _ _ s
 exact wpAny_pure ⟨_,rfl,"set_iterator",_,hT,F.si_next.lookup,h⟩
theorem Walks.setT(hB:w.params.followText "set-order" = true)(hA:A.handled=none)(hne:a≠I):Walks prog w A I [I,a] [I] es.size (fun i v=>∃e,(pickOrder (w.params.setOrder a ep) es)[i]?=some e∧v=e.2) (fun i h=>(∃sl:Nat,SIt h I (rawInt (sl:Nat)) i a es.size ep)∧SetB w h a es ep t) where
 sub:=fun b hb=>by simp at hb;simp[hb]
 frame:=fun _ _ _ x hk=>⟨let ⟨sl,q⟩:=x.1;⟨sl,hk I (by simp) _ q⟩,x.2.at fun o q=>hk a (by simp) o q⟩
 item:=fun i s Q E hi x hQ=>by
  obtain⟨⟨sl,hI⟩,S⟩:=x
  have hsz:(pickOrder (w.params.setOrder a ep) es).size=es.size:=by
   have:=(JG (w.params.setOrder a ep) es).length_eq
   simpa using this
  have hx:(pickOrder (w.params.setOrder a ep) es)[i]?=some ((pickOrder (w.params.setOrder a ep) es)[i]'(by lia)):=Array.getElem?_eq_getElem (by lia)
  refine KC S hI (.inl ⟨sl,rfl,?_⟩)
  unfold setNext
  refine wpAny_bind (wpAny_setState_of S.ob rfl S.fit ?_)
  unfold setsByText
  refine wpAny_bind (wpAny_bind (wpAny_askSetting (wpAny_pure ?_)))
  show wpAny _ _ (if w.params.followText "set-order" = true then _ else _) _ _ _
  rw[hB]
  simp only[if_true,bne_self_eq_false,Bool.false_eq_true,if_false]
  refine wpAny_bind ?_
  unfold setWalk
  refine wpAny_bind (wpAny_setState_of S.ob rfl S.fit ?_)
  unfold setsByText
  refine wpAny_bind (wpAny_bind (wpAny_askSetting (wpAny_pure ?_)))
  show wpAny _ _ (if w.params.followText "set-order" = true then _ else _) _ _ _
  rw[hB]
  simp only[if_true]
  refine wpAny_bind (wpAny_askSetting (wpAny_pure ?_))
  show wpAny _ _ (pure (((pickOrder (w.params.setOrder a ep) es)[i]?).map fun e=>(e.2,sl))) _ _ _
  rw[hx]
  refine wpAny_pure ⟨rfl,.inl ⟨_,sl,rfl,fun h' hI' sb=>?_⟩⟩
  exact hQ _ h' s.toks ⟨_,hx,rfl⟩ ⟨⟨sl,hI'⟩,S.at fun o q=>sb.extBut _ _ hne q⟩ fun b o hb e=>sb.extBut b o (fun z=>hb (by simp[z])) e
 done:=fun s Q E x hQ=>by
  obtain⟨⟨sl,hI⟩,S⟩:=x
  have hsz:(pickOrder (w.params.setOrder a ep) es).size=es.size:=by
   have:=(JG (w.params.setOrder a ep) es).length_eq
   simpa using this
  have hx:(pickOrder (w.params.setOrder a ep) es)[es.size]?=none:=by simp[hsz]
  refine KC S hI (.inl ⟨sl,rfl,?_⟩)
  unfold setNext
  refine wpAny_bind (wpAny_setState_of S.ob rfl S.fit ?_)
  unfold setsByText
  refine wpAny_bind (wpAny_bind (wpAny_askSetting (wpAny_pure ?_)))
  show wpAny _ _ (if w.params.followText "set-order" = true then _ else _) _ _ _
  rw[hB]
  simp only[if_true,bne_self_eq_false,Bool.false_eq_true,if_false]
  refine wpAny_bind ?_
  unfold setWalk
  refine wpAny_bind (wpAny_setState_of S.ob rfl S.fit ?_)
  unfold setsByText
  refine wpAny_bind (wpAny_bind (wpAny_askSetting (wpAny_pure ?_)))
  show wpAny _ _ (if w.params.followText "set-order" = true then _ else _) _ _ _
  rw[hB]
  simp only[if_true]
  refine wpAny_bind (wpAny_askSetting (wpAny_pure ?_))
  show wpAny _ _ (pure (((pickOrder (w.params.setOrder a ep) es)[es.size]?).map fun e=>(e.2,sl))) _ _ _
  rw[hx]
  exact wpAny_pure ⟨rfl,.inr ⟨rfl,hA,fun h' hk=>hQ h' s.toks fun b o hb e=>hk b o (fun z=>hb (by simp[z])) e⟩⟩
 self:=fun _ _ _ _ x hQ=>let ⟨⟨sl,hI⟩,_⟩:=x;UL hI hQ
theorem Walks.setD(hA:A.handled=none){T:Addr}{ys:List Nat}(hne:a≠I)(hT:T≠I)(hy:ys.Perm (List.range es.size)):Walks prog w A I [I,a,T] [I] es.size (fun i v=>∃(p:Nat) (e:Int×Value),ys[i]?=some p∧es[p]?=some e∧v=e.2) (fun i h=>SIt h I (.ref T) i a es.size ep∧SetB w h a es ep t∧h.IsTuple T (ys.map fun(p:Nat)=>rawInt p).toArray) where
 sub:=fun b hb=>by simp at hb;simp[hb]
 frame:=fun _ _ _ x hk=>⟨hk I (by simp) _ x.1,x.2.1.at fun o q=>hk a (by simp) o q,let ⟨o,e,c⟩:=x.2.2;⟨o,hk T (by simp) _ e,c⟩⟩
 item:=fun i s Q E hi x hQ=>by
  obtain⟨hI,S,hTu⟩:=x
  have hl:ys.length=es.size:=by rw[hy.length_eq,List.length_range]
  have hi':i<ys.length:=by lia
  have hp:ys[i]<es.size:=List.mem_range.mp (hy.mem_iff.mp (List.getElem_mem hi'))
  refine KC S hI (.inr ⟨T,_,rfl,hTu,.inl ⟨ys[i],0,es[ys[i]],by simp[hi',rawInt],by simp[hp],fun h' hI' sb=>?_⟩⟩)
  exact hQ _ h' s.toks ⟨_,_,List.getElem?_eq_getElem hi',by simp[hp],rfl⟩ ⟨hI',S.at fun o q=>sb.extBut _ _ hne q,let ⟨o,e,c⟩:=hTu;⟨o,sb.extBut _ _ hT e,c⟩⟩ fun b o hb e=>sb.extBut b o (fun z=>hb (by simp[z])) e
 done:=fun s Q E x hQ=>by
  obtain⟨hI,S,hTu⟩:=x
  have hl:ys.length=es.size:=by rw[hy.length_eq,List.length_range]
  refine KC S hI (.inr ⟨T,_,rfl,hTu,.inr ⟨by simp[hl],hA,fun h' hk=>hQ h' s.toks fun b o hb e=>hk b o (fun z=>hb (by simp[z])) e⟩⟩)
 self:=fun _ _ _ _ x hQ=>UL x.1 hQ
theorem U3(j k:Nat):SetTable.below #[j] k=if j<k then 1 else 0:=by
 by_cases h:j<k<;>simp[SetTable.below,SetTable.below.go,h]
theorem Walks.setO(hB:w.params.followText "set-order" = false)(hA:A.handled=none)(hne:a≠I)(h1:es.size≤1):Walks prog w A I [I,a] [I] es.size (fun i v=>∃e,es[i]?=some e∧v=e.2) (fun i h=>SIt h I (rawInt ((if i=0 then 0 else t.place.getD 0 0+1:Nat):Nat)) i a es.size ep∧SetB w h a es ep t) where
 sub:=fun b hb=>by simp at hb;simp[hb]
 frame:=fun _ _ _ x hk=>⟨hk I (by simp) _ x.1,x.2.at fun o q=>hk a (by simp) o q⟩
 item:=fun i s Q E hi x hQ=>by
  obtain⟨hI,S⟩:=x
  have hi0:i=0:=by lia
  subst hi0
  have hz:es.size=1:=by lia
  have hps:t.place.size=1:=by
   have:=S.fit
   simp only[SetTable.fits,Bool.and_eq_true,beq_iff_eq]at this
   lia
  obtain⟨j,hj⟩:∃j,t.place=#[j]:=⟨t.place[0],by apply Array.ext';simp[List.ext_getElem?_iff,Array.getElem?_toList];intro k;rcases k with _ | k<;>simp[hps]⟩
  have he:es[0]?=some (es[0]'(by lia)):=Array.getElem?_eq_getElem (by lia)
  have hled:t.led=true:=by rw[S.led,hB];rfl
  refine KC S hI (.inl ⟨0,rfl,?_⟩)
  unfold setNext
  refine wpAny_bind (wpAny_setState_of S.ob rfl S.fit ?_)
  unfold setsByText
  refine wpAny_bind (wpAny_bind (wpAny_askSetting (wpAny_pure ?_)))
  show wpAny _ _ (if w.params.followText "set-order" = true then _ else _) _ _ _
  rw[hB]
  simp only[Bool.false_eq_true,if_false]
  show wpAny _ _ (if (!t.plain&&decide (es.size > 1))=true then _ else _) _ _ _
  rw[if_neg (by simp;lia)]
  refine wpAny_bind ?_
  show wpAny _ _ (if (!t.led&&!es.isEmpty)=true then _ else _) _ _ _
  rw[if_neg (by simp[hled])]
  refine wpAny_pure ?_
  show wpAny _ _ (pure (match es[SetTable.below t.place 0]?,t.place[SetTable.below t.place 0]? with | some (_,x),some j=>some (x,j+1) | _,_=>none)) _ _ _
  rw[hj,U3,if_neg (Nat.not_lt_zero _),he]
  refine wpAny_pure ⟨rfl,.inl ⟨_,j+1,rfl,fun h' hI' sb=>?_⟩⟩
  refine hQ _ h' s.toks ⟨_,he,rfl⟩ ⟨?_,S.at fun o q=>sb.extBut _ _ hne q⟩ fun b o hb e=>sb.extBut b o (fun z=>hb (by simp[z])) e
  rw[hj]
  exact hI'
 done:=fun s Q E x hQ=>by
  obtain⟨hI,S⟩:=x
  have hps:t.place.size=es.size:=by
   have:=S.fit
   simp only[SetTable.fits,Bool.and_eq_true,beq_iff_eq]at this
   exact this.1
  have hled:t.led=true:=by rw[S.led,hB];rfl
  refine KC S hI (.inl ⟨_,rfl,?_⟩)
  unfold setNext
  refine wpAny_bind (wpAny_setState_of S.ob rfl S.fit ?_)
  unfold setsByText
  refine wpAny_bind (wpAny_bind (wpAny_askSetting (wpAny_pure ?_)))
  show wpAny _ _ (if w.params.followText "set-order" = true then _ else _) _ _ _
  rw[hB]
  simp only[Bool.false_eq_true,if_false]
  show wpAny _ _ (if (!t.plain&&decide (es.size > 1))=true then _ else _) _ _ _
  rw[if_neg (by simp;lia)]
  refine wpAny_bind ?_
  show wpAny _ _ (if (!t.led&&!es.isEmpty)=true then _ else _) _ _ _
  rw[if_neg (by simp[hled])]
  refine wpAny_pure ?_
  have hbel:es[SetTable.below t.place (if es.size=0 then 0 else t.place.getD 0 0+1)]?=none:=by
   by_cases h0:es.size=0
   ·have:t.place=#[]:=by apply Array.eq_empty_of_size_eq_zero;lia
    rw[this]
    simp[h0]
   ·obtain⟨j,hj⟩:∃j,t.place=#[j]:=⟨t.place[0]'(by lia),by apply Array.ext';simp[List.ext_getElem?_iff,Array.getElem?_toList];intro k;rcases k with _ | k<;>simp<;>lia⟩
    rw[if_neg h0,hj,U3]
    simp
    lia
  show wpAny _ _ (pure (match es[SetTable.below t.place (if es.size=0 then 0 else t.place.getD 0 0+1)]?,t.place[SetTable.below t.place (if es.size=0 then 0 else t.place.getD 0 0+1)]? with | some (_,x),some j=>some (x,j+1) | _,_=>none)) _ _ _
  rw[hbel]
  exact wpAny_pure ⟨rfl,.inr ⟨rfl,hA,fun h' hk=>hQ h' s.toks fun b o hb e=>hk b o (fun z=>hb (by simp[z])) e⟩⟩
 self:=fun _ _ _ _ x hQ=>UL x.1 hQ
end
end PySem
end
section
namespace PySem
section
variable{prog:Program}{w:World}{A:Around}{E:Value→Shared→Prop}{s:Shared}{a:Addr}{es:Array (Int×Value)}{ep:Nat}{t:SetTable}
def SWalk(prog:Program)(w:World)(es:Array (Int×Value))(a I:Addr)(h':Heap)(n0:Nat):Prop:=∃(fp:List Addr) (P:Nat→Value→Prop) (St:Nat→Heap→Prop),(∀A:Around,A.handled=none→Walks prog w A I fp [I] es.size P St)∧St 0 h'∧(∀b∈fp,b<h'.objs.size)∧n0≤I∧(∀b∈fp,b=a∨n0≤b)∧(∀acc,ItemsOf P acc es.size→acc.toList.Perm (es.toList.map (·.2)))
theorem MJ{P:Nat→Value→Prop}{acc:Array Value}{n:Nat}{L:List Value}(h:ItemsOf P acc n)(hL:L.length=n)(hp:∀i v,P i v→L[i]?=some v):acc.toList=L:=by
 apply List.ext_getElem?
 intro i
 by_cases hi:i<acc.size
 ·have e:acc[i]?=some acc[i]:=Array.getElem?_eq_getElem hi
  rw[Array.getElem?_toList,e]
  exact(hp i _ (h.2 i _ e)).symm
 ·have:=h.1
  rw[List.getElem?_eq_none (by rw[Array.length_toList];lia),List.getElem?_eq_none (by lia)]
theorem oV(S:SetB w s.heap a es ep t)(hle:es.size≤1000){Q:Value→Shared→Prop}(h:∀I h' d',SWalk prog w es a I h' s.heap.objs.size→(∀b o,s.heap.get? b=some o→h'.get? b=some o)→h'.objs.size≤s.heap.objs.size+2→Q (.ref I) { s with heap:=h',drawn:=d' }):wpAny (model prog w) A (pyIter (.ref a)) Q E s:=by
 have hT:s.TypeIs (.ref a) "set":=⟨_,S.ob,rfl⟩
 have hlt:=Heap.lt_size S.ob
 refine wpAny_pyIter_slot hT F.slot_set_iter (wpAny_call_entry F.slot_set_iter hT F.si_entry_set ?_ (F.args_set_iter_1 _))
 unfold Builtin.«frozenset.__iter__»
 refine wpAny_bind (wpAny_of_eq (a:=a) rfl ?_)
 unfold Builtin.Frozenset.sizeOf
 refine wpAny_bind (wpAny_bind (wpAny_setEntries_of S.ob rfl S.fit (wpAny_pure ?_)))
 have plain:∀(B:Bool),w.params.followText "set-order" = B→(B=true∨es.size≤1)→∀d':Drawn,wpAny (model prog w) A.in1 (newFields "set_iterator" [rawInt 0,rawInt 0,.ref a,rawInt es.size,rawInt ep] >>= fun it=>ret it) (fun fin s'=>∃v,fin=Fin.done (.ret v)∧∃T m,s'.TypeIs v T∧typeLookup (.type T) "__next__" = pure (some m)∧Q v s') E { s with drawn:=d' }:=by
  intro B hB hor d'
  unfold newFields
  refine wpAny_bind (wpAny_newObj_type (wpAny_pure ⟨_,rfl,"set_iterator",_,⟨_,Heap.get?_push_size _ rfl,rfl⟩,F.si_next.lookup,?_⟩))
  have hI:SIt (s.heap.push { cls:=.type "set_iterator",data:=.fields #[rawInt 0,rawInt 0,.ref a,rawInt es.size,rawInt ep] }) s.heap.objs.size (rawInt 0) 0 a es.size ep:=Heap.get?_push_size _ rfl
  have kp:∀b o,s.heap.get? b=some o→(s.heap.push { cls:=.type "set_iterator",data:=.fields #[rawInt 0,rawInt 0,.ref a,rawInt es.size,rawInt ep] }).get? b=some o:=fun b o e=>Heap.get?_push_of_some _ e
  have hz:(s.heap.push { cls:=.type "set_iterator",data:=.fields #[rawInt 0,rawInt 0,.ref a,rawInt es.size,rawInt ep] }).objs.size=s.heap.objs.size+1:=Heap.size_push ..
  have fpl:∀b∈[s.heap.objs.size,a],b<(s.heap.push { cls:=.type "set_iterator",data:=.fields #[rawInt 0,rawInt 0,.ref a,rawInt es.size,rawInt ep] }).objs.size:=fun b hb=>by
   rw[hz]
   rcases List.mem_cons.mp hb with q | q
   ·rw[q];exact Nat.lt_succ_self _
   ·rw[List.mem_singleton.mp q];exact Nat.lt_succ_of_lt hlt
  have fpo:∀b∈[s.heap.objs.size,a],b=a∨s.heap.objs.size≤b:=fun b hb=>by
   rcases List.mem_cons.mp hb with q | q
   ·exact .inr (by rw[q];exact Nat.le_refl _)
   ·exact .inl (List.mem_singleton.mp q)
  refine h _ _ d' ?_ kp (by rw[hz];exact Nat.le_succ _)
  cases B with
  | true=>
   refine⟨_,_,_,fun A hA=>Walks.setT (t:=t) hB hA (Nat.ne_of_lt hlt),⟨⟨0,hI⟩,S.at fun o q=>kp _ _ q⟩,fpl,Nat.le_refl _,fpo,fun acc hacc=>?_⟩
   have hp:=JG (w.params.setOrder a ep) es
   rw[MJ (L:=(pickOrder (w.params.setOrder a ep) es).toList.map (·.2)) hacc (by rw[List.length_map,hp.length_eq,Array.length_toList]) fun i v ⟨e,q1,q2⟩=>by rw[List.getElem?_map,Array.getElem?_toList,q1,q2];rfl]
   exact hp.map _
  | false=>
   have h1:es.size≤1:=by
    rcases hor with q | q
    ·cases q
    ·exact q
   refine⟨_,_,_,fun A hA=>Walks.setO (t:=t) hB hA (Nat.ne_of_lt hlt) h1,⟨hI,S.at fun o q=>kp _ _ q⟩,fpl,Nat.le_refl _,fpo,fun acc hacc=>?_⟩
   rw[MJ (L:=es.toList.map (·.2)) hacc (by simp) fun i v ⟨e,q1,q2⟩=>by rw[List.getElem?_map,Array.getElem?_toList,q1,q2];rfl]
 refine wpAny_bind ?_
 unfold setDrawn
 refine wpAny_bind (wpAny_setState_of S.ob rfl S.fit ?_)
 unfold setsByText
 refine wpAny_bind (wpAny_bind (wpAny_askSetting (wpAny_pure (wpAny_pure ?_))))
 show wpAny _ _ (if (!w.params.followText "set-order"&&(!t.plain&&decide (es.size > 1)))=true then _ else _) _ _ _
 by_cases hd:(!w.params.followText "set-order"&&(!t.plain&&decide (es.size > 1)))=true
 ·rw[if_pos hd]
  refine wpAny_bind (RJ es.size _ _ _ (by simp) fun ys d' hp=>?_)
  refine wpAny_bind (wpAny_newTuple (hsz:=by rw[List.length_map,hp.length_eq,List.length_range];exact Nat.le_trans hle (by decide)) ?_)
  generalize hH1:s.heap.push { cls:=.type "tuple",data:=.seq (ys.map fun(p:Nat)=>rawInt p).toArray }=H1
  have kp1:∀b o,s.heap.get? b=some o→H1.get? b=some o:=fun b o e=>by rw[←hH1];exact Heap.get?_push_of_some _ e
  have hT1:H1.IsTuple s.heap.objs.size (ys.map fun(p:Nat)=>rawInt p).toArray:=by rw[←hH1];exact⟨_,Heap.get?_push_size _ rfl,rfl,_,rfl⟩
  have hz1:H1.objs.size=s.heap.objs.size+1:=by rw[←hH1];exact Heap.size_push ..
  have S1:SetB w H1 a es ep t:=S.at fun o q=>kp1 _ _ q
  refine wpAny_bind (wpAny_setEpoch_of (s:={ s with heap:=H1,drawn:=d' }) S1.ob rfl S.fit ?_)
  unfold newFields
  refine wpAny_bind (wpAny_newObj_type (wpAny_pure ⟨_,rfl,"set_iterator",_,⟨_,Heap.get?_push_size _ rfl,rfl⟩,F.si_next.lookup,?_⟩))
  generalize hH2:H1.push { cls:=.type "set_iterator",data:=.fields [.ref s.heap.objs.size,rawInt 0,.ref a,rawInt es.size,rawInt ep].toArray }=H2
  have kp2:∀b o,H1.get? b=some o→H2.get? b=some o:=fun b o e=>by rw[←hH2];exact Heap.get?_push_of_some _ e
  have hI:SIt H2 H1.objs.size (.ref s.heap.objs.size) 0 a es.size ep:=by rw[←hH2];exact Heap.get?_push_size _ rfl
  have hz2:H2.objs.size=s.heap.objs.size+2:=by rw[←hH2,Heap.size_push,hz1]
  refine h _ H2 d' ⟨_,_,_,fun A hA=>Walks.setD (t:=t) hA (T:=s.heap.objs.size) (by rw[hz1];exact Nat.ne_of_lt (Nat.lt_succ_of_lt hlt)) (by rw[hz1];exact Nat.ne_of_lt (Nat.lt_succ_self _)) hp,⟨hI,S1.at fun o q=>kp2 _ _ q,let ⟨o,e,c⟩:=hT1;⟨o,kp2 _ _ e,c⟩⟩,fun b hb=>?_,by rw[hz1];exact Nat.le_succ _,fun b hb=>?_,fun acc hacc=>?_⟩ (fun b o e=>kp2 b o (kp1 b o e)) (by rw[hz2];exact Nat.le_refl _)
  ·rw[hz2]
   simp only[List.mem_cons,List.not_mem_nil,or_false]at hb
   rcases hb with rfl | rfl | rfl
   ·rw[hz1];exact Nat.lt_succ_self _
   ·exact Nat.lt_succ_of_lt (Nat.lt_succ_of_lt hlt)
   ·exact Nat.lt_succ_of_lt (Nat.lt_succ_self _)
  ·simp only[List.mem_cons,List.not_mem_nil,or_false]at hb
   rcases hb with rfl | rfl | rfl
   ·right;rw[hz1];exact Nat.le_succ _
   ·exact .inl rfl
   ·exact .inr (Nat.le_refl _)
  ·have hl:ys.length=es.size:=by rw[hp.length_eq,List.length_range]
   rw[MJ (L:=ys.map fun p=>(es.toList.map (·.2)).getD p .none) hacc (by rw[List.length_map,hl]) fun i v hq0=>by
    obtain⟨p,e,q1,q2,q3⟩:=hq0
    rw[List.getElem?_map,q1,q3]
    have:(es.toList.map (·.2))[p]?=some e.2:=by rw[List.getElem?_map,Array.getElem?_toList,q2];rfl
    simp only[Option.map_some,List.getD_eq_getElem?_getD,this,Option.getD_some]]
   refine(hp.map _).trans ?_
   have:(List.range es.size).map (fun p=>(es.toList.map (·.2)).getD p Value.none)=es.toList.map (·.2):=by
    apply List.ext_getElem?
    intro i
    by_cases hi:i<es.size
    ·rw[List.getElem?_map,List.getElem?_range hi]
     simp[List.getD_eq_getElem?_getD,hi]
    ·rw[List.getElem?_eq_none (by simp;lia),List.getElem?_eq_none (by simp;lia)]
   rw[this]
 ·rw[if_neg hd]
  refine wpAny_bind (wpAny_pure (wpAny_bind (wpAny_setEpoch_of S.ob rfl S.fit ?_)))
  refine plain _ rfl ?_ s.drawn
  cases hB:w.params.followText "set-order" with
  | true=>exact .inl rfl
  | false=>
   refine .inr ?_
   rw[hB]at hd
   refine Classical.byContradiction fun q=>hd ?_
   have:=S.pl (by lia)
   simp[this]
   lia
end
end PySem
end
section
namespace PySem
section
variable{prog:Program}{w:World}{A:Around}{E:Value→Shared→Prop}{s:Shared}{a:Addr}{es:Array (Int×Value)}{ep:Nat}{t:SetTable}
theorem nZ{h:Heap}(S:SetB w h a es ep t){s:Shared}(hs:s.heap=h){Q:Bool→Shared→Prop}(q:Q false s):wpAny (model prog w) A (Builtin.List.listLengthHint (.ref a)) Q E s:=by
 have hT:s.TypeIs (.ref a) "set":=⟨_,by rw[hs];exact S.ob,rfl⟩
 unfold Builtin.List.listLengthHint
 refine wpAny_bind (wpAny_specialOf hT F.slot_set_len.lookup ?_)
 generalize hid:("set.__len__" : String)=id0
 wp_delta
 rw[show splitId id0=some ("set","__len__") from by subst hid;decide +kernel]
 subst hid
 refine wpAny_bind (wpAny_isInstance (T:="set") (b:=true) hT sub_set_self ?_)
 refine wpAny_ite_split (fun hab=>absurd hab (by decide)) (fun _=>?_)
 refine wpAny_ite_split (fun _=>?_) (fun hab=>absurd (by decide +kernel) hab)
 exact wpAny_bind (wpAny_typeOf hT (wpAny_pure q))
theorem aC(S:SetB w s.heap a es ep t)(hle:es.size≤1000)(hh:A.handled=none){R:List Value→Shared→Prop}
  (h:∀(h':Heap) (tk:Nat) (d':Drawn) (acc:Array Value),(∀b o,s.heap.get? b=some o→h'.get? b=some o)→acc.toList.Perm (es.toList.map (·.2))→R acc.toList { s with heap:=h',toks:=tk,drawn:=d' }) :
  wpAny (model prog w) A (collect (.ref a)) R E s:=by
 have hlt:=Heap.lt_size S.ob
 unfold collect
 refine wpAny_bind (wpAny_runValue (codeAny_builtin PyProof.Rows.entry_proto_collect' ?_))
 rw[Around.under_plainId PySem.F.plain_proto_collect _]
 show wpAny _ A.in1 (newList [] >>= fun l=>again (.builtin "list.__iadd__" ⟨[l,.ref a],[]⟩)) _ _ s
 refine wpAny_bind (wpAny_newObj_type ?_)
 refine wpAny_pure ⟨plainId_quiet PySem.F.plain_list_iadd _,codeAny_builtin PyProof.Rows.entry_list_iadd' ?_⟩
 rw[Around.under_plainId PySem.F.plain_list_iadd _]
 show wpAny _ A.in1 (Builtin.List.listExtendWith (.ref s.heap.objs.size) (.ref a) (.ref s.heap.objs.size)) _ _ _
 generalize hH:s.heap.push { cls:=.type "list",data:=.seq ([]:List Value).toArray }=H1
 have hL:H1.get? s.heap.objs.size=some { cls:=.type "list",data:=.seq #[] }:=by rw[←hH];exact Heap.get?_push_size _ rfl
 have k1:∀b o,s.heap.get? b=some o→H1.get? b=some o:=fun b o e=>by rw[←hH];exact Heap.get?_push_of_some _ e
 have hz1:H1.objs.size=s.heap.objs.size+1:=by rw[←hH];exact Heap.size_push ..
 have S1:SetB w H1 a es ep t:=S.at fun o q=>k1 _ _ q
 unfold Builtin.List.listExtendWith
 refine wpAny_bind (wpAny_typeOf (T:="set") ⟨_,S1.ob,rfl⟩ ?_)
 rw[if_neg (by simp[Builtin.List.listSameRef,Nat.ne_of_gt hlt])]
 refine wpAny_bind (oV (s:={ s with heap:=H1 }) S1 hle fun I h2 d' ⟨fp,P,St,W,st,hfp,hn0,hor,hperm⟩ k2 _=>?_)
 have hSf:s.heap.objs.size∉fp:=fun hm=>by
  rcases hor _ hm with q | q
  ·exact absurd q (Nat.ne_of_gt hlt)
  ·have:H1.objs.size≤s.heap.objs.size:=q
   rw[hz1]at this
   exact absurd this (Nat.not_succ_le_self _)
 have hI:s.heap.objs.size<I:=by
  have:H1.objs.size≤I:=hn0
  rw[hz1]at this
  exact this
 have hL2:h2.get? s.heap.objs.size=some { cls:=.type "list",data:=.seq #[] }:=k2 _ _ hL
 have S2:SetB w h2 a es ep t:=S1.at fun o q=>k2 _ _ q
 have key:∀(h3:Heap) (c:Nat),St 0 h3→(∀b o,b≠s.heap.objs.size→h2.get? b=some o→h3.get? b=some o)→h3.get? s.heap.objs.size=some { cls:=.type "list",data:=.seq #[] c }→
   codeAny (model prog w) A (.builtin "list.extend.loop" ⟨[.ref s.heap.objs.size,.ref I,.ref s.heap.objs.size],[]⟩) (fun r s₂=>match r with | .ok (.ret v)=>wpAny (model prog w) A (match v with | .ref x=>load x >>= fun o=>(match o.data with | .seq xs _=>pure xs.toList | _=>unsupported "internal:collect") | _=>unsupported "internal:collect") R E s₂ | .ok _=>False | .error e=>E e s₂) { s with heap:=h3,drawn:=d' }:=by
  intro h3 c st3 k3 hL3
  refine codeAny_extend_loopS ((W A.in1 (by simp[hh])).toS) (Nat.le_trans hle (by decide)) _ hSf _ es.size 0 _ #[] c rfl (Nat.zero_le _) st3 hL3 (ItemsOf.nil _) fun s' acc' c' hm hS' hacc=>?_
  rw[Moved.eq_with hm]
  show wpAny _ A (load s.heap.objs.size >>= _) _ _ _
  refine wpAny_bind (wpAny_load hS' (wpAny_pure (h s'.heap s'.toks d' acc' (fun b o e=>?_) (hperm acc' hacc))))
  have hb:b<s.heap.objs.size:=Heap.lt_size e
  refine hm.heap b o (fun z=>?_) (k3 b o (Nat.ne_of_lt hb) (k2 b o (k1 b o e)))
  rcases List.mem_cons.mp z with z | z
  ·exact absurd z (Nat.ne_of_lt hb)
  ·rw[List.mem_singleton.mp z]at hb
   exact absurd (Nat.lt_trans hI hb) (Nat.lt_irrefl _)
 refine wpAny_bind (wpAny_holding (nZ (s:={ s with heap:=h2,drawn:=d' }) S2 rfl ?_))
 refine wpAny_ite_split (fun _=>?_) (fun _=>wpAny_pure ⟨plainId_quiet PySem.F.plain_extend_loop _,key h2 0 st (fun b o _ e=>e) hL2⟩)
 refine wpAny_bind (wpAny_rule ?_)
 refine wpAny_bind ?_
 show wpAny _ _ (updateSeq s.heap.objs.size (·.push .none) >>= fun _=>updateSeq s.heap.objs.size (·.pop)) _ _ _
 refine wpAny_bind (wpAny_updateSeq (s:={ s with heap:=h2,drawn:=d' }) hL2 rfl ?_)
 have hL3:=Heap.get?_update_self (Obj.mapSeq (·.push Value.none)) hL2 rfl
 refine wpAny_updateSeq (hz:=by seq_fits) hL3 rfl ?_
 have hL4:=Heap.get?_update_self (Obj.mapSeq (·.pop)) hL3 rfl
 have k4:∀b o,b≠s.heap.objs.size→h2.get? b=some o→((h2.update s.heap.objs.size (Obj.mapSeq (·.push Value.none))).update s.heap.objs.size (Obj.mapSeq (·.pop))).get? b=some o:=fun b o hb e=>(Heap.get?_update_other _ _ (Ne.symm hb)).trans ((Heap.get?_update_other _ _ (Ne.symm hb)).trans e)
 exact wpAny_pure ⟨plainId_quiet PySem.F.plain_extend_loop _,key _ _ ((W A hh).frame 0 _ _ st fun b hb o e=>k4 b o (fun z=>hSf (z▸hb)) e) k4 hL4⟩
end
end PySem
end
section
namespace L2
open PySem PySem.Spec PyProof.Rows
section
variable{prog:Program}{w:World}{A:Around}{E:Value→Shared→Prop}{s:Shared}
end
section
variable{X:Cx}
theorem Inv.drawn{pins:List (Addr×Obj)}{σ:St}{H:Hp}{s:Shared}(I:Inv X pins σ H s)(d':Drawn):Inv X pins σ H { s with drawn:=d' }:=
 I.step (h':=s.heap) (t':=s.toks) (g':=s.gens) (d':=d') (ch:=[]) (fun _ z=>nomatch z) (fun b o _ _ _ e _=>e) (fun b o _ _ _ e _=>⟨o.slots,e⟩) (fun _ _ _ _ n=>n) (fun b o _ e=>⟨o,e⟩) (fun _ _ e=>e) (fun _ _ _ e=>e) (fun b ps e=>⟨#[],by rw[e];simp⟩) (fun m hm=>hm) I.hok I.bare
end
end L2
end
section
namespace WL
open PySem PySem.Spec PyProof.Rows L2
section
variable{C:String→List D→Mem→Option (D×Mem)}{X:Cx}{a:Expr}{pa:Ex}
end
end WL
end
section
namespace L2
open PySem PySem.Spec PyProof.Rows
section
variable{X:Cx}{tg:Expr}
end
end L2
end
section
namespace WL
open PySem PySem.Spec PyProof.Rows L2
section
variable{C:String→List D→Mem→Option (D×Mem)}{X:Cx}{tg a b:Expr}{pa pb:Ex}{pos:Pos}
end
end WL
end
section
namespace PySem.W
open PyProof.Rows
theorem KasT.runv_bind{α β:Type}{n:Nat}{f:Nat→Nat→Bool}{k:α→KasT β}:∀t:KasT α,(t.bind k).runv n f=(t.runv n f).bind fun a=>(k a).runv n f
 | .ret a=>rfl
 | .ask i j q=>by
  show (if i<n∧j<n then ((q (f i j)).bind k).runv n f else none)=(if i<n∧j<n then (q (f i j)).runv n f else none).bind _
  split
  ·exact KasT.runv_bind _
  ·rfl
theorem KasT.runv_ask{α:Type}{n:Nat}{f:Nat→Nat→Bool}{i j:Nat}{k:Bool→KasT α}(hi:i<n)(hj:j<n):(KasT.ask i j k).runv n f=(k (f i j)).runv n f:=if_pos ⟨hi,hj⟩
structure Ord(n:Nat)(f:Nat→Nat→Bool):Prop where
 anti:∀i j,i<n→j<n→i≠j→f j i=!f i j
 tr:∀i j k,i<n→j<n→k<n→f i j=true→f j k=true→f i k=true
def PermR(n:Nat)(p:Array Nat):Prop:=p.toList.Perm (List.range n)
noncomputable def gI(p:Array Nat)(i:Nat):Nat:=p.getD i 0
section
variable{n:Nat}{f:Nat→Nat→Bool}{p:Array Nat}
theorem PermR.size(h:PermR n p):p.size=n:=by
 have:=h.length_eq
 simpa using this
theorem PermR.get(h:PermR n p){i:Nat}(hi:i<n):p[i]?=some (gI p i):=by
 have hs:i<p.size:=by rw[h.size];exact hi
 unfold gI
 rw[Array.getD_eq_getD_getElem?,Array.getElem?_eq_getElem hs]
 rfl
theorem PermR.lt(h:PermR n p){i:Nat}(hi:i<n):gI p i<n:=by
 have e:=h.get hi
 have:gI p i∈p.toList:=by
  rw[←Array.getElem?_toList]at e
  exact List.mem_of_getElem? e
 exact List.mem_range.mp (h.mem_iff.mp this)
theorem PermR.inj(h:PermR n p){i j:Nat}(hi:i<n)(hj:j<n)(e:gI p i=gI p j):i=j:=by
 have hn:p.toList.Nodup:=h.nodup_iff.mpr List.nodup_range
 have e1:=h.get hi
 have e2:=h.get hj
 rw[←Array.getElem?_toList]at e1 e2
 rw[e]at e1
 exact(List.getElem?_inj (by rw[Array.length_toList,h.size];exact hi) hn).mp (e1.trans e2.symm)
def Up(f:Nat→Nat→Bool)(p:Array Nat)(b:Nat):Prop:=∀i j,i<j→j<b→f (gI p i) (gI p j)=true
def Dn(f:Nat→Nat→Bool)(p:Array Nat)(b:Nat):Prop:=∀i j,i<j→j<b→f (gI p j) (gI p i)=true
theorem flip(O:Ord n f)(h:PermR n p){i j:Nat}(hi:i<n)(hj:j<n)(hne:i≠j)(e:f (gI p i) (gI p j)=false):f (gI p j) (gI p i)=true:=by
 rw[O.anti _ _ (h.lt hi) (h.lt hj) fun q=>hne (h.inj hi hj q),e];rfl
theorem nW(O:Ord n f)(h:PermR n p){m:Nat}(hm:1≤m)(hn:m<n)(u:Up f p m)(e:f (gI p (m-1)) (gI p m)=true):Up f p (m+1):=by
 intro i j hij hj
 by_cases hjm:j<m
 ·exact u i j hij hjm
 ·obtain rfl:j=m:=by lia
  by_cases him:i=j-1
  ·subst him;exact e
  ·exact O.tr _ _ _ (h.lt (by lia)) (h.lt (by lia)) (h.lt hn) (u i (j-1) (by lia) (by lia)) e
theorem cY(O:Ord n f)(h:PermR n p){m:Nat}(hm:1≤m)(hn:m<n)(u:Dn f p m)(e:f (gI p m) (gI p (m-1))=true):Dn f p (m+1):=by
 intro i j hij hj
 by_cases hjm:j<m
 ·exact u i j hij hjm
 ·obtain rfl:j=m:=by lia
  by_cases him:i=j-1
  ·subst him;exact e
  ·exact O.tr _ _ _ (h.lt hn) (h.lt (by lia)) (h.lt (by lia)) e (u i (j-1) (by lia) (by lia))
theorem bI(O:Ord n f)(h:PermR n p):∀(fu m:Nat),1≤m→m+fu=n→Up f p m→∃r,(kas_asc p fu m).runv n f=some r∧m≤r∧r≤n∧Up f p r∧(r<n→f (gI p r) (gI p (r-1))=true)
 | 0,m,hm,e,u=>⟨m,rfl,Nat.le_refl _,by lia,u,fun q=>by lia⟩
 | fu+1,m,hm,e,u=>by
  have e1:(kas_asc p (fu+1) m).runv n f=_:=KasT.runv_ask (h.lt (show m<n by lia)) (h.lt (show m-1<n by lia))
  cases c:f (gI p m) (gI p (m-1)) with
  | true=>
   refine⟨m,?_,Nat.le_refl _,by lia,u,fun _=>c⟩
   rw[e1,show f (p.getD m 0) (p.getD (m-1) 0)=true from c,if_pos rfl]
   rfl
  | false=>
   obtain⟨r,h1,h2,h3,h4,h5⟩:=bI O h fu (m+1) (by lia) (by lia) (nW O h hm (by lia) u (flip O h (by lia) (by lia) (by lia) c))
   refine⟨r,?_,by lia,h3,h4,h5⟩
   rw[e1,show f (p.getD m 0) (p.getD (m-1) 0)=false from c,if_neg (by decide)]
   exact h1
theorem cZ(O:Ord n f)(h:PermR n p):∀(fu m:Nat),1≤m→m+fu=n→Dn f p m→∃r,(kas_desc fu p m 0).runv n f=some (p,r,0)∧m≤r∧r≤n∧Dn f p r
 | 0,m,hm,e,u=>⟨m,rfl,Nat.le_refl _,by lia,u⟩
 | fu+1,m,hm,e,u=>by
  have e1:(kas_desc (fu+1) p m 0).runv n f=_:=KasT.runv_ask (h.lt (show m<n by lia)) (h.lt (show m-1<n by lia))
  cases c:f (gI p m) (gI p (m-1)) with
  | true=>
   obtain⟨r,h1,h2,h3,h4⟩:=cZ O h fu (m+1) (by lia) (by lia) (cY O h hm (by lia) u c)
   refine⟨r,?_,by lia,h3,h4⟩
   rw[e1,show f (p.getD m 0) (p.getD (m-1) 0)=true from c,if_pos rfl,if_neg (by lia)]
   exact h1
  | false=>
   have c':=flip O h (by lia) (by lia) (by lia) c
   refine⟨m,?_,Nat.le_refl _,by lia,u⟩
   rw[e1,show f (p.getD m 0) (p.getD (m-1) 0)=false from c,if_neg (by decide),KasT.runv_ask (show p.getD (m-1) 0<n from h.lt (show m-1<n by lia)) (show p.getD m 0<n from h.lt (show m<n by lia)),show f (p.getD (m-1) 0) (p.getD m 0)=true from c',if_pos rfl]
   rfl
theorem XQ(h:PermR n p)(i j:Nat):PermR n (kas_rev p i j):=(Array.Perm.toList (mirror_perm p i j _)).trans h
theorem bZ(h:PermR n p){j:Nat}(hj:j≤n){k:Nat}(hk:k<n):gI (kas_rev p 0 j) k=if k<j then gI p (j-1-k) else gI p k:=by
 have e:=getElem?_mirror_all (xs:=p) (i:=0) (j:=j) (by rw[h.size];exact hj) k
 have e1:=(XQ h 0 j).get hk
 rw[show (mirror p 0 j ((j-0) / 2))[k]?=some (gI (kas_rev p 0 j) k) from e1]at e
 by_cases q:k<j
 ·rw[if_pos ⟨Nat.zero_le _,q⟩,show 0+j-1-k=j-1-k by lia,h.get (by lia)]at e
  rw[if_pos q];exact Option.some.inj e
 ·rw[if_neg (fun z=>q z.2),h.get hk]at e
  rw[if_neg q];exact Option.some.inj e
theorem mJ(O:Ord n f)(h:PermR n p)(h2:2≤n):∃r p',(kas_count n p).runv n f=some (r,p')∧PermR n p'∧1≤r∧r≤n∧Up f p' r:=by
 obtain⟨m,a1,a2,a3,a4,a5⟩:=bI O h (n-1) 1 (Nat.le_refl _) (by lia) (fun i j _ _=>by lia)
 have e0:(kas_count n p).runv n f=_:=KasT.runv_bind _
 rw[a1,Option.bind_some]at e0
 by_cases hmn:m=n
 ·refine⟨m,p,?_,h,by lia,by lia,a4⟩
  rw[e0,if_pos (by simp[hmn])];rfl
 ·rw[if_neg (by simpa using hmn)]at e0
  by_cases hm1:m > 1
  ·refine⟨m,p,?_,h,by lia,by lia,a4⟩
   rw[e0,if_pos hm1,KasT.runv_ask (show p.getD 0 0<n from h.lt (show 0<n by lia)) (show p.getD (m-1) 0<n from h.lt (show m-1<n by lia)),show f (p.getD 0 0) (p.getD (m-1) 0)=true from a4 0 (m-1) (by lia) (by lia),if_pos rfl]
   rfl
  ·obtain rfl:m=1:=by lia
   rw[if_neg hm1]at e0
   have c:=a5 (by lia)
   obtain⟨r,d1,d2,d3,d4⟩:=cZ O h (n-2) 2 (by lia) (by lia) (cY O h (Nat.le_refl _) (by lia) (fun i j _ _=>by lia) c)
   have e1:(kas_descPart 1 n p).runv n f=_:=KasT.runv_bind _
   rw[show n-(1+1)=n-2 by lia,d1,Option.bind_some,if_neg (show ¬(0 > 0) by lia)]at e1
   have hp:=XQ h 0 r
   have hu:Up f (kas_rev p 0 r) r:=fun i j hij hj=>by
    rw[bZ h d3 (show i<n by lia),bZ h d3 (show j<n by lia),if_pos (by lia),if_pos hj]
    exact d4 _ _ (by lia) (by lia)
   obtain⟨m2,b1,b2,b3,b4,_⟩:=bI O hp (n-r) r (by lia) (by lia) hu
   have e2:(kas_tail3 r n p).runv n f=_:=KasT.runv_bind _
   rw[b1,Option.bind_some]at e2
   exact⟨m2,kas_rev p 0 r,by rw[e0,e1,e2];rfl,hp,by lia,b3,b4⟩
theorem R0(O:Ord n f)(h:PermR n p){k:Nat}(hk:k<n)(u:Up f p k):∀(fu l r:Nat),l≤r→r≤k→r-l≤fu→(∀i,i<l→f (gI p i) (gI p k)=true)→(∀i,r≤i→i<k→f (gI p k) (gI p i)=true)→
  ∃x,(kas_place p k fu l r).runv n f=some x∧x≤k∧(∀i,i<x→f (gI p i) (gI p k)=true)∧(∀i,x≤i→i<k→f (gI p k) (gI p i)=true)
 | 0,l,r,h1,h2,h3,h4,h5=>by
  obtain rfl:l=r:=by lia
  exact⟨l,rfl,h2,h4,h5⟩
 | fu+1,l,r,h1,h2,h3,h4,h5=>by
  by_cases q:l≥r
  ·obtain rfl:l=r:=by lia
   refine⟨l,?_,h2,h4,h5⟩
   unfold kas_place
   rw[if_pos q];rfl
  ·have e1:(kas_place p k (fu+1) l r).runv n f=(if f (gI p k) (gI p ((l+r) / 2))=true then kas_place p k fu l ((l+r) / 2) else kas_place p k fu ((l+r) / 2+1) r).runv n f:=by
    rw[kas_place,if_neg q]
    exact KasT.runv_ask (h.lt hk) (h.lt (show (l+r) / 2<n by lia))
   cases c:f (gI p k) (gI p ((l+r) / 2)) with
   | true=>
    obtain⟨x,z1,z2⟩:=R0 O h hk u fu l ((l+r) / 2) (by lia) (by lia) (by lia) h4 (fun i hi hik=>by
     by_cases e:i=(l+r) / 2
     ·subst e;exact c
     ·exact O.tr _ _ _ (h.lt hk) (h.lt (by lia)) (h.lt (by lia)) c (u _ _ (by lia) hik))
    exact⟨x,by rw[e1,c,if_pos rfl];exact z1,z2⟩
   | false=>
    have c':=flip O h hk (by lia) (by lia) c
    obtain⟨x,z1,z2⟩:=R0 O h hk u fu ((l+r) / 2+1) r (by lia) (by lia) (by lia) (fun i hi=>by
     by_cases e:i=(l+r) / 2
     ·subst e;exact c'
     ·exact O.tr _ _ _ (h.lt (by lia)) (h.lt (by lia)) (h.lt hk) (u _ _ (by lia) (by lia)) c') h5
    exact⟨x,by rw[e1,c,if_neg (by decide)];exact z1,z2⟩
theorem dO(h:PermR n p){k d:Nat}(hk:k<n)(hd:d≤k){i:Nat}(hi:i<n):gI (bubble p k d) i=if i=k-d then gI p k else if k-d<i∧i≤k then gI p (i-1) else gI p i:=by
 have e:=getElem?_bubble (xs:=p) (src:=k) (by rw[h.size];exact hk) d hd i
 have hp:PermR n (bubble p k d):=(Array.Perm.toList (bubble_perm p k d)).trans h
 rw[hp.get hi]at e
 by_cases q:i=k-d
 ·rw[if_pos q,h.get hk]at e
  rw[if_pos q];exact Option.some.inj e
 ·rw[if_neg q]at e ⊢
  by_cases q2:k-d<i∧i≤k
  ·rw[if_pos q2,h.get (by omega)]at e
   rw[if_pos q2];exact Option.some.inj e
  ·rw[if_neg q2,h.get hi]at e
   rw[if_neg q2];exact Option.some.inj e
theorem mZ(O:Ord n f):∀(fu:Nat) (p:Array Nat) (k:Nat),PermR n p→k+fu=n→Up f p k→∃p',(kas_bin fu p k).runv n f=some p'∧PermR n p'∧Up f p' n
 | 0,p,k,h,e,u=>⟨p,rfl,h,by rw[←e];exact u⟩
 | fu+1,p,k,h,e,u=>by
  have hk:k<n:=by lia
  obtain⟨l,z1,z2,z3,z4⟩:=R0 O h hk u k 0 k (Nat.zero_le _) (Nat.le_refl _) (by lia) (fun i hi=>by lia) (fun i hi hi2=>by lia)
  have hp:PermR n (bubble p k (k-l)):=(Array.Perm.toList (bubble_perm p k _)).trans h
  have hu:Up f (bubble p k (k-l)) (k+1):=fun i j hij hj=>by
   rw[dO h hk (by lia) (show i<n by lia),dO h hk (by lia) (show j<n by lia),show k-(k-l)=l by lia]
   by_cases h1:i=l
   ·subst h1
    rw[if_pos rfl,if_neg (by lia),if_pos (by lia)]
    exact z4 _ (by lia) (by lia)
   ·rw[if_neg h1]
    by_cases h2:l<i∧i≤k
    ·rw[if_pos h2,if_neg (by lia),if_pos (by lia)]
     exact u _ _ (by lia) (by lia)
    ·rw[if_neg h2]
     by_cases h3:j=l
     ·rw[if_pos h3];exact z3 _ (by lia)
     ·rw[if_neg h3]
      by_cases h4:l<j∧j≤k
      ·rw[if_pos h4];exact u _ _ (by lia) (by lia)
      ·rw[if_neg h4];exact u _ _ hij (by lia)
  obtain⟨p',w1,w2⟩:=mZ O fu (bubble p k (k-l)) (k+1) hp (by lia) hu
  refine⟨p',?_,w2⟩
  have e1:(kas_bin (fu+1) p k).runv n f=_:=KasT.runv_bind _
  rw[e1,z1,Option.bind_some]
  exact w1
theorem qJ{l:List Nat}(h:∀(i j x y:Nat),i<j→l[i]?=some x→l[j]?=some y→f x y=true):l.Pairwise (fun a b=>f a b=true):=by
 rw[List.pairwise_iff_getElem]
 intro i j hi hj hij
 exact h i j _ _ hij (List.getElem?_eq_getElem hi) (List.getElem?_eq_getElem hj)
theorem sort_all(h2:2≤n)(O:Ord n f):∃p,(kas_sort n).runv n f=some p∧p.toList.Perm (List.range n)∧p.toList.Pairwise (fun a b=>f a b=true):=by
 have h0:PermR n (List.toArray (List.range n)):=List.Perm.refl _
 obtain⟨r,p',c1,c2,c3,c4,c5⟩:=mJ O h0 h2
 have e0:(kas_sort n).runv n f=_:=KasT.runv_bind _
 rw[c1,Option.bind_some]at e0
 have fin:∀q:Array Nat,PermR n q→Up f q n→q.toList.Pairwise (fun a b=>f a b=true):=fun q hq hu=>qJ fun i j x y hij hx hy=>by
  have hj:j<n:=by
   have:=List.getElem?_eq_some_iff.mp hy
   obtain⟨hj,_⟩:=this
   rw[Array.length_toList,hq.size]at hj
   exact hj
  rw[Array.getElem?_toList,hq.get (by lia)]at hx
  rw[Array.getElem?_toList,hq.get hj]at hy
  cases hx;cases hy
  exact hu i j hij hj
 by_cases hr:r<n
 ·rw[if_pos hr,show max r 1=r by lia]at e0
  obtain⟨q,w1,w2,w3⟩:=mZ O (n-r) p' r c2 (by lia) c5
  exact⟨q,by rw[e0];exact w1,w2,fin q w2 w3⟩
 ·rw[if_neg hr]at e0
  obtain rfl:r=n:=by lia
  exact⟨p',by rw[e0];rfl,c2,fin p' c2 c5⟩
end
end PySem.W
end
section
namespace PySem
def RawD(h:Heap)(d:Addr)(es:Array DictEntry)(ep:Nat):Prop:=∃o,h.get? d=some o∧o.ExactDict∧o.data=.dict es ep
section
variable{prog:Program}{w:World}{A:Around}{E:Value→Shared→Prop}{s:Shared}{d:Addr}{es:Array DictEntry}{ep:Nat}
theorem RawD.typeIs(x:RawD s.heap d es ep):s.TypeIs (.ref d) "dict":=by
 obtain⟨o,ho,he,_⟩:=x
 exact⟨o,ho,he.1⟩
theorem RawD.lt{h:Heap}(x:RawD h d es ep):d<h.objs.size:=by
 obtain⟨_,ho,_⟩:=x
 exact Heap.lt_size ho
theorem RawD.at{h h':Heap}(x:RawD h d es ep)(hk:∀o,h.get? d=some o→h'.get? d=some o):RawD h' d es ep:=by
 obtain⟨o,ho,r⟩:=x
 exact⟨o,hk o ho,r⟩
theorem kZ{Q:Value→Shared→Prop}(hd:(d==sysModules)=false)(hm:RawD s.heap d es ep)
  (hQ:Q (.ref s.heap.objs.size) { s with heap:=s.heap.push { cls:=.type "dict_keyiterator",data:=.fields #[.ref d,.int 0 0,.int es.size 0,.int ep 0] } }):wpAny (model prog w) A (pyIter (.ref d)) Q E s:=by
 have hT:=hm.typeIs
 obtain⟨o,ho,_,hdat⟩:=hm
 refine wpAny_pyIter_slot hT F.slot_dict_iter (wpAny_call_entry F.slot_dict_iter hT F.entry_dict_iter ?_ (F.args_dict_iter_1 _))
 unfold Builtin.«dict.__iter__»
 refine wpAny_bind ?_
 unfold Builtin.Dict.dictSlotNone
 refine wpAny_bind (wpAny_notOrdered_dict hT ?_)
 show wpAny _ _ (pure (Value.ref d)) _ _ s
 refine wpAny_pure ?_
 show wpAny _ _ (Builtin.Dict.showsAll d >>= _) _ _ s
 unfold Builtin.Dict.showsAll
 rw[if_neg (by rw[hd];exact Bool.false_ne_true)]
 refine wpAny_bind (wpAny_pure ?_)
 refine wpAny_bind (wpAny_dictEntries ho hdat ?_)
 refine wpAny_bind (wpAny_dictEpoch ho hdat ?_)
 exact wpAny_bind (wpAny_newObj_type (wpAny_pure ⟨_,rfl,"dict_keyiterator",_,⟨_,Heap.get?_push_size _ rfl,rfl⟩,F.slot_dict_keyiterator_next.lookup,hQ⟩))
theorem jV{it:Addr}{i:Nat}{e:DictEntry}{Q:Option Value→Shared→Prop}(hit:s.heap.IsKeyIter it d i es.size ep)(hm:RawD s.heap d es ep)(hx:es[i]?=some e)
  (hQ:∀h',h'.IsKeyIter it d (i+1) es.size ep→Heap.SameBut it s.heap h'→Q (some e.key) { s with heap:=h' }):wpAny (model prog w) A (pyNext (.ref it)) Q E s:=by
 obtain⟨o,ho,hc,hd⟩:=id hit
 obtain⟨od,hod,hcd,hdd⟩:=hm
 unfold pyNext
 refine wpAny_bind (wpAny_attempt (wpAny_callSpecial?_slot (name:=Str.ofString "__next__") hit.typeIs F.slot_dict_keyiterator_next
  (wpAny_call_entry F.slot_dict_keyiterator_next hit.typeIs F.entry_dict_keyiterator_next ?_ (F.args_dict_keyiterator_next_1 _))))
 refine wpAny_bind (wpAny_pure ?_)
 refine wpAny_bind ?_
 refine wpAny_bind ?_
 first | refine wpAny_bind (wpAny_typeNameOfWhole_keyiter hit.typeIs (wpAny_pure ?_)) | refine wpAny_bind (wpAny_typeNameOf_keyiter hit.typeIs (wpAny_pure ?_))
 refine wpAny_bind (wpAny_fieldsOf ho hd ?_)
 have hown:Builtin.Dict_items.ownsTuple "dict_keyiterator" = false:=by decide
 simp only[hown,Bool.false_eq_true,if_false]
 show wpAny _ _ (if (Value.ref d==Value.none)=true then _ else _) _ _ s
 rw[if_neg (show ¬((Value.ref d==Value.none)=true) from Bool.false_ne_true)]
 refine wpAny_bind (wpAny_pure ?_)
 refine wpAny_bind (wpAny_dictEntries hod hdd ?_)
 rw[if_neg (by simp)]
 refine wpAny_bind (wpAny_pure ?_)
 refine wpAny_bind (wpAny_dictEpoch hod hdd ?_)
 rw[if_neg (by simp)]
 refine wpAny_pure ?_
 obtain⟨hlt,he⟩:=Array.getElem?_eq_some_iff.mp hx
 simp only[show ¬((i:Int)<0) from by lia,if_false,Int.toNat_natCast,Array.getElem?_eq_getElem hlt]
 refine wpAny_bind ?_
 first | refine wpAny_bind (wpAny_typeNameOfWhole_keyiter hit.typeIs (wpAny_pure ?_)) | refine wpAny_bind (wpAny_typeNameOf_keyiter hit.typeIs (wpAny_pure ?_))
 refine wpAny_bind (wpAny_isOneOf_keyiter hit.typeIs ?_)
 show wpAny _ _ (setField (.ref it) 1 (rawInt ((i:Int)+1)) >>= _) _ _ s
 refine wpAny_bind (wpAny_setField ho hd (by simp) ?_)
 have hit':(s.heap.update it (Obj.mapFields (·.setIfInBounds 1 (rawInt ((i:Int)+1))))).IsKeyIter it d (i+1) es.size ep:=
  ⟨_,Heap.get?_update_self _ ho (Obj.isFreed_of_fields (Obj.data_mapFields hd _)),(Obj.cls_mapFields ..).trans hc,by rw[Obj.data_mapFields hd];simp[rawInt]⟩
 refine wpAny_bind (wpAny_holding ?_)
 refine wpAny_bind (wpAny_isOneOf_keyiter (s:={ s with heap:=s.heap.update it (Obj.mapFields (·.setIfInBounds 1 (rawInt ((i:Int)+1)))) }) hit'.typeIs ?_)
 show wpAny _ _ (pure es[i].key) _ _ _
 rw[he]
 exact wpAny_pure (wpAny_pure ⟨_,rfl,wpAny_pure (hQ _ hit' (Heap.SameBut.update ..))⟩)
theorem sE{it:Addr}{i:Nat}{Q:Option Value→Shared→Prop}(hh:A.handled=none)(hit:s.heap.IsKeyIter it d i es.size ep)(hm:RawD s.heap d es ep)(hx:es.size≤i)
  (hQ:∀h',Heap.ExtBut it s.heap h'→Q none { s with heap:=h' }):wpAny (model prog w) A (pyNext (.ref it)) Q E s:=by
 obtain⟨o,ho,hc,hd⟩:=id hit
 obtain⟨od,hod,hcd,hdd⟩:=hm
 unfold pyNext
 refine wpAny_bind (wpAny_attempt (wpAny_callSpecial?_slot (name:=Str.ofString "__next__") hit.typeIs F.slot_dict_keyiterator_next
  (wpAny_call_entry F.slot_dict_keyiterator_next hit.typeIs F.entry_dict_keyiterator_next ?_ (F.args_dict_keyiterator_next_1 _))))
 refine wpAny_bind (wpAny_pure ?_)
 refine wpAny_bind ?_
 refine wpAny_bind ?_
 first | refine wpAny_bind (wpAny_typeNameOfWhole_keyiter hit.typeIs (wpAny_pure ?_)) | refine wpAny_bind (wpAny_typeNameOf_keyiter hit.typeIs (wpAny_pure ?_))
 refine wpAny_bind (wpAny_fieldsOf ho hd ?_)
 have hown:Builtin.Dict_items.ownsTuple "dict_keyiterator" = false:=by decide
 simp only[hown,Bool.false_eq_true,if_false]
 show wpAny _ _ (if (Value.ref d==Value.none)=true then _ else _) _ _ s
 rw[if_neg (show ¬((Value.ref d==Value.none)=true) from Bool.false_ne_true)]
 refine wpAny_bind (wpAny_pure ?_)
 refine wpAny_bind (wpAny_dictEntries hod hdd ?_)
 rw[if_neg (by simp)]
 refine wpAny_bind (wpAny_pure ?_)
 refine wpAny_bind (wpAny_dictEpoch hod hdd ?_)
 rw[if_neg (by simp)]
 refine wpAny_pure ?_
 simp only[show ¬((i:Int)<0) from by lia,if_false,Int.toNat_natCast,Array.getElem?_eq_none hx]
 refine wpAny_bind ?_
 first | refine wpAny_bind (wpAny_typeNameOfWhole_keyiter hit.typeIs (wpAny_pure ?_)) | refine wpAny_bind (wpAny_typeNameOf_keyiter hit.typeIs (wpAny_pure ?_))
 show wpAny _ _ (setField (.ref it) 0 .none >>= _) _ _ s
 refine wpAny_bind (wpAny_setField ho hd (by simp) ?_)
 show wpAny _ _ (newExc (.type "StopIteration") [] >>= _) _ _ _
 refine wpAny_bind ?_
 simp only[newExc,newTuple]
 refine wpAny_bind (wpAny_newObj_type ?_ (by size_fits))
 refine wpAny_bind (m:=firstArgMember _ _) (wpAny_of_eq (a:=Value.none) (by first | rfl | (simp only[firstArgMember];rfl)) ?_)
 refine wpAny_newObj_type ?_ (by size_fits)
 simp only[raiseNew]
 refine wpAny_bind (wpAny_handled ?_)
 rw[show A.in1.handled=none from hh]
 refine wpAny_bind (wpAny_pure (wpAny_throw ?_))
 refine wpAny_bind (wpAny_isInstance (T:="StopIteration") (b:=true) ⟨_,Heap.get?_push_size _ rfl,rfl⟩ isSubtype_stop ?_)
 exact wpAny_pure (hQ _ (((Heap.SameBut.update ..).extBut.push _).push _))
theorem Walks.raw(hh:A.handled=none)(I d:Addr)(hne:d≠I)(es:Array DictEntry)(ep:Nat):
  Walks prog w A I [I,d] [I] es.size (fun i v=>∃e,es[i]?=some e∧v=e.key) (fun i h=>h.IsKeyIter I d i es.size ep∧RawD h d es ep) where
 sub:=fun b hb=>by simp at hb;simp[hb]
 frame:=fun _ _ _ st hk=>⟨st.1.at fun o e=>hk I (by simp) o e,st.2.at fun o e=>hk d (by simp) o e⟩
 item:=fun i s Q E hi st hQ=>by
  have hx:es[i]?=some es[i]:=Array.getElem?_eq_getElem hi
  refine jV st.1 st.2 hx fun h' hit' hs'=>?_
  exact hQ _ h' s.toks ⟨_,hx,rfl⟩ ⟨hit',st.2.at fun o e=>hs'.extBut d o hne e⟩ fun b o hb e=>hs'.extBut b o (fun h=>hb (by simp[h])) e
 done:=fun s Q E st hQ=>sE hh st.1 st.2 (Nat.le_refl _) fun h' he'=>hQ h' s.toks fun b o hb e=>he' b o (fun h=>hb (by simp[h])) e
 self:=fun _ _ _ _ st hQ=>wpAny_pyIter_keyiter st.1 hQ
end
namespace W
section
variable{prog:Program}{w:World}{d:Addr}{es:Array DictEntry}{ep:Nat}
theorem kdl_raw(lo:(d==sysModules)=false):KdlSrc prog w "dict" d d es.size (fun i v=>∃e,es[i]?=some e∧v=e.key) (fun h=>RawD h d es ep) where
 type:=fun _ hm=>hm.typeIs
 there:=fun _ hm=>⟨hm.lt,hm.lt⟩
 keep:=fun _ _ hm hk=>hm.at fun o e=>hk d (.inl rfl) o e
 notList:=by decide
 notTuple:=by decide
 hint:=fun _ _ _ _ hm hq=>kdl_hint_dict hm.typeIs hq
 iter:=fun _ _ hh hm=>⟨_,_,(fun _ _ hq=>kZ lo hm hq),Walks.raw hh _ d (Nat.ne_of_lt hm.lt) es ep,⟨⟨_,Heap.get?_push_size _ rfl,rfl,rfl⟩,hm.at fun o e=>Heap.get?_push_of_some _ e⟩⟩
end
end W
end PySem
end
section
namespace L2
open PySem PySem.Spec PyProof.Rows
def FlowH(K:PySem.W.Frag)(H:Hp)(k:FK)(b:Addr):Prop:=∃c,SqT K H b [.str k.1,.ref c]∧SqT K H c [.str k.2.1,kV k.2.2]
section
variable{X:Cx}{pins:List (Addr×Obj)}{σ:St}{H:Hp}{s:Shared}
theorem QD(I:Inv X pins σ H s){k:FK}{b:Addr}(h:FlowH X.K H k b):IsFlow X.prog X.w s.heap k b:=by
 obtain⟨c,hb,hc⟩:=h
 obtain⟨its,r,⟨o,e,cl,n,d⟩,_⟩:=I.tuple hb
 obtain⟨its',r',⟨o',e',cl',n',d'⟩,_⟩:=I.tuple hc
 cases r with
 | cons r1 t1=>
  cases t1 with
  | cons r2 t2=>
   cases t2
   obtain⟨t,rfl⟩:=r1
   cases r2
   cases r' with
   | cons q1 u1=>
    cases u1 with
    | cons q2 u2=>
     cases u2
     obtain⟨t',rfl⟩:=q1
     refine⟨o,_,n,t,c,e,cl,d,rfl,o',_,n',e',cl',d',?_⟩
     exact .cons (K6 (prog:=X.prog) (w:=X.w)) (.cons (YM q2) .nil)
theorem mC{P:Program}{w:World}{H:Hp}(h:Heap)(hb:sysModules<h.objs.size):ObjOk P w H (h.push { cls:=.type "dict",data:=.dict #[] }) h.objs.size (.dF []):=by
 obtain⟨z,lo,xs,r,o,es,ep,q⟩:=lZ (P:=P) (w:=w) (H:=H) h hb
 cases r
 exact⟨Nat.zero_le _,lo,o,es,ep,q.1,q.2.1,q.2.2.1,q.2.2.2.1,List.nodup_nil⟩
noncomputable def tFNew:TE:=fun _ H Q=>∀p,H p=none→Q (.ref p) (upd H p (.dF []))
theorem pe_fnew{pos:Pos}:PE X (.Dict [] [] pos) tFNew:=fun pins s σ H Q I h=>
 wpAny_Dict_empty ⟨.ref s.heap.objs.size,_,I.laid (a:=s.heap.objs.size) (o:=.dF []) (t':=s.toks) (fun _ _ q=>Heap.get?_push_of_some _ q) (Nat.le_refl _) (mC s.heap I.big),rfl,h _ (I.hok.fresh (Nat.le_refl _))⟩
noncomputable def addX(xs:List (FK×Addr))(k:FK)(b:Addr):List (FK×Addr):=if xs.any (fun x=>decide (x.1=k)) then xs else xs++[(k,b)]
noncomputable def yX(xs:List (FK×Addr)):List (FK×Addr×Value):=xs.map fun x=>(x.1,x.2,.bool true)
theorem bM(xs:List (FK×Addr)):(yX xs).map (·.1)=xs.map (·.1):=by unfold yX;rw[List.map_map];rfl
theorem tO:∀{xs:List (FK×Addr)} {k:FK},(atKey (yX xs) k).isSome=xs.any (fun x=>decide (x.1=k))
 | [],k=>rfl
 | x::r,k=>by
  have ih:=tO (xs:=r) (k:=k)
  unfold atKey yX at ih ⊢
  by_cases h:x.1=k
  ·simp[h]
  ·simp only[List.map_cons,List.find?_cons,h,decide_false,List.any_cons,Bool.false_or]
   exact ih
theorem tY(xs:List (FK×Addr))(k:FK)(b:Addr):storedH (yX xs) k b (.bool true)=yX (addX xs k b):=by
 unfold storedH addX
 rw[tO]
 by_cases h:xs.any (fun x=>decide (x.1=k))=true
 ·rw[if_pos h,if_pos h]
  unfold yX
  rw[List.map_map]
  refine List.map_congr_left fun x _=>?_
  simp only[Function.comp,putAt]
  split<;>rfl
 ·rw[if_neg h,if_neg h]
  simp[yX]
theorem bA{A:Around}{E:Value→Shared→Prop}{a b:Addr}{k:FK}{xs:List (FK×Addr)}{Q:Unit→Shared→Prop}(hu:A.units+11<cLine)(I:Inv X pins σ H s)(e:H a=some (.dF xs))(hk:FlowH X.K H k b)(hx:∀x∈xs,FlowH X.K H x.1 x.2)(l:xs.length<sizeLine)
  (h:∀s',Inv X pins σ (upd H a (.dF (addX xs k b))) s'→Q () s'):wpAny (model X.prog X.w) A (setItem (.ref a) (.ref b) (.bool true)) Q E s:=by
 obtain⟨z,lo,o,es,ep,ho,hex,hd,hes,hnd⟩:=(show ObjOk X.prog X.w H s.heap a (.dF xs) from I.hok a _ e)
 have dd:s.heap.DictOfH (flowKind X.prog X.w) a (yX xs):=⟨o,es,ep,ho,hex,hd,by rw[hes];unfold yX;rw[List.map_map];rfl,fun y hy=>by
  obtain⟨x,hx',rfl⟩:=List.mem_map.mp hy
  exact QD I (hx x hx'),by rw[bM];exact hnd⟩
 have hl:(addX xs k b).length≤sizeLine:=by
  unfold addX
  split
  ·exact z
  ·simp;omega
 refine wpAny_setItem_heap (knd:=flowKind X.prog X.w) (hsz:=by rw[yX,List.length_map];exact z) (show A.units+1+10<cLine by omega) (QD I hk) dd fun h' dd' hs=>h _ ?_
 rw[tY]at dd'
 obtain⟨q,es',ep',hq,h2,h3,h4,_,h5⟩:=dd'
 refine W5 I (by rw[e];exact True.intro) hs ⟨q,hq⟩ ⟨hl,lo,q,es',ep',hq,h2,h3,?_,by rw[bM]at h5;exact h5⟩
 rw[h4];unfold yX;rw[List.map_map];rfl
noncomputable def sFPut(K:PySem.W.Frag)(td ty:TE):TS:=fun D σ H=>td σ H fun x H1=>ty σ H1 fun y H2=>∃a b k xs,x=.ref a∧y=.ref b∧H2 a=some (.dF xs)∧FlowH K H2 k b∧(∀x∈xs,FlowH K H2 x.1 x.2)∧xs.length<sizeLine∧D.nx σ (upd H2 a (.dF (addX xs k b)))
theorem pO{o i:Expr}{pos pos' p1:Pos}{j:Nat}{td ty:TE}(hu:X.A.units+11<cLine)(ho:PE X o td)(hi:PE X i ty)(hs:swapsWith (.Constant (.bool true) j p1) (some (.Subscript o i pos')) pos.line X.env=pure false:=by rfl):
  PS X (.Assign [.Subscript o i pos'] (.Constant (.bool true) j p1) pos) (sFPut X.K td ty):=by
 intro pins s σ H D I h
 refine wpAny_Assign_Subscript (thn (tR pins s σ H (fun v H1=>v=.bl true∧H1=H) I ⟨rfl,rfl⟩) fun r s1 hq0=>?_) hs
 obtain⟨v,H1,I1,rv,ev,eh⟩:=hq0
 subst ev eh
 obtain rfl:r=Value.bool true:=rv
 refine thn (ho pins s1 σ _ _ I1 h) fun u s2 ⟨x,H2,I2,rx,q2⟩=>thn (hi pins s2 σ H2 _ I2 q2) fun iv s3 hq0=>?_
 obtain⟨y,H3,I3,ry,a,b,k,xs,ex,ey,e,hk,hx,l,q3⟩:=hq0
 subst ex ey
 obtain rfl:u=Value.ref a:=rx
 obtain rfl:iv=Value.ref b:=ry
 exact bA hu I3 e hk hx l fun s4 I4=>⟨σ,_,I4,q3⟩
end
end L2
end
section
namespace L2
open PySem PySem.Spec PyProof.Rows
structure Sto{α:Type}(f:α→α→Bool):Prop where
 irr:∀a,f a a=false
 anti:∀a b,a≠b→f b a=!f a b
 tr:∀a b c,f a b=true→f b c=true→f a c=true
noncomputable def sltB(a b:Str):Bool:=decide (a.cps.toList<b.cps.toList)
theorem slt_sto:Sto sltB where
 irr:=fun a=>decide_eq_false (List.lt_irrefl _)
 anti:=fun a b h=>Z0 h
 tr:=fun a b c h1 h2=>decide_eq_true (List.lt_trans (of_decide_eq_true h1) (of_decide_eq_true h2))
theorem rG:Sto kltB where
 irr:=fun a=>by
  cases a with
  | inl i=>simp[kltB]
  | inr x=>exact slt_sto.irr x
 anti:=fun a b h=>by
  cases a with
  | inl i=>
   cases b with
   | inl j=>
    have:i≠j:=fun e=>h (by rw[e])
    simp only[kltB]
    by_cases q:i<j
    ·rw[decide_eq_true q,decide_eq_false (by lia)];rfl
    ·rw[decide_eq_false q,decide_eq_true (by lia)];rfl
   | inr y=>rfl
  | inr x=>
   cases b with
   | inl j=>rfl
   | inr y=>exact slt_sto.anti x y fun e=>h (by rw[e])
 tr:=fun a b c h1 h2=>by
  cases a with
  | inl i=>
   cases b with
   | inl j=>
    cases c with
    | inl k=>simp only[kltB,decide_eq_true_eq]at h1 h2 ⊢;lia
    | inr z=>rfl
   | inr y=>
    cases c with
    | inl k=>cases h2
    | inr z=>rfl
  | inr x=>
   cases b with
   | inl j=>cases h1
   | inr y=>
    cases c with
    | inl k=>cases h2
    | inr z=>exact slt_sto.tr x y z h1 h2
noncomputable def lexB{α β:Type}[DecidableEq α][DecidableEq β](f:α→α→Bool)(g:β→β→Bool)(p q:α×β):Bool:=if p.1=q.1 then (if p.2=q.2 then false else g p.2 q.2) else f p.1 q.1
theorem cP{α β:Type}[DecidableEq α][DecidableEq β]{f:α→α→Bool}{g:β→β→Bool}(F:Sto f)(G:Sto g):Sto (lexB f g) where
 irr:=fun a=>by simp[lexB]
 anti:=fun a b h=>by
  unfold lexB
  by_cases h1:a.1=b.1
  ·have h2:a.2≠b.2:=fun e=>h (Prod.ext h1 e)
   rw[if_pos h1,if_pos h1.symm,if_neg h2,if_neg (Ne.symm h2)]
   exact G.anti _ _ h2
  ·rw[if_neg h1,if_neg (Ne.symm h1)]
   exact F.anti _ _ h1
 tr:=fun a b c h1 h2=>by
  unfold lexB at h1 h2 ⊢
  by_cases e1:a.1=b.1
  ·rw[if_pos e1]at h1
   by_cases e2:b.1=c.1
   ·rw[if_pos e2]at h2
    rw[if_pos (e1.trans e2)]
    by_cases q1:a.2=b.2
    ·rw[if_pos q1]at h1;cases h1
    ·rw[if_neg q1]at h1
     by_cases q2:b.2=c.2
     ·rw[if_pos q2]at h2;cases h2
     ·rw[if_neg q2]at h2
      have:=G.tr _ _ _ h1 h2
      rw[if_neg fun e=>by rw[e,G.irr]at this;cases this]
      exact this
   ·rw[if_neg e2]at h2
    rw[if_neg fun e=>e2 (e1.symm.trans e),e1]
    exact h2
  ·rw[if_neg e1]at h1
   by_cases e2:b.1=c.1
   ·rw[if_pos e2]at h2
    rw[if_neg fun e=>e1 (e.trans e2.symm),←e2]
    exact h1
   ·rw[if_neg e2]at h2
    have:=F.tr _ _ _ h1 h2
    rw[if_neg fun e=>by rw[e,F.irr]at this;cases this]
    exact this
theorem rP:fltB=lexB sltB (lexB sltB kltB):=by
 funext p q
 rfl
theorem flt_sto:Sto fltB:=by rw[rP];exact cP slt_sto (cP slt_sto rG)
noncomputable def dK0:FK×Addr:=((⟨#[]⟩,⟨#[]⟩,.inl 0),0)
noncomputable def ansF(fs:List (FK×Addr))(i j:Nat):Bool:=fltB (fs.getD i dK0).1 (fs.getD j dK0).1
theorem nG{fs:List (FK×Addr)}(hn:(fs.map (·.1)).Nodup):PySem.W.Ord fs.length (ansF fs) where
 anti:=fun i j hi hj h=>flt_sto.anti _ _ fun e=>by
  have e1:(fs.map (·.1))[i]'(by simpa using hi)=(fs.getD i dK0).1:=by simp[List.getD_eq_getElem?_getD,hi]
  have e2:(fs.map (·.1))[j]'(by simpa using hj)=(fs.getD j dK0).1:=by simp[List.getD_eq_getElem?_getD,hj]
  exact h ((List.getElem_inj hn).mp (e1.trans (e.trans e2.symm)))
 tr:=fun i j k _ _ _ h1 h2=>flt_sto.tr _ _ _ h1 h2
theorem JG{α:Type}(l:List α)(d:α){js:List Nat}(h:js.Perm (List.range l.length)):(js.map fun j=>l.getD j d).Perm l:=by
 have e:(List.range l.length).map (fun j=>l.getD j d)=l:=by
  apply List.ext_getElem?
  intro i
  by_cases hi:i<l.length
  ·rw[List.getElem?_map,List.getElem?_range hi]
   simp[List.getD_eq_getElem?_getD,hi]
  ·rw[List.getElem?_eq_none (by simp;lia),List.getElem?_eq_none (by lia)]
 have:=h.map fun j=>l.getD j d
 rw[e]at this
 exact this
section
variable{X:Cx}
theorem gC{h h1:Heap}{k:FK}{b:Addr}{P:Program}{w:World}{L:Addr}(hk:∀c u,c≠L→h.get? c=some u→h1.get? c=some u)(hL:∀c o xs n,h.get? c=some o→o.data=.seq xs n→c≠L)(x:IsFlow P w h k b):IsFlow P w h1 k b:=by
 obtain⟨o,items,n,t,c,ho,hc,hd,hi,o',items',n',ho',hc',hd',hi'⟩:=x
 exact⟨o,items,n,t,c,hk _ _ (hL _ _ _ _ ho hd) ho,hc,hd,hi,o',items',n',hk _ _ (hL _ _ _ _ ho' hd') ho',hc',hd',hi'⟩
theorem O8:∀fs:List (FK×Addr),Vals (fs.map fun x=>V.ref x.2) (fs.map fun x=>Value.ref x.2)
 | []=>.nil
 | x::r=>.cons rfl (O8 r)
theorem QT{pins:List (Addr×Obj)}{σ:St}{H:Hp}{s:Shared}(I:Inv X pins σ H s)(hu:X.A.units+20<cLine){fs:List (FK×Addr)}(hfs:∀x∈fs,IsFlow X.prog X.w s.heap x.1 x.2)(hnd:(fs.map (·.1)).Nodup)(h64:fs.length<64)(hty:∀x∈fs,∀y∈fs,sameT x.1.2.2 y.1.2.2=true∨x.1.2.1≠y.1.2.1){Q:VK}
  (q:∀(p:Addr) (ys:List (FK×Addr)),H p=none→ys.Perm fs→ys.Pairwise (fun x y=>fltB x.1 y.1=true)→Q (.ref p) (upd H p (.lst (ys.map fun x=>V.ref x.2)))) :
  wpAny (model X.prog X.w) X.A.in1 (call (.builtin "list.sort") [.ref s.heap.objs.size]) (fun _ s'=>EP X pins σ Q (.ref s.heap.objs.size) s') X.xe { s with heap:=s.heap.push (seqObj "list" (fs.map fun x=>Value.ref x.2).toArray 0) }:=by
 have hz:(fs.map fun x=>V.ref x.2).length≤sizeLine:=by rw[List.length_map,sizeLine_eq];lia
 have hoL:(s.heap.push (seqObj "list" (fs.map fun x=>Value.ref x.2).toArray 0)).get? s.heap.objs.size=some (seqObj "list" (fs.map fun x=>Value.ref x.2).toArray 0):=Heap.get?_push_size _ rfl
 by_cases hshort:fs.length<2
 ·refine wpAny_call_entry slot_list_sort ⟨_,hoL,rfl⟩ entry_list_sort (JV hoL (by rw[List.length_map];exact hshort) ⟨_,rfl,?_⟩) (args_list_sort _)
  obtain⟨c,hcD⟩:=sortedHeap_at (vs:=fs.map fun x=>Value.ref x.2) (out:=(pairsOf (fs.map fun x=>Value.ref x.2)).map (·.2)) hoL
  have hout:((pairsOf (fs.map fun x=>Value.ref x.2)).map (·.2))=(fs.map fun x=>Value.ref x.2).toArray:=by
   apply Array.ext'
   rw[Array.toList_map,pairsOf_toList,List.map_snd_zip (Nat.le_refl _)]
  refine⟨.ref s.heap.objs.size,_,I.laid (a:=s.heap.objs.size) (o:=.lst (fs.map fun x=>V.ref x.2)) (t':=s.toks) (fun b ob e=>?_) (Nat.le_refl _) ⟨hz,fs.map fun x=>Value.ref x.2,c,O8 fs,?_⟩,rfl,q _ fs (I.hok.fresh (Nat.le_refl _)) (List.Perm.refl _) ?_⟩
  ·have hb:b<s.heap.objs.size:=Heap.lt_size e
   rw[sortedHeap_old (Nat.ne_of_lt hb) (by rw[Heap.size_push];exact Nat.lt_succ_of_lt hb)]
   exact Heap.get?_push_of_some _ e
  ·rw[hcD,hout]
  ·match fs,hshort with
   | [],_=>exact List.Pairwise.nil
   | [x],_=>exact List.pairwise_singleton _ _
   | _::_::_,h=>simp at h;lia
 ·obtain⟨m,hm,_⟩:=I.loc
  have F0:=Att.fr_all hm
  have N0:=YC (g:=gOf s) (h:=s.heap) (L:=X.env.locals)
  have F':=F0.push (seqObj "list" (fs.map fun x=>Value.ref x.2).toArray 0)
  have N':=News.push F0 N0 (seqObj "list" (fs.map fun x=>Value.ref x.2).toArray 0) rfl
  have hlt:∀b∈allNews (gOf s) s.heap X.env.locals,b.1<s.heap.objs.size:=fun b hb=>Heap.lt_size (N0 b hb).1
  generalize hDD:s.heap.objs.size=D at *
  generalize hPP:s.heap.push (seqObj "list" (fs.map fun x=>Value.ref x.2).toArray 0)=hP at *
  have hlen:(fs.map fun x=>Value.ref x.2).length=fs.length:=List.length_map _
  refine PySem.W.kat_lsort (s:={ s with heap:=hP }) (vs:=fs.map fun x=>Value.ref x.2) F' N' (.head fun b hb=>Nat.ne_of_lt (hlt b hb)) (by simp) (by lia) (by lia) fun e1 h1 F1 N1=>?_
  have keep:=K5 (X:=X) (s:=s) N1
  have nD:=(N1 (D,_) List.mem_cons_self).2.1
  have hD:s.heap.get? D=none:=by
   cases e:s.heap.get? D with
   | none=>rfl
   | some ob=>exact absurd (hlt (D,ob) (K7 nD (Att.noObjs_get _ _) e)) (Nat.lt_irrefl _)
  have hn:H D=none:=by
   cases e:H D with
   | none=>rfl
   | some u=>
    obtain⟨ob',e'⟩:=(I.hok D u e).there
    rw[hD]at e'
    cases e'
  have notL:∀c o xs n,s.heap.get? c=some o→o.data=.seq xs n→c≠X.env.locals:=fun c o xs n e d zz=>by
   obtain⟨ol,_,_,el,dl,_⟩:=hm
   rw[zz,el]at e
   cases e
   rw[dl]at d
   cases d
  have hfw:∀x∈fs,IsFlow X.prog X.w h1 x.1 x.2:=fun x hx=>gC keep notL (hfs x hx)
  have tups:∀l:List (FK×Addr),(∀x∈l,IsFlow X.prog X.w h1 x.1 x.2)→∃gs,PySem.W.KatTups h1 (l.map fun x=>Value.ref x.2) gs∧gs.length=l.length∧∀v∈gs,∃y t,v=Value.str y t:=by
   intro l
   induction l with
   | nil=>exact fun _=>⟨[],.nil,rfl,by simp⟩
   | cons x r ih=>
    intro hx
    obtain⟨gs,g1,g2,g3⟩:=ih fun y hy=>hx y (List.mem_cons_of_mem _ hy)
    obtain⟨ob,items,n,t,c,hob,hcl,hdd,hi,_⟩:=hx x List.mem_cons_self
    refine⟨.str x.1.1 t::gs,.cons hob hcl hdd ?_ g1,by simp[g2],fun v hv=>?_⟩
    ·rw[←Array.getElem?_toList,hi];rfl
    ·rcases List.mem_cons.mp hv with rfl | hv
     ·exact⟨_,_,rfl⟩
     ·exact g3 v hv
  obtain⟨gs,t1,t2,t3⟩:=tups fs hfw
  refine PySem.W.kat_kind (s:={ s with heap:=h1 }) (T:=.type "str") t1 (by lia) (fun v hv=>?_) (by decide) ?_
  ·obtain⟨x,t,rfl⟩:=t3 v hv
   exact .now
  ·show PySem.W.KasT.kasWp _ _ _ _
   rw[hlen]
   obtain⟨p,hrun,hperm,hrise⟩:=PySem.W.sort_all (n:=fs.length) (f:=ansF fs) (by lia) (nG hnd)
   refine PySem.W.KasT.runv_wp (n:=fs.length) (ans:=ansF fs) (fun i j hi hj C hC=>?_) _ hrun ?_
   ·have ei:(fs.map fun x=>Value.ref x.2).getD i Value.none=.ref (fs.getD i dK0).2:=by simp[List.getD_eq_getElem?_getD,hi]
    have ej:(fs.map fun x=>Value.ref x.2).getD j Value.none=.ref (fs.getD j dK0).2:=by simp[List.getD_eq_getElem?_getD,hj]
    have mi:fs.getD i dK0∈fs:=by simp[List.getD_eq_getElem?_getD,hi]
    have mj:fs.getD j dK0∈fs:=by simp[List.getD_eq_getElem?_getD,hj]
    unfold PySem.W.kas_ask
    rw[ei,ej]
    exact rQ (s:={ s with heap:=h1 }) (by show X.A.units+1+1+10<cLine;lia) (hty _ mi _ mj) (hfw _ mi) (hfw _ mj) hC
   ·refine PySem.W.KasFin.intro (s:={ s with heap:=h1 }) F1 N1 (.head fun b hb=>Nat.ne_of_lt (hlt b hb)) fun h2 c F2 N2=>?_
    have hpk:=JG fs dK0 hperm
    have e2:(p.toList.map fun i=>(fs.map fun x=>Value.ref x.2).getD i Value.none)=(p.toList.map fun j=>fs.getD j dK0).map fun x=>Value.ref x.2:=by
     rw[List.map_map]
     refine List.map_congr_left fun j hj=>?_
     have hj':=List.mem_range.mp (hperm.mem_iff.mp hj)
     simp[List.getD_eq_getElem?_getD,hj']
    rw[e2]at N2
    refine⟨.ref D,_,I.newsLaid (t':=s.toks) (o:=.lst ((p.toList.map fun j=>fs.getD j dK0).map fun x=>V.ref x.2)) hm F2 N2 hD ⟨?_,_,c,O8 _,(N2 (D,_) List.mem_cons_self).1⟩,rfl,q D _ hn hpk ?_⟩
    ·rw[List.length_map,hpk.length_eq,sizeLine_eq];lia
    ·rw[List.pairwise_map]
     exact hrise
theorem WD(hc:X.calm=true)(hu:X.A.units+20<cLine):CallR X (.builtin "sorted") (fun xs H Q=>∃a fs,xs=[.ref a]∧H a=some (.dF fs)∧(∀x∈fs,FlowH X.K H x.1 x.2)∧fs.length<64∧(∀x∈fs,∀y∈fs,sameT x.1.2.2 y.1.2.2=true∨x.1.2.1≠y.1.2.1)∧
  ∀(p:Addr) (ys:List (FK×Addr)),H p=none→ys.Perm fs→ys.Pairwise (fun x y=>fltB x.1 y.1=true)→Q (.ref p) (upd H p (.lst (ys.map fun x=>V.ref x.2)))):=by
 intro pins s σ H xs us Q I r h
 obtain⟨a,fs,rfl,ha,hfl,h64,hty,q⟩:=h
 obtain⟨u,rfl,ru⟩:=vals1 r
 cases ru
 obtain⟨z,lo,o,es,ep,ho,hex,hd,hes,hnd⟩:=(show ObjOk X.prog X.w H s.heap a (.dF fs) from I.hok a _ ha)
 have hraw:RawD s.heap a es ep:=⟨o,ho,hex,hd⟩
 have hsz:es.size=fs.length:=by rw[←Array.length_toList,hes,List.length_map]
 have hvs:∀vs:List Value,vs.length=es.size→(∀(j:Nat) (v:Value),vs[j]?=some v→∃e,es[j]?=some e∧v=e.key)→vs=fs.map fun x=>Value.ref x.2:=fun vs hl hv=>by
  apply List.ext_getElem?
  intro j
  by_cases hj:j<fs.length
  ·have e1:vs[j]?=some (vs[j]'(by lia)):=List.getElem?_eq_getElem _
   obtain⟨e,e2,e3⟩:=hv j _ e1
   rw[←Array.getElem?_toList,hes,List.getElem?_map,List.getElem?_eq_getElem hj]at e2
   have e2:=Option.some.inj e2
   rw[e1,List.getElem?_map,List.getElem?_eq_getElem hj,e3,←e2]
   rfl
  ·rw[List.getElem?_eq_none (by lia),List.getElem?_eq_none (by simp;lia)]
 refine Calls.call_function_entry kind_sorted plain_sorted entry_sorted (args_sorted1 _) ?_
 unfold Builtin.«sorted»
 refine wpAny_bind (m:=checkCount "sorted" 1 1 _) (wpAny_pure ?_)
 refine wpAny_bind (PySem.W.kdu_collect (A:=X.A.in1) (PySem.W.kdl_raw (es:=es) (ep:=ep) lo) (I.ok.hd hc) hraw (by rw[hsz];exact z) fun h1 tk acc hk1 hacc=>?_)
 have hl:acc.toList.length=es.size:=by rw[Array.length_toList];exact hacc.1
 have hav:=hvs acc.toList hl fun j v e=>hacc.2 j v (by rw[←Array.getElem?_toList];exact e)
 refine wpAny_bind (wpAny_newList ?_ (by rw[hl,hsz];exact z))
 rw[hav]
 have I1:Inv X pins σ H { s with heap:=h1,toks:=tk }:=I.kept hk1
 refine wpAny_bind (wpAny_holding (wpAny_mono (QT (s:={ s with heap:=h1,toks:=tk }) (fs:=fs) (Q:=Q) I1 hu (fun x hx=>QD I1 (hfl x hx)) hnd h64 hty q) (fun _ s' x=>?_) fun _ _ e=>e))
 exact wpAny_pure ⟨_,rfl,x⟩
end
end L2
end
section
namespace WL
open PySem L2
theorem rJ{A:Around}{k:Nat}(hr:Room k A):A.units+11<cLine:=by have:=hr.un;lia
theorem cR{A:Around}{k:Nat}(hr:Room k A):A.units+20<cLine:=by have:=hr.un;lia
theorem fle_of{a b:FK}:fleB a b=true↔a=b∨fltB a b=true:=by
 unfold fleB
 by_cases h:a=b
 ·subst h;simp[flt_sto.irr]
 ·rw[flt_sto.anti a b h];simp[h]
theorem lG{a b:FK}(h1:fleB a b=true)(h2:fleB b a=true):a=b:=by
 rcases fle_of.mp h1 with h | h
 ·exact h
 ·rcases fle_of.mp h2 with h' | h'
  ·exact h'.symm
  ·have:=flt_sto.tr _ _ _ h h'
   rw[flt_sto.irr]at this;cases this
theorem wC{a b c:FK}(h1:fleB a b=true)(h2:fleB b c=true):fleB a c=true:=by
 rcases fle_of.mp h1 with rfl | h
 ·exact h2
 ·rcases fle_of.mp h2 with rfl | h'
  ·exact h1
  ·exact fle_of.mpr (.inr (flt_sto.tr _ _ _ h h'))
theorem rR(a b:FK):(fleB a b||fleB b a)=true:=by
 by_cases h:a=b
 ·subst h;simp[fle_of]
 ·have:=flt_sto.anti a b h
  unfold fleB
  rw[this]
  cases fltB a b<;>rfl
theorem iR(l:List FK):(sortF l).Pairwise (fun a b=>fleB a b=true):=List.pairwise_mergeSort (le:=fleB) (fun a b c h h'=>wC h h') rR l
theorem aF(l:List FK):(sortF l).Perm l:=List.mergeSort_perm l _
theorem X6{l ys:List FK}(hp:ys.Perm l)(hs:ys.Pairwise (fun a b=>fltB a b=true)):ys=sortF l:=
 List.Perm.eq_of_pairwise (le:=fun a b=>fleB a b=true) (fun a b _ _ h1 h2=>lG h1 h2) (hs.imp fun h=>fle_of.mpr (.inr h)) (iR l) (hp.trans (aF l).symm)
theorem tL{K:PySem.W.Frag}{ρ:List Addr}{H:Hp}:∀{x:Key} {v:V},At K ρ H (keyV x) v→v=kV x
 | .inl _,_,h=>h
 | .inr _,_,h=>h
theorem QF{K:PySem.W.Frag}{ρ:List Addr}{H:Hp}{k:FK}{v:V}(h:At K ρ H (fD k) v):∃b,v=.ref b∧FlowH K H k b:=by
 obtain⟨b,vs,rfl,hf,v1,r1,rfl,h1,v2,r2,rfl,h2,h3⟩:=h
 obtain⟨c,us,rfl,hg,u1,s1,rfl,g1,u2,s2,rfl,g2,g3⟩:=h2
 cases (show v1=.str k.1 from h1)
 cases (show r2=[] from h3)
 cases (show u1=.str k.2.1 from g1)
 cases (show s2=[] from g3)
 rw[tL g2]at hg
 exact⟨b,rfl,c,hf.sq,hg.sq⟩
theorem lK:∀{y:D} {k:FK},fkD y=some k→y=fD k:=by
 intro y k h
 unfold fkD at h
 split at h
 ·rename_i a b x
  obtain⟨q,e,rfl⟩:=Option.map_eq_some_iff.mp h
  cases x with
  | int i=>cases e;rfl
  | str z=>cases e;rfl
  | _=>cases e
 ·cases h
section
variable{C:String→List D→Mem→Option (D×Mem)}{X:Cx}{a b:Expr}{pa pb:Ex}{W:Nat}
theorem pD{pos:Pos}:PE X (.Dict [] [] pos) (tD C X.K .fdic):=pe_fnew.imp fun σ H Q hq0=>by
 obtain⟨σd,m,ρ,d,m',S,M,e,q⟩:=hq0
 cases e
 intro p hp
 refine q _ _ (ρ++[p]) (VD M hp) (M.push hp ⟨[],CV,rfl,by simp⟩) ⟨p,?_,rfl⟩
 rw[←M.len];simp
theorem gQ{xs:List (FK×Addr)}{ks:List FK}{k:FK}{p:Addr}(h:xs.map (·.1)=ks):(addX xs k p).map (·.1)=addF ks k:=by
 subst h
 unfold addX addF
 rw[List.any_map,show xs.any ((fun x:FK=>decide (x=k))∘fun x=>x.1)=xs.any (fun x=>decide (x.1=k)) from rfl]
 by_cases q:xs.any (fun x=>decide (x.1=k))=true
 ·rw[if_pos q,if_pos q]
 ·rw[if_neg q,if_neg q];simp
theorem o7{pos pos' p1:Pos}{j:Nat}(hu:X.A.units+11<cLine)(ha:PE X a (tD C X.K pa))(hb:PE X b (tD C X.K pb)):PS X (.Assign [.Subscript a b pos'] (.Constant (.bool true) j p1) pos) (tDS C W X.K (.fput pa pb)):=
 (pO hu ha hb).imp fun E σ H hq0=>by
 obtain⟨σd,m,ρ,o,m',S,M,e,q⟩:=hq0
 obtain⟨⟨x,m1⟩,e1,e⟩:=Option.bind_eq_some_iff.mp e
 obtain⟨⟨y,m2⟩,e2,e⟩:=Option.bind_eq_some_iff.mp e
 refine⟨σd,m,ρ,x,m1,S,M,e1,fun u H1 ρ1 g1 M1 A1=>⟨σd,m1,ρ1,y,m2,S.mono M g1,M1,e2,fun w H2 ρ2 g2 M2 A2=>?_⟩⟩
 have A1':=A1.mono M1 g2
 have S2:=(S.mono M g1).mono M1 g2
 cases x with
 | mref i=>
  obtain⟨p,hi,rfl⟩:=A1'
  have e:(match m2[i]?,fkD y with
   | some (.fd ks),some k=>if ks.length<10000 then some (Out.nx σd,m2.set i (.fd (addF ks k))) else none
   | _,_=>none)=some (o,m'):=e
  split at e
  ·rename_i ks k hm hk
   split at e
   ·rename_i hz
    cases e
    obtain⟨xs,hp,hks,hx⟩:=M2.at' i p _ hi hm
    have hy:=lK hk
    subst hy
    obtain⟨c,rfl,hfl⟩:=QF A2
    have hz0:FzSub H2 (upd H2 p (.dF (addX xs k c))):=fun a' o' u' z'=>by
     rw[CJ]
     ·exact z'
     ·rintro rfl;rw[hp]at z';cases z'
    have hxl:xs.length=ks.length:=by rw[←hks,List.length_map]
    obtain⟨M4,g4⟩:=M2.write (o:=.dF (addX xs k c)) (q:=.fd (addF ks k)) hi ⟨_,CV,gQ hks,fun z hz=>by
     unfold addX at hz
     split at hz
     ·exact(hx z hz).mono' hz0 (.refl _)
     ·rcases List.mem_append.mp hz with hz | hz
      ·exact(hx z hz).mono' hz0 (.refl _)
      ·rw[List.mem_singleton.mp hz]
       refine A2.clean (ρ':=ρ2.take i) hz0 ?_
       rcases k with ⟨k1,k2,k3 | k3⟩<;>rfl⟩
    exact⟨p,c,k,xs,rfl,rfl,hp,hfl,fun z hz=>by
     obtain⟨b',eb,hb'⟩:=QF (hx z hz)
     cases eb
     exact hb',Nat.lt_of_lt_of_le (by lia:xs.length<100000) (G4 (Nat.le_refl _)),q _ ρ2 (g1.trans (g2.trans g4)) M4 σ (S2.mono M2 g4)⟩
   ·cases e
  ·cases e
 | _=>cases e
theorem aL{mu:Bool}{p1 q1:Pos}(hu:X.A.units+20<cLine)(hc:X.calm=true)(hg:Gl X "sorted")(hm:X.mg "sorted" = none)(ha:PE X a (tD C X.K pa))(he:starEach [a] X.env=[(false,eval a X.env)]:=by rfl):PE X (.Call (.Name "sorted" p1) [a] [] q1) (tD C X.K (.b1 (.sortedF mu) pa)):=
 S8 (WD hc hu) (by
  intro ρ m m' H dx d x Q M ax e q
  cases dx with
  | mref i=>
   obtain⟨p,hi,rfl⟩:=ax
   have e:(match m[i]? with
    | some (.fd ks)=>if ks.length<64∧ks.all okFK=true then some (mkL mu ((sortF ks).map fD) m) else none
    | _=>none)=some (d,m'):=e
   split at e
   ·rename_i ks hmi
    split at e
    ·rename_i hz
     obtain⟨xs,hp,hks,hx⟩:=M.at' i p _ hi hmi
     have hxl:xs.length=ks.length:=by rw[←hks,List.length_map]
     refine⟨p,xs,rfl,hp,fun z hz=>?_,by lia,fun y hy z hz'=>?_,fun l ys hl hpm hpw=>?_⟩
     ·obtain⟨b',eb,hb'⟩:=QF (hx z hz)
      cases eb
      exact hb'
     ·have ok:=List.all_eq_true.mp hz.2
      have h1:=ok y.1 (by rw[←hks];exact List.mem_map_of_mem hy)
      have h2:=ok z.1 (by rw[←hks];exact List.mem_map_of_mem hz')
      by_cases q:y.1.2.1=z.1.2.1
      ·refine .inl ?_
       unfold okFK at h1 h2
       rw[q]at h1
       cases hy2:y.1.2.2<;>cases hz2:z.1.2.2<;>simp only[hy2,hz2]at h1 h2<;>first | rfl | (exfalso;simp_all)
      ·exact .inr q
     ·have hys:ys.map (·.1)=sortF ks:=X6 (by rw[←hks];exact hpm.map _) (by rw[List.pairwise_map];exact hpw)
      have q':Beh X.K ρ H (mkL mu ((sortF ks).map fD) m).1 (mkL mu ((sortF ks).map fD) m).2 Q:=by rw[Option.some.inj e];exact q
      refine q'.lst M ?_ hl
      rw[←hys,List.map_map]
      have:∀l:List (FK×Addr),(∀z∈l,z∈xs)→Ats X.K ρ H (l.map (fD∘(·.1))) (l.map fun x=>V.ref x.2):=fun l=>by
       induction l with
       | nil=>exact fun _=>rfl
       | cons z r ih=>exact fun hl=>⟨_,_,rfl,(hx z (hl z List.mem_cons_self)).mono' (fun _ _ _ h=>h) (RSub.take ρ i),ih fun y hy=>hl y (List.mem_cons_of_mem _ hy)⟩
      exact this ys fun z hz=>hpm.mem_iff.mp hz
    ·cases e
   ·cases e
  | _=>cases e) PyProof.Rows.boot_sorted hg hm ha (by decide) (by decide) he
end
end WL
end
section
namespace PySem
section
variable{prog:Program}{w:World}{A:Around}{E:Value→Shared→Prop}{s:Shared}{xs:Array Value}
end
end PySem
namespace L2
open PySem PySem.Spec PyProof.Rows
section
variable{X:Cx}
end
end L2
end
section
namespace WL
open PySem PySem.Spec PyProof.Rows L2
section
variable{C:String→List D→Mem→Option (D×Mem)}{X:Cx}{a b:Expr}{pa pb:Ex}{pos p:Pos}
end
end WL
end
section
namespace PySem.SetTable
noncomputable def lps(mask:Nat):Nat→Nat×Nat→Nat×Nat
 | 0,s=>s
 | n+1,s=>lps mask n (leap mask s.1 s.2)
theorem V8(mask:Nat):∀(a b:Nat) (s:Nat×Nat),lps mask (a+b) s=lps mask b (lps mask a s)
 | 0,b,s=>by rw[Nat.zero_add];rfl
 | a+1,b,s=>by rw[Nat.add_right_comm];exact V8 mask a b _
theorem YJ(mask:Nat):∀(n:Nat) (s:Nat×Nat),(lps mask n s).2=s.2 / 32 ^ n
 | 0,s=>by rw[Nat.pow_zero,Nat.div_one];rfl
 | n+1,s=>by
  show (lps mask n (leap mask s.1 s.2)).2=_
  rw[YJ mask n]
  show s.2 / 32 / 32 ^ n=_
  rw[Nat.div_div_eq_div_mul,Nat.pow_succ,Nat.mul_comm]
theorem tK(h:Int):bits h<2 ^ 64:=by
 unfold bits
 have h1:=Int.emod_nonneg h (show (2 ^ 64:Int)≠0 by decide)
 have h2:=Int.emod_lt_of_pos h (show (0:Int)<2 ^ 64 by decide)
 lia
theorem kE(mask:Nat)(h:Int)(i:Nat):(lps mask 13 (i,bits h)).2=0:=by
 rw[YJ]
 exact Nat.div_eq_of_lt (Nat.lt_trans (tK h) (by decide))
noncomputable def orb(mask:Nat):Nat→Nat
 | 0=>0
 | n+1=>(orb mask n*5+1) % (mask+1)
theorem cL(mask:Nat):∀(n a:Nat),lps mask n (orb mask a,0)=(orb mask (a+n),0)
 | 0,a=>rfl
 | n+1,a=>by
  show lps mask n (leap mask (orb mask a) 0)=_
  rw[show leap mask (orb mask a) 0=(orb mask (a+1),0) by simp[leap,orb],cL mask n (a+1),Nat.add_right_comm,Nat.add_assoc]
def Full(mask:Nat):Prop:=∀j,j≤mask→∀a,∃n,n≤mask∧orb mask (a+n)=j
theorem VF{mask:Nat}(h0:orb mask (mask+1)=0)(h:∀j,j<mask+1→∃n,n<mask+1∧orb mask n=j):Full mask:=by
 have per:∀a,orb mask (a+(mask+1))=orb mask a:=fun a=>by
  induction a with
  | zero=>rw[Nat.zero_add,h0];rfl
  | succ a ih=>rw[Nat.add_right_comm];show (orb mask (a+(mask+1))*5+1) % (mask+1)=_;rw[ih];rfl
 have perm:∀k a,orb mask (a+k*(mask+1))=orb mask a:=fun k=>by
  induction k with
  | zero=>intro a;rw[Nat.zero_mul,Nat.add_zero]
  | succ k ih=>intro a;rw[Nat.succ_mul,←Nat.add_assoc,per,ih]
 have red:∀a,orb mask a=orb mask (a % (mask+1)):=fun a=>by
  have:=perm (a / (mask+1)) (a % (mask+1))
  rw[Nat.mul_comm,Nat.mod_add_div]at this
  exact this
 intro j hj a
 obtain⟨b,hb,e⟩:=h j (Nat.lt_succ_of_le hj)
 have ha:a % (mask+1)<mask+1:=Nat.mod_lt a (Nat.succ_pos mask)
 refine⟨(b+(mask+1)-a % (mask+1)) % (mask+1),Nat.le_of_lt_succ (Nat.mod_lt _ (Nat.succ_pos _)),?_⟩
 have hs:b+(mask+1)-a % (mask+1)+a % (mask+1)=b+(mask+1):=Nat.sub_add_cancel (Nat.le_trans (Nat.le_of_lt ha) (Nat.le_add_left _ _))
 have h2:(a+(b+(mask+1)-a % (mask+1)) % (mask+1)) % (mask+1)=b % (mask+1):=by
  rw[Nat.add_mod_mod,Nat.add_comm,←Nat.add_mod_mod,hs,Nat.add_mod_right]
 rw[red,h2,←red,e]
theorem full_7:Full 7:=VF (by decide) (by decide)
theorem full_31:Full 31:=VF (by decide) (by decide)
theorem full_127:Full 127:=VF (by decide +kernel) (by decide +kernel)
theorem meets{mask:Nat}(F:Full mask)(h:Int)(i j:Nat)(hj:j≤mask):∃n,n≤13+mask∧(lps mask n (i,bits h)).1=j:=by
 have hp:=kE mask h i
 have hi:(lps mask 13 (i,bits h)).1≤mask:=by
  rw[show (13:Nat)=12+1 from rfl,V8]
  exact Nat.le_of_lt_succ (Nat.mod_lt _ (Nat.succ_pos _))
 obtain⟨a,_,ea⟩:=F _ hi 0
 rw[Nat.zero_add]at ea
 obtain⟨n,hn,en⟩:=F j hj a
 refine⟨13+n,Nat.add_le_add_left hn _,?_⟩
 rw[V8,show lps mask 13 (i,bits h)=(orb mask a,0) from Prod.ext ea.symm hp,cL]
 exact en
end PySem.SetTable
end
section
namespace PySem.SetTable
section
variable{t:SetTable}
noncomputable def adv(t:SetTable):Nat→Probe→Probe
 | 0,p=>p
 | n+1,p=>adv t n (t.advance p)
theorem NP(t:SetTable):∀(a b:Nat) (p:Probe),adv t (a+b) p=adv t b (adv t a p)
 | 0,b,p=>by rw[Nat.zero_add];rfl
 | a+1,b,p=>by rw[Nat.add_right_comm];exact NP t a b _
noncomputable def grp(t:SetTable)(s:Nat×Nat)(d:Option Nat):Probe:={ j:=s.1,more:=runEnd t.mask s.1-s.1,i:=s.1,perturb:=s.2,dummy:=d }
theorem uV(mask i:Nat):runEnd mask i-i≤9:=by
 unfold runEnd
 split<;>lia
theorem WX:∀(m:Nat) (p:Probe),p.more=m→adv t (m+1) p=grp t (leap t.mask p.i p.perturb) p.dummy
 | 0,p,h=>by
  show t.advance p=_
  unfold advance
  rw[if_neg (by lia)]
  rfl
 | m+1,p,h=>by
  show adv t (m+1) (t.advance p)=_
  have e:t.advance p={ p with j:=p.j+1,more:=p.more-1 }:=by
   unfold advance
   rw[if_pos (by lia)]
  rw[e,WX m _ (by show p.more-1=m;lia)]
theorem dY:∀(n:Nat) (s:Nat×Nat) (d:Option Nat),∃k,k≤10*n∧adv t k (grp t s d)=grp t (lps t.mask n s) d
 | 0,s,d=>⟨0,Nat.le_refl _,rfl⟩
 | n+1,s,d=>by
  obtain⟨k,hk,e⟩:=dY n (leap t.mask s.1 s.2) d
  have h9:=uV t.mask s.1
  refine⟨(runEnd t.mask s.1-s.1)+1+k,by lia,?_⟩
  rw[NP,WX (runEnd t.mask s.1-s.1) (grp t s d) rfl]
  exact e
end
end PySem.SetTable
end
section
namespace PySem.SetTable
theorem V3(mask i:Nat):i≤runEnd mask i:=by
 unfold runEnd
 split<;>lia
theorem T4{mask:Nat}{owner:Array (Option Nat)}:∀(n fuel:Nat) (s:Nat×Nat),n<fuel→(owner.getD (lps mask n s).1 (some 0)).isNone=true→∃j,layClean.free mask owner fuel s.1 s.2=some j∧(owner.getD j (some 0)).isNone=true
 | n,0,s,h,_=>absurd h (Nat.not_lt_zero _)
 | n,fuel+1,s,h,he=>by
  unfold layClean.free
  cases hf:(List.range (runEnd mask s.1+1-s.1)).find? fun k=>(owner.getD (s.1+k) (some 0)).isNone with
  | some k=>exact⟨s.1+k,rfl,List.find?_some (p:=fun k=>(owner.getD (s.1+k) (some 0)).isNone) hf⟩
  | none=>
   dsimp only
   cases n with
   | zero=>
    have h0:=List.find?_eq_none.mp hf 0 (List.mem_range.mpr (by have:=V3 mask s.1;lia))
    rw[Nat.add_zero]at h0
    exact absurd he h0
   | succ n=>exact T4 n fuel (leap mask s.1 s.2) (by lia) he
theorem rM{mask:Nat}(F:Full mask){owner:Array (Option Nat)}{h:Int}{e:Nat}(hle:e≤mask)(he:(owner.getD e (some 0)).isNone=true):∃j,layClean.free mask owner (turns mask) (bits h % (mask+1)) (bits h)=some j∧(owner.getD j (some 0)).isNone=true:=by
 obtain⟨n,hn,en⟩:=meets F h (bits h % (mask+1)) e hle
 exact T4 n _ (bits h % (mask+1),bits h) (by unfold turns;lia) (by rw[en];exact he)
end PySem.SetTable
end
section
namespace PySem.SetTable
theorem XD{α:Type}{k:α}:∀{L:List (Option α)} {j:Nat},L[j]?=some none→((L.set j (some k)).filterMap id).Perm (k::L.filterMap id)
 | [],j,h=>by simp at h
 | a::r,0,h=>by
  have:a=none:=by simpa using h
  subst this
  exact .refl _
 | a::r,j+1,h=>by
  have ih:=XD (k:=k) (L:=r) (j:=j) (by simpa using h)
  cases a with
  | none=>exact ih
  | some x=>exact(ih.cons x).trans (List.Perm.swap _ _ _)
theorem none_of{α:Type}:∀{L:List (Option α)},(L.filterMap id).length<L.length→∃j:Nat,L[j]?=some none
 | [],h=>by simp at h
 | none::r,_=>⟨0,rfl⟩
 | some x::r,h=>by
  obtain⟨j,hj⟩:=none_of (L:=r) (by simpa using h)
  exact⟨j+1,hj⟩
structure Lay(mask k:Nat)(owner:Array (Option Nat)):Prop where
 sz:owner.size=mask+1
 pm:(owner.toList.filterMap id).Perm (List.range k)
theorem Lay.step{mask k:Nat}(F:Full mask){owner:Array (Option Nat)}(L:Lay mask k owner)(hk:k≤mask)(h:Int):∃j,layClean.free mask owner (turns mask) (bits h % (mask+1)) (bits h)=some j∧Lay mask (k+1) (owner.setIfInBounds j (some k)):=by
 have hlen:(owner.toList.filterMap id).length=k:=by rw[L.pm.length_eq,List.length_range]
 obtain⟨e,he⟩:=none_of (L:=owner.toList) (by rw[hlen,Array.length_toList,L.sz];lia)
 have hes:e<owner.size:=by
  have:=List.getElem?_eq_some_iff.mp he
  simpa using this.1
 have heN:(owner.getD e (some 0)).isNone=true:=by
  rw[Array.getD_eq_getD_getElem?,←Array.getElem?_toList,he];rfl
 obtain⟨j,hj,hjN⟩:=rM F (h:=h) (owner:=owner) (e:=e) (by rw[L.sz]at hes;lia) heN
 refine⟨j,hj,?_,?_⟩
 ·rw[Array.size_setIfInBounds];exact L.sz
 ·have hjn:owner.toList[j]?=some none:=by
   rw[Array.getElem?_toList]
   rw[Array.getD_eq_getD_getElem?]at hjN
   cases hq:owner[j]? with
   | none=>rw[hq]at hjN;cases hjN
   | some v=>
    rw[hq]at hjN
    cases v with
    | none=>rfl
    | some x=>cases hjN
  rw[Array.toList_setIfInBounds]
  refine(XD hjn).trans ?_
  refine(L.pm.cons k).trans ?_
  rw[List.range_succ]
  exact(List.perm_append_comm (l₁:=[k]) (l₂:=List.range k))
theorem Lay.start(mask:Nat):Lay mask 0 (Array.replicate (mask+1) none):=by
 refine⟨Array.size_replicate,?_⟩
 rw[Array.toList_replicate]
 have:∀n:Nat,(List.replicate n (none:Option Nat)).filterMap id=[]:=fun n=>by
  induction n with
  | zero=>rfl
  | succ n ih=>exact ih
 rw[this];exact .refl _
end PySem.SetTable
end
section
namespace PySem.SetTable
theorem nA(owner:Array (Option Nat)):owner.toList=(List.range owner.size).map fun j=>owner.getD j none:=by
 apply List.ext_getElem?
 intro i
 rw[Array.getElem?_toList,List.getElem?_map]
 by_cases h:i<owner.size
 ·rw[List.getElem?_range h,Array.getElem?_eq_getElem h]
  show _=some (owner.getD i none)
  rw[Array.getD_eq_getD_getElem?,Array.getElem?_eq_getElem h];rfl
 ·rw[Array.getElem?_eq_none (by lia),List.getElem?_eq_none (by rw[List.length_range];lia)];rfl
end PySem.SetTable
end
section
namespace PySem.SetTable
def Rise(xs:Array Nat):Prop:=∀a b,(hab:a<b)→(hb:b<xs.size)→xs[a]'(Nat.lt_trans hab hb)<xs[b]
structure Cut(xs:Array Nat)(j r:Nat):Prop where
 le:r≤xs.size
 lo:∀k,(hk:k<xs.size)→k<r→xs[k]<j
 hi:∀k,(hk:k<xs.size)→r≤k→j≤xs[k]
theorem aX{xs:Array Nat}(R:Rise xs){j:Nat}:∀(fuel lo hi:Nat),lo≤hi→hi≤xs.size→hi-lo≤fuel→(∀k,(hk:k<xs.size)→k<lo→xs[k]<j)→(∀k,(hk:k<xs.size)→hi≤k→j≤xs[k])→Cut xs j (below.go xs j fuel lo hi)
 | 0,lo,hi,h1,h2,h3,h4,h5=>by
  have:lo=hi:=by lia
  subst this
  exact⟨h2,h4,h5⟩
 | fuel+1,lo,hi,h1,h2,h3,h4,h5=>by
  unfold below.go
  by_cases hl:lo<hi
  ·rw[if_pos hl]
   have hm:(lo+hi) / 2<xs.size:=by lia
   have e:xs.getD ((lo+hi) / 2) j=xs[(lo+hi) / 2]:=by rw[Array.getD_eq_getD_getElem?,Array.getElem?_eq_getElem hm];rfl
   dsimp only
   rw[e]
   by_cases hx:xs[(lo+hi) / 2]<j
   ·rw[if_pos hx]
    refine aX R fuel _ _ (by lia) h2 (by lia) (fun k hk hk'=>?_) h5
    by_cases hkm:k=(lo+hi) / 2
    ·subst hkm;exact hx
    ·exact Nat.lt_trans (R k _ (by lia) hm) hx
   ·rw[if_neg hx]
    refine aX R fuel _ _ (by lia) (by lia) (by lia) h4 (fun k hk hk'=>?_)
    by_cases hkm:k=(lo+hi) / 2
    ·subst hkm;lia
    ·have:=R _ k (show (lo+hi) / 2<k by lia) hk
     lia
  ·rw[if_neg hl]
   have:lo=hi:=by lia
   subst this
   exact⟨h2,h4,h5⟩
theorem PB{xs:Array Nat}(R:Rise xs)(j:Nat):Cut xs j (below xs j):=
 aX R _ _ _ (Nat.zero_le _) (Nat.le_refl _) (by lia) (fun k _ h=>absurd h (Nat.not_lt_zero _)) (fun k hk h=>absurd hk (by lia))
theorem VB{xs:Array Nat}(R:Rise xs)(j:Nat):xs[below xs j]?=some j↔j∈xs.toList:=by
 have C:=PB R j
 constructor
 ·intro h
  rw[←Array.getElem?_toList]at h
  exact List.mem_of_getElem? h
 ·intro h
  obtain⟨k,hk,e⟩:=List.getElem_of_mem h
  have hk':k<xs.size:=by simpa using hk
  have e':xs[k]=j:=by simpa using e
  have h1:below xs j≤k:=Nat.le_of_not_lt fun q=>by have:=C.lo k hk' q;lia
  have h2:k≤below xs j:=Nat.le_of_not_lt fun q=>by
   have a:=C.hi (below xs j) (by lia) (Nat.le_refl _)
   have b:=R _ k q hk'
   lia
  have:below xs j=k:=Nat.le_antisymm h1 h2
  rw[this,Array.getElem?_eq_getElem hk',e']
theorem aG{t:SetTable}(R:Rise t.place)(hd:t.dummies=#[])(j:Nat):t.slot j=.empty↔j∉t.place.toList:=by
 have hh:has t.dummies j=false:=by rw[hd];rfl
 unfold slot
 dsimp only
 by_cases h:t.place[below t.place j]?=some j
 ·rw[if_pos (by rw[h];exact beq_self_eq_true _)]
  exact⟨fun q=>(by cases q),fun q=>absurd ((VB R j).mp h) q⟩
 ·rw[if_neg (by simpa using h),hh]
  exact⟨fun _ q=>h ((VB R j).mpr q),fun _=>rfl⟩
end PySem.SetTable
end
section
namespace PySem.SetTable
theorem insert_list{α:Type}(xs:Array α)(p:Nat)(x:α):(insertAt xs p x).toList=xs.toList.take p++x::xs.toList.drop p:=by
 unfold insertAt
 rw[Array.toList_append,Array.toList_push,Array.toList_extract,Array.toList_extract]
 simp[List.extract_eq_take_drop]
 exact List.take_of_length_le (by simp)
theorem JZ(xs:Array Nat):Rise xs↔xs.toList.Pairwise (·<·):=by
 rw[List.pairwise_iff_getElem]
 constructor
 ·intro R i j hi hj hij
  have:=R i j hij (by simpa using hj)
  simpa using this
 ·intro P a b hab hb
  have:=P a b (by simpa using Nat.lt_trans hab hb) (by simpa using hb) hab
  simpa using this
theorem j6{t:SetTable}(R:Rise t.place){j:Nat}(hj:j∉t.place.toList):Rise (t.put j).1.place∧(t.put j).1.place.toList.Perm (j::t.place.toList)∧(t.put j).1.mask=t.mask:=by
 have C:=PB R j
 have e:(t.put j).1.place.toList=t.place.toList.take (below t.place j)++j::t.place.toList.drop (below t.place j):=insert_list _ _ _
 refine⟨?_,?_,rfl⟩
 ·rw[JZ,e]
  have P:=(JZ _).mp R
  have P2:=P
  rw[←List.take_append_drop (below t.place j) t.place.toList,List.pairwise_append]at P2
  obtain⟨p1,p2,p3⟩:=P2
  have lo:∀x∈t.place.toList.take (below t.place j),x<j:=fun x hx=>by
   obtain⟨k,hk,rfl⟩:=List.getElem_of_mem hx
   rw[List.length_take]at hk
   have:=C.lo k (by rw[Array.length_toList]at hk;lia) (by lia)
   simpa using this
  have hi:∀x∈t.place.toList.drop (below t.place j),j<x:=fun x hx=>by
   have hm:=List.mem_of_mem_drop hx
   obtain⟨k,hk,rfl⟩:=List.getElem_of_mem hx
   rw[List.length_drop]at hk
   have:=C.hi (below t.place j+k) (by rw[Array.length_toList]at hk;lia) (by lia)
   have h2:j≤(t.place.toList.drop (below t.place j))[k]:=by simpa using this
   have h3:j≠(t.place.toList.drop (below t.place j))[k]:=fun q=>hj (by rw[q];exact hm)
   lia
  rw[List.pairwise_append]
  refine⟨p1,List.pairwise_cons.mpr ⟨hi,p2⟩,fun a ha b hb=>?_⟩
  rcases List.mem_cons.mp hb with rfl | hb
  ·exact lo a ha
  ·exact p3 a ha b hb
 ·rw[e]
  refine List.perm_middle.trans ?_
  rw[List.take_append_drop]
end PySem.SetTable
end
section
namespace PySem.SetTable
noncomputable def way(t:SetTable)(h:Int)(k:Nat):Nat:=(adv t k (t.probeStart h)).j
theorem ZL{t t':SetTable}(e:t.mask=t'.mask):∀(k:Nat) (p:Probe),adv t k p=adv t' k p
 | 0,p=>rfl
 | k+1,p=>by
  show adv t k (t.advance p)=adv t' k (t'.advance p)
  have:t.advance p=t'.advance p:=by unfold advance;rw[e]
  rw[this];exact ZL e k _
theorem way_mask{t t':SetTable}(e:t.mask=t'.mask)(h:Int)(k:Nat):way t h k=way t' h k:=by
 unfold way
 rw[show t.probeStart h=t'.probeStart h by unfold probeStart;rw[e],ZL e]
theorem U4{t:SetTable}:∀(k:Nat) (p:Probe),(adv t k p).dummy=p.dummy
 | 0,p=>rfl
 | k+1,p=>by
  show (adv t k (t.advance p)).dummy=_
  rw[U4 k]
  unfold advance
  split<;>rfl
structure Good(t:SetTable)(hs:List Int):Prop where
 R:Rise t.place
 d:t.dummies=#[]
 F:Full t.mask
 le:∀j∈t.place.toList,j≤t.mask
 len:t.place.size=hs.length
 fill:hs.length≤t.mask
 w:∀(i j:Nat) (h:Int),t.place.toList[i]?=some j→hs[i]?=some h→∃k,way t h k=j∧∀k',k'<k→way t h k'∈t.place.toList
section
variable{t:SetTable}{hs:List Int}
theorem Good.free(G:Good t hs):∃e,e≤t.mask∧e∉t.place.toList:=by
 refine Classical.byContradiction fun q=>?_
 have h1:∀e∈List.range (t.mask+1),e∈t.place.toList:=fun e he=>Classical.byContradiction fun z=>q ⟨e,Nat.le_of_lt_succ (List.mem_range.mp he),z⟩
 have nd:t.place.toList.Nodup:=((JZ _).mp G.R).imp fun q=>Nat.ne_of_lt q
 have h2:=((List.perm_ext_iff_of_nodup List.nodup_range nd).mpr fun e=>⟨h1 e,fun q=>List.mem_range.mpr (Nat.lt_succ_of_le (G.le e q))⟩).length_eq
 rw[List.length_range,Array.length_toList,G.len]at h2
 have:=G.fill
 lia
theorem Good.ends(G:Good t hs)(h:Int):∃N,N≤10*(13+t.mask)∧way t h N∉t.place.toList:=by
 obtain⟨e,he,hn⟩:=G.free
 obtain⟨n,hn',en⟩:=meets G.F h (bits h % (t.mask+1)) e he
 obtain⟨k,hk,ek⟩:=dY (t:=t) n (bits h % (t.mask+1),bits h) none
 refine⟨k,by lia,?_⟩
 unfold way
 rw[show t.probeStart h=grp t (bits h % (t.mask+1),bits h) none from rfl,ek]
 show (lps t.mask n (bits h % (t.mask+1),bits h)).1∉_
 rw[en];exact hn
theorem Good.slot(G:Good t hs)(j:Nat):(j∉t.place.toList∧t.slot j=.empty)∨(∃i,t.place.toList[i]?=some j∧t.slot j=.live i):=by
 by_cases h:j∈t.place.toList
 ·right
  have hb:=(VB G.R j).mpr h
  refine⟨below t.place j,by rw[Array.getElem?_toList];exact hb,?_⟩
  unfold SetTable.slot
  dsimp only
  rw[if_pos (by rw[hb];exact beq_self_eq_true _)]
 ·exact .inl ⟨h,(aG G.R G.d j).mpr h⟩
theorem Good.go(G:Good t hs){hashAt:Nat→Int}{h:Int}:∀(n fuel m:Nat),n<fuel→way t h (m+n)∉t.place.toList→∃k,m≤k∧k≤m+n∧(∀k',m≤k'→k'<k→∃i,t.place.toList[i]?=some (way t h k')∧hashAt i≠h)∧
  ((way t h k∉t.place.toList∧probe.go t hashAt h fuel (adv t m (t.probeStart h))=some (.empty (way t h k) none))∨
   (∃i,t.place.toList[i]?=some (way t h k)∧t.slot (way t h k)=.live i∧hashAt i=h∧probe.go t hashAt h fuel (adv t m (t.probeStart h))=some (.candidate (way t h k) i (adv t (k+1) (t.probeStart h)))))
 | n,0,m,hn,_=>absurd hn (Nat.not_lt_zero _)
 | n,fuel+1,m,hn,he=>by
  have hnext:t.advance (adv t m (t.probeStart h))=adv t (m+1) (t.probeStart h):=by rw[NP];rfl
  have hd:(adv t m (t.probeStart h)).dummy=none:=U4 _ _
  rcases G.slot (way t h m) with ⟨h1,h2⟩ | ⟨i,h1,h2⟩
  ·refine⟨m,Nat.le_refl _,Nat.le_add_right _ _,fun k' a b=>absurd a (by lia),.inl ⟨h1,?_⟩⟩
   unfold probe.go
   rw[show t.slot (adv t m (t.probeStart h)).j=.empty from h2,hd]
   rfl
  ·by_cases hh:hashAt i=h
   ·refine⟨m,Nat.le_refl _,Nat.le_add_right _ _,fun k' a b=>absurd a (by lia),.inr ⟨i,h1,h2,hh,?_⟩⟩
    unfold probe.go
    rw[show t.slot (adv t m (t.probeStart h)).j=.live i from h2]
    dsimp only
    rw[if_pos (by rw[hh];exact beq_self_eq_true _),hnext]
    rfl
   ·cases n with
    | zero=>exact absurd (List.mem_of_getElem? h1) he
    | succ n=>
     obtain⟨k,a,b,c,d⟩:=Good.go G n fuel (m+1) (by lia) (by rw[show m+1+n=m+(n+1) by lia];exact he)
     refine⟨k,by lia,by lia,fun k' q1 q2=>?_,?_⟩
     ·by_cases e:k'=m
      ·subst e;exact⟨i,h1,hh⟩
      ·exact c k' (by lia) q2
     ·have e:probe.go t hashAt h (fuel+1) (adv t m (t.probeStart h))=probe.go t hashAt h fuel (adv t (m+1) (t.probeStart h)):=by
       conv=>lhs;unfold probe.go
       rw[show t.slot (adv t m (t.probeStart h)).j=.live i from h2]
       dsimp only
       rw[if_neg (by simpa using hh),hnext]
      rw[e];exact d
theorem Good.probe(G:Good t hs)(hashAt:Nat→Int)(h:Int){m:Nat}(hm:∀k,k<m→way t h k∈t.place.toList):∃k,m≤k∧k≤10*(13+t.mask)∧(∀k',m≤k'→k'<k→∃i,t.place.toList[i]?=some (way t h k')∧hashAt i≠h)∧
  ((way t h k∉t.place.toList∧t.probe hashAt h (adv t m (t.probeStart h))=some (.empty (way t h k) none))∨
   (∃i,t.place.toList[i]?=some (way t h k)∧t.slot (way t h k)=.live i∧hashAt i=h∧t.probe hashAt h (adv t m (t.probeStart h))=some (.candidate (way t h k) i (adv t (k+1) (t.probeStart h))))):=by
 obtain⟨N,hN,he⟩:=G.ends h
 have hmN:m≤N:=Nat.le_of_not_lt fun q=>he (hm N q)
 obtain⟨k,a,b,c,d⟩:=G.go (hashAt:=hashAt) (h:=h) (N-m) (10*turns t.mask) m (by unfold turns;lia) (by rw[Nat.add_sub_cancel' hmN];exact he)
 exact⟨k,a,by lia,c,d⟩
theorem Good.met(G:Good t hs){i j k:Nat}{h:Int}(hj:t.place.toList[i]?=some j)(hh:hs[i]?=some h)(hk:way t h k∉t.place.toList):∃k',k'<k∧way t h k'=j:=by
 obtain⟨k0,e,hb⟩:=G.w i j h hj hh
 refine⟨k0,Nat.lt_of_not_le fun q=>?_,e⟩
 by_cases z:k=k0
 ·subst z;rw[e]at hk;exact hk (List.mem_of_getElem? hj)
 ·exact hk (hb k (by lia))
theorem Good.uniq(G:Good t hs){i i' j:Nat}(h1:t.place.toList[i]?=some j)(h2:t.place.toList[i']?=some j):i=i':=by
 have P:=List.pairwise_iff_getElem.mp ((JZ _).mp G.R)
 obtain⟨a1,b1⟩:=List.getElem?_eq_some_iff.mp h1
 obtain⟨a2,b2⟩:=List.getElem?_eq_some_iff.mp h2
 rcases Nat.lt_trichotomy i i' with z | z | z
 ·have:=P i i' a1 a2 z;lia
 ·exact z
 ·have:=P i' i a2 a1 z;lia
theorem Good.put(G:Good t hs){h:Int}{k:Nat}(hk:way t h k∉t.place.toList)(hb:∀k',k'<k→way t h k'∈t.place.toList)(hle:way t h k≤t.mask)(hf:hs.length+1≤t.mask):Good (t.put (way t h k)).1 (hs.take (t.put (way t h k)).2++h::hs.drop (t.put (way t h k)).2):=by
 obtain⟨R',P,em⟩:=j6 G.R hk
 have e:(t.put (way t h k)).1.place.toList=t.place.toList.take (below t.place (way t h k))++way t h k::t.place.toList.drop (below t.place (way t h k)):=insert_list _ _ _
 have hp:(t.put (way t h k)).2=below t.place (way t h k):=rfl
 have hpl:below t.place (way t h k)≤t.place.size:=(PB G.R _).le
 have len:=G.len
 refine⟨R',?_,G.F,fun j hj=>?_,?_,?_,fun i j h' hj hh=>?_⟩
 ·show (if has t.dummies _ then _ else t.dummies)=_
  rw[G.d];rfl
 ·rcases List.mem_cons.mp (P.mem_iff.mp hj) with q | q
  ·rw[q];exact hle
  ·exact G.le j q
 ·rw[←Array.length_toList,P.length_eq,List.length_cons,Array.length_toList,hp]
  simp;lia
 ·rw[hp,List.length_append,List.length_cons,List.length_take,List.length_drop]
  show _≤t.mask
  lia
 ·have sub:∀x,x∈t.place.toList→x∈(t.put (way t h k)).1.place.toList:=fun x hx=>P.mem_iff.mpr (List.mem_cons_of_mem _ hx)
  have wm:∀h' k',way (t.put (way t h k)).1 h' k'=way t h' k':=fun h' k'=>way_mask em _ _
  have old:∀i',t.place.toList[i']?=some j→hs[i']?=some h'→∃k_1,way (t.put (way t h k)).1 h' k_1=j∧∀k',k'<k_1→way (t.put (way t h k)).1 h' k'∈(t.put (way t h k)).1.place.toList:=fun i' q1 q2=>by
   obtain⟨k0,a,b⟩:=G.w i' j h' q1 q2
   exact⟨k0,by rw[wm];exact a,fun k' z=>by rw[wm];exact sub _ (b k' z)⟩
  rw[e]at hj
  rw[hp]at hh
  have l1:(t.place.toList.take (below t.place (way t h k))).length=below t.place (way t h k):=by rw[List.length_take,Array.length_toList];lia
  have l2:(hs.take (below t.place (way t h k))).length=below t.place (way t h k):=by rw[List.length_take];lia
  rcases Nat.lt_trichotomy i (below t.place (way t h k)) with z | z | z
  ·rw[List.getElem?_append_left (by lia),List.getElem?_take_of_lt z]at hj hh
   exact old i hj hh
  ·rw[List.getElem?_append_right (by lia)]at hj hh
   rw[l1,z,Nat.sub_self]at hj
   rw[l2,z,Nat.sub_self]at hh
   cases hj
   cases hh
   exact⟨k,wm h k,fun k' q=>by rw[wm];exact sub _ (hb k' q)⟩
  ·rw[List.getElem?_append_right (by lia)]at hj hh
   rw[l1]at hj
   rw[l2]at hh
   obtain⟨c,hc⟩:∃c,i-below t.place (way t h k)=c+1:=⟨i-below t.place (way t h k)-1,by lia⟩
   rw[hc,List.getElem?_cons_succ,List.getElem?_drop]at hj hh
   exact old _ hj hh
end
end PySem.SetTable
end
section
namespace PySem.SetTable
theorem XJ{mask i:Nat}(h:i≤mask):runEnd mask i≤mask:=by
 unfold runEnd
 split<;>lia
theorem nH{t:SetTable}:∀(k:Nat) (p:Probe),p.j+p.more≤t.mask→(adv t k p).j+(adv t k p).more≤t.mask
 | 0,p,h=>h
 | k+1,p,h=>by
  refine nH k (t.advance p) ?_
  unfold advance
  split
  ·show p.j+1+(p.more-1)≤_
   lia
  ·show (leap t.mask p.i p.perturb).1+(runEnd t.mask (leap t.mask p.i p.perturb).1-(leap t.mask p.i p.perturb).1)≤_
   have h1:(leap t.mask p.i p.perturb).1≤t.mask:=Nat.le_of_lt_succ (Nat.mod_lt _ (Nat.succ_pos _))
   have h2:=XJ h1
   have h3:=V3 t.mask (leap t.mask p.i p.perturb).1
   lia
theorem way_le(t:SetTable)(h:Int)(k:Nat):way t h k≤t.mask:=by
 refine Nat.le_trans (Nat.le_add_right _ _) (nH (t:=t) k (t.probeStart h) ?_)
 show bits h % (t.mask+1)+(runEnd t.mask (bits h % (t.mask+1))-bits h % (t.mask+1))≤_
 have h1:bits h % (t.mask+1)≤t.mask:=Nat.le_of_lt_succ (Nat.mod_lt _ (Nat.succ_pos _))
 have h2:=XJ h1
 have h3:=V3 t.mask (bits h % (t.mask+1))
 lia
theorem nJ{t:SetTable}:∀(k:Nat) (p:Probe),k≤p.more→(adv t k p).j=p.j+k
 | 0,p,h=>rfl
 | k+1,p,h=>by
  show (adv t k (t.advance p)).j=_
  have e:t.advance p={ p with j:=p.j+1,more:=p.more-1 }:=by
   unfold advance
   rw[if_pos (by lia)]
  rw[e,nJ k _ (by show k≤p.more-1;lia)]
  show p.j+1+k=_
  lia
noncomputable def occ(owner:Array (Option Nat))(x:Nat):Bool:=(owner.getD x (some 0)).isSome
theorem occ_none{owner:Array (Option Nat)}{x:Nat}:(owner.getD x (some 0)).isNone=!occ owner x:=by
 unfold occ
 cases owner.getD x (some 0)<;>rfl
theorem YS{t:SetTable}{owner:Array (Option Nat)}{j:Nat}{d:Option Nat}:∀(fuel:Nat) (s:Nat×Nat),layClean.free t.mask owner fuel s.1 s.2=some j→∃k,(adv t k (grp t s d)).j=j∧∀k',k'<k→occ owner (adv t k' (grp t s d)).j=true
 | 0,s,h=>by cases h
 | fuel+1,s,h=>by
  unfold layClean.free at h
  have hr:=V3 t.mask s.1
  have inn:∀k,k≤runEnd t.mask s.1-s.1→(adv t k (grp t s d)).j=s.1+k:=fun k hk=>nJ k (grp t s d) hk
  cases hf:(List.range (runEnd t.mask s.1+1-s.1)).find? fun k=>(owner.getD (s.1+k) (some 0)).isNone with
  | some k=>
   rw[hf]at h
   obtain rfl:s.1+k=j:=Option.some.inj h
   obtain⟨h1,h2,h3⟩:=List.find?_range_eq_some.mp hf
   have h2':=List.mem_range.mp h2
   refine⟨k,inn k (by lia),fun k' hk'=>?_⟩
   rw[inn k' (by lia)]
   have:=h3 k' hk'
   rw[occ_none]at this
   simpa using this
  | none=>
   rw[hf]at h
   obtain⟨k,e,hb⟩:=YS (d:=d) fuel (leap t.mask s.1 s.2) h
   have er:=WX (t:=t) (runEnd t.mask s.1-s.1) (grp t s d) rfl
   refine⟨(runEnd t.mask s.1-s.1)+1+k,by rw[NP,er];exact e,fun k' hk'=>?_⟩
   by_cases hq:k'<(runEnd t.mask s.1-s.1)+1
   ·rw[inn k' (by lia)]
    have:=List.find?_eq_none.mp hf k' (List.mem_range.mpr (by lia))
    rw[occ_none]at this
    simpa using this
   ·obtain⟨c,rfl⟩:∃c,k'=(runEnd t.mask s.1-s.1)+1+c:=⟨k'-((runEnd t.mask s.1-s.1)+1),by lia⟩
    rw[NP,er]
    exact hb c (by lia)
def Ways(t:SetTable)(hashes:List Int)(owner:Array (Option Nat)):Prop:=∀(j k:Nat),owner.toList[j]?=some (some k)→∃h,hashes[k]?=some h∧∃n,way t h n=j∧∀n',n'<n→occ owner (way t h n')=true
theorem cH{owner:Array (Option Nat)}{j x k:Nat}(h:occ owner x=true):occ (owner.setIfInBounds j (some k)) x=true:=by
 unfold occ at h ⊢
 rw[Array.getD_eq_getD_getElem?]at h ⊢
 rw[Array.getElem?_setIfInBounds]
 by_cases e:j=x
 ·rw[if_pos e];split<;>rfl
 ·rw[if_neg e];exact h
theorem Ways.step{t:SetTable}{hashes:List Int}{owner:Array (Option Nat)}(W:Ways t hashes owner){h:Int}{j k:Nat}(hk:hashes[k]?=some h)(hf:layClean.free t.mask owner (turns t.mask) (bits h % (t.mask+1)) (bits h)=some j):Ways t hashes (owner.setIfInBounds j (some k)):=by
 intro j' k' e
 rw[Array.getElem?_toList,Array.getElem?_setIfInBounds]at e
 by_cases q:j=j'
 ·rw[if_pos q]at e
  obtain⟨n,a,b⟩:=YS (t:=t) (d:=none) _ (bits h % (t.mask+1),bits h) hf
  split at e
  ·cases e
   exact⟨h,hk,n,by rw[←q];exact a,fun n' z=>cH (b n' z)⟩
  ·cases e
 ·rw[if_neg q,←Array.getElem?_toList]at e
  obtain⟨h',a,n,b,c⟩:=W j' k' e
  exact⟨h',a,n,b,fun n' z=>cH (c n' z)⟩
theorem kO{t:SetTable}(F:Full t.mask)(hashes:Array Int)(hn:hashes.size≤t.mask):∃owner,layClean t.mask hashes=some owner∧Lay t.mask hashes.size owner∧Ways t hashes.toList owner:=by
 have key:∀(l:List Int) (k:Nat) (owner:Array (Option Nat)),Lay t.mask k owner→Ways t hashes.toList owner→(∀i,l[i]?=hashes.toList[k+i]?)→k+l.length≤t.mask→∃o',l.foldl (fun(acc:Option (Array (Option Nat)×Nat)) h=>do
   let (owner,k) ←acc
   let j ←layClean.free t.mask owner (turns t.mask) (bits h % (t.mask+1)) (bits h)
   pure (owner.setIfInBounds j (some k),k+1)) (some (owner,k))=some (o',k+l.length)∧Lay t.mask (k+l.length) o'∧Ways t hashes.toList o':=by
  intro l
  induction l with
  | nil=>exact fun k owner L W _ _=>⟨owner,rfl,L,W⟩
  | cons h r ih=>
   intro k owner L W hl hk
   rw[List.length_cons]at hk
   obtain⟨j,hj,L'⟩:=L.step F (by lia) h
   have W':=W.step (k:=k) (h:=h) (by have:=hl 0;rw[Nat.add_zero]at this;rw[←this];rfl) hj
   obtain⟨o',e,L2,W2⟩:=ih (k+1) _ L' W' (fun i=>by have:=hl (i+1);rw[List.getElem?_cons_succ]at this;rw[this,show k+(i+1)=k+1+i by lia]) (by lia)
   refine⟨o',?_,by rw[List.length_cons,show k+(r.length+1)=k+1+r.length by lia];exact L2,W2⟩
   rw[List.foldl_cons,List.length_cons,show k+(r.length+1)=k+1+r.length by lia,←e]
   congr 1
   show (layClean.free t.mask owner (turns t.mask) (bits h % (t.mask+1)) (bits h)).bind _=_
   rw[hj];rfl
 obtain⟨o',e,L,W⟩:=key hashes.toList 0 _ (Lay.start t.mask) (fun j k z=>by
  rw[Array.toList_replicate,List.getElem?_replicate]at z
  split at z<;>cases z) (fun i=>by rw[Nat.zero_add]) (by rw[Nat.zero_add,Array.length_toList];exact hn)
 refine⟨o',?_,by rw[Nat.zero_add,Array.length_toList]at L;exact L,W⟩
 unfold layClean
 rw[←Array.foldl_toList]
 exact(congrArg (Option.map (·.1)) e)
theorem fm_get{α β:Type}{f:α→Option β}:∀{L:List α},(∀x∈L,(f x).isSome=true)→∀i:Nat,(L.filterMap f)[i]?=L[i]?.bind f
 | [],_,i=>by simp
 | a::r,h,i=>by
  obtain⟨b,hb⟩:=Option.isSome_iff_exists.mp (h a List.mem_cons_self)
  rw[List.filterMap_cons,hb]
  cases i with
  | zero=>exact hb.symm
  | succ i=>exact fm_get (fun x hx=>h x (List.mem_cons_of_mem _ hx)) i
theorem laid_good{mask finger moves:Nat}{led plain:Bool}(F:Full mask)(hashes:Array Int)(hn:hashes.size≤mask):∃t' order,laid mask finger moves led plain hashes=some (t',order)∧t'.mask=mask∧t'.led=led∧t'.plain=plain∧t'.moves=moves∧order.toList.Perm (List.range hashes.size)∧Good t' (order.toList.filterMap (hashes.toList[·]?)):=by
 obtain⟨owner,e,L,W⟩:=kO (t:={ mask,place:=#[],dummies:=#[],finger,led,moves,plain }) F hashes hn
 have e:layClean mask hashes=some owner:=e
 have L:Lay mask hashes.size owner:=L
 have hlive:(((List.range (mask+1)).filterMap fun j=>(owner.getD j none).map (j,·)).map (·.2))=owner.toList.filterMap id:=by
  rw[nA owner,L.sz,List.map_filterMap,List.filterMap_map]
  congr 1
  funext j
  show ((owner.getD j none).map (j,·)).map (·.2)=id (owner.getD j none)
  cases owner.getD j none<;>rfl
 generalize hv:((List.range (mask+1)).filterMap fun j=>(owner.getD j none).map (j,·))=live at hlive
 have hpm:(live.map (·.2)).Perm (List.range hashes.size):=by rw[hlive];exact L.pm
 have hlen:live.length=hashes.size:=by have:=hpm.length_eq;rwa [List.length_map,List.length_range]at this
 have hmem:∀j k,(j,k)∈live→j≤mask∧owner.getD j none=some k:=fun j k hm=>by
  rw[←hv,List.mem_filterMap]at hm
  obtain⟨a,ha,eb⟩:=hm
  obtain⟨c,hc,ec⟩:=Option.map_eq_some_iff.mp eb
  cases ec
  exact⟨Nat.le_of_lt_succ (List.mem_range.mp ha),hc⟩
 have hoc:∀x,x≤mask→occ owner x=true→x∈live.map (·.1):=fun x hx ho=>by
  have hs:x<owner.size:=by rw[L.sz];lia
  unfold occ at ho
  rw[Array.getD_eq_getD_getElem?,Array.getElem?_eq_getElem hs]at ho
  obtain⟨k,hk⟩:=Option.isSome_iff_exists.mp (show owner[x].isSome=true from ho)
  refine List.mem_map.mpr ⟨(x,k),?_,rfl⟩
  rw[←hv,List.mem_filterMap]
  refine⟨x,List.mem_range.mpr (Nat.lt_succ_of_le hx),?_⟩
  rw[Array.getD_eq_getD_getElem?,Array.getElem?_eq_getElem hs]
  show (owner[x]).map _=_
  rw[hk];rfl
 refine⟨_,_,by unfold laid;rw[e];rfl,rfl,rfl,rfl,rfl,by show ((List.map _ _).toArray.toList).Perm _;rw[hv];exact hpm,?_⟩
 rw[hv]
 refine⟨?_,rfl,F,?_,?_,?_,?_⟩
 ·rw[JZ]
  show (live.map (·.1)).Pairwise _
  rw[←hv,List.map_filterMap]
  refine List.Pairwise.filterMap (R:=(·<·)) _ (fun a a' haa b hb b' hb'=>?_) List.pairwise_lt_range
  have one:∀a b,((owner.getD a none).map (a,·)).map (·.1)=some b→b=a:=fun a b h=>by
   cases hc:owner.getD a none with
   | none=>rw[hc]at h;cases h
   | some c=>rw[hc]at h;cases h;rfl
  rw[one a b hb,one a' b' hb']
  exact haa
 ·intro j hj
  obtain⟨⟨a,k⟩,ha,rfl⟩:=List.mem_map.mp (show j∈live.map (·.1) from hj)
  exact(hmem a k ha).1
 ·show (live.map (·.1)).toArray.size=_
  rw[List.size_toArray,List.length_map]
  have:∀{l:List Nat},(∀x∈l,x<hashes.size)→(l.filterMap (hashes.toList[·]?)).length=l.length:=fun {l}=>by
   induction l with
   | nil=>exact fun _=>rfl
   | cons a r ih=>
    intro h
    rw[List.filterMap_cons,List.getElem?_eq_getElem (by rw[Array.length_toList];exact h a List.mem_cons_self)]
    show _+1=_+1
    rw[ih fun x hx=>h x (List.mem_cons_of_mem _ hx)]
  rw[this fun x hx=>List.mem_range.mp (hpm.mem_iff.mp hx),List.length_map]
 ·have h1:((live.map (·.2)).toArray.toList.filterMap (hashes.toList[·]?)).length≤(live.map (·.2)).length:=List.length_filterMap_le _ _
  rw[List.length_map]at h1
  show _≤mask
  lia
 ·intro i j h hj hh
  rw[fm_get fun x hx=>by rw[List.getElem?_eq_getElem (by rw[Array.length_toList];exact List.mem_range.mp (hpm.mem_iff.mp hx))];rfl]at hh
  have hj:(live.map (·.1))[i]?=some j:=hj
  have hh:(live.map (·.2))[i]?.bind (hashes.toList[·]?)=some h:=hh
  rw[List.getElem?_map]at hj hh
  cases hl:live[i]? with
  | none=>rw[hl]at hj;cases hj
  | some p=>
   rw[hl]at hj hh
   obtain⟨a,k⟩:=p
   obtain rfl:a=j:=Option.some.inj hj
   have hh:hashes.toList[k]?=some h:=hh
   obtain⟨q1,q2⟩:=hmem a k (List.mem_of_getElem? hl)
   have hs:a<owner.size:=by rw[L.sz];lia
   have q3:owner.toList[a]?=some (some k):=by
    rw[Array.getElem?_toList]
    rw[Array.getD_eq_getD_getElem?,Array.getElem?_eq_getElem hs]at q2
    rw[Array.getElem?_eq_getElem hs]
    exact congrArg some q2
   obtain⟨h',r1,n,r2,r3⟩:=W a k q3
   rw[hh]at r1
   cases r1
   have wm:∀n,way { mask,place:=(live.map (·.1)).toArray,dummies:=#[],finger,led,moves,plain } h n=way { mask,place:=#[],dummies:=#[],finger,led,moves,plain } h n:=fun n=>way_mask (show SetTable.mask { mask,place:=(live.map (·.1)).toArray,dummies:=#[],finger,led,moves,plain }=SetTable.mask { mask,place:=#[],dummies:=#[],finger,led,moves,plain } from rfl) h n
   refine⟨n,(wm n).trans r2,fun n' z=>?_⟩
   have:=r3 n' z
   rw[wm]
   exact hoc _ (way_le _ _ _) this
end PySem.SetTable
end
section
namespace PySem
open L2
section
variable{prog:Program}{w:World}{A:Around}{E:Value→Shared→Prop}{s:Shared}
theorem JH{h h':Heap}{k:FK}{a:Addr}(hk:∀b o xs n,h.get? b=some o→o.data=.seq xs n→h'.get? b=some o)(x:IsFlow prog w h k a):IsFlow prog w h' k a:=by
 obtain⟨o,items,n,t,c,ho,hc,hd,hi,o',items',n',ho',hc',hd',hi'⟩:=x
 exact⟨o,items,n,t,c,hk _ _ _ _ ho hd,hc,hd,hi,o',items',n',hk _ _ _ _ ho' hd',hc',hd',hi'⟩
theorem VH{k:FK}{a:Addr}{Q:Bool→Shared→Prop}(hk:IsFlow prog w s.heap k a)(h:Q false s):wpAny (model prog w) A (hashByValue 8 (.ref a)) Q E s:=by
 have hT:=hk.typeIs
 obtain⟨o,items,n,t,b,ho,_,hd,hi,hb⟩:=hk
 unfold hashByValue
 refine wpAny_bind (wpAny_specialOf hT F.slot_tuple_hash.lookup ?_)
 show wpAny _ _ (seqItems? (.ref a) >>= _) _ _ s
 refine wpAny_bind (wpAny_seqItems ho hd ?_)
 refine wpAny_bind ?_
 show wpAny _ _ (forIn items _ _) _ _ s
 rw[←Array.forIn_toList,hi,List.forIn_cons]
 refine wpAny_bind ?_
 show wpAny _ _ (pure false >>= _) _ _ s
 refine wpAny_bind (wpAny_pure ?_)
 simp only[Bool.not_false,if_true]
 exact wpAny_pure (wpAny_pure (wpAny_pure h))
theorem TF{n:Nat}{v:Value}(h:carriedByValue v=true):ofAClassStatement n v=pure false:=by
 cases v<;>first | rfl | (unfold ofAClassStatement;rfl) | cases h
theorem bB{ks:List Key}{a:Addr}{n:Nat}{Q:Bool→Shared→Prop}(hk:IsTupleKey (mixKind prog w) s.heap ks a)(h:Q false s):wpAny (model prog w) A (ofAClassStatement (n+1) (.ref a)) Q E s:=by
 have hT:=hk.typeIs
 obtain⟨o,items,n,ho,_,hd,hi⟩:=hk
 unfold ofAClassStatement
 refine wpAny_bind (wpAny_typeOf hT ?_)
 show wpAny _ _ (pure true >>= _) _ _ s
 refine wpAny_bind (wpAny_pure ?_)
 simp only[Bool.not_true,Bool.false_eq_true,if_false]
 refine wpAny_bind (wpAny_seqItems ho hd ?_)
 refine wpAny_bind ?_
 show wpAny _ _ (forIn items _ _) _ _ s
 rw[←Array.forIn_toList]
 refine wpAny_forIn_list _ (fun rest r s'=>r.1=none∧s'=s∧∀v∈rest,carriedByValue v=true) _ ?_ ?_ _ _ ⟨rfl,rfl,hi.byValue⟩
 ·rintro v rest r s' ⟨hr,rfl,hall⟩
  rw[TF (hall v List.mem_cons_self)]
  refine wpAny_bind (wpAny_pure ?_)
  simp only[Bool.false_eq_true,if_false]
  exact wpAny_pure ⟨rfl,rfl,fun u hu'=>hall u (List.mem_cons_of_mem _ hu')⟩
 ·rintro ⟨r1,r2⟩ s' ⟨hr,rfl,_⟩
  simp only at hr
  subst hr
  exact wpAny_pure h
theorem RL{k:FK}{a:Addr}{Q:Bool→Shared→Prop}(hk:IsFlow prog w s.heap k a)(h:Q false s):wpAny (model prog w) A (ofAClassStatement 8 (.ref a)) Q E s:=by
 have hT:=hk.typeIs
 obtain⟨o,items,n,t,b,ho,_,hd,hi,hb⟩:=hk
 unfold ofAClassStatement
 refine wpAny_bind (wpAny_typeOf hT ?_)
 show wpAny _ _ (pure true >>= _) _ _ s
 refine wpAny_bind (wpAny_pure ?_)
 simp only[Bool.not_true,Bool.false_eq_true,if_false]
 refine wpAny_bind (wpAny_seqItems ho hd ?_)
 refine wpAny_bind ?_
 show wpAny _ _ (forIn items _ _) _ _ s
 rw[←Array.forIn_toList,hi,List.forIn_cons]
 refine wpAny_bind ?_
 rw[TF rfl]
 refine wpAny_bind (wpAny_pure ?_)
 simp only[Bool.false_eq_true,if_false]
 refine wpAny_pure ?_
 show wpAny _ _ (forIn [Value.ref b] _ _) _ _ _
 rw[List.forIn_cons]
 refine wpAny_bind ?_
 refine wpAny_bind (bB (n:=6) hb ?_)
 simp only[Bool.false_eq_true,if_false]
 refine wpAny_pure ?_
 show wpAny _ _ (forIn ([]:List Value) _ _) _ _ _
 rw[List.forIn_nil]
 exact wpAny_pure (wpAny_pure h)
theorem aK{k:FK}{b:Addr}{vs:List Value}{Q:Bool→Shared→Prop}(hb:IsFlow prog w s.heap k b)(hv:∀v∈vs,∃x c,v=Value.ref c∧IsFlow prog w s.heap x c)(h:Q false s):wpAny (model prog w) A (searchCouldBeSeen (.ref b) vs) Q E s:=by
 unfold searchCouldBeSeen
 refine wpAny_bind ?_
 refine wpAny_forIn_list _ (fun rest r s'=>r.1=none∧s'=s∧∀v∈rest,∃x c,v=Value.ref c∧IsFlow prog w s.heap x c) _ ?_ ?_ _ _ ⟨rfl,rfl,hv⟩
 ·rintro v rest r s' ⟨hr,rfl,hall⟩
  obtain⟨x,c,rfl,hc⟩:=hall v List.mem_cons_self
  have hrest:∀v∈rest,∃x c,v=Value.ref c∧IsFlow prog w s'.heap x c:=fun u hu'=>hall u (List.mem_cons_of_mem _ hu')
  dsimp only
  split
  ·exact wpAny_pure ⟨rfl,rfl,hrest⟩
  ·refine wpAny_bind (GF hb ?_)
   simp only[Bool.not_true,Bool.false_eq_true,if_false]
   refine wpAny_bind (GF hc ?_)
   simp only[Bool.not_true,Bool.false_eq_true,if_false]
   refine wpAny_bind (RL hb ?_)
   simp only[Bool.false_eq_true,if_false]
   refine wpAny_bind (RL hc ?_)
   simp only[Bool.false_eq_true,if_false]
   exact wpAny_pure ⟨rfl,rfl,hrest⟩
 ·rintro ⟨r1,r2⟩ s' ⟨hr,rfl,_⟩
  simp only at hr
  subst hr
  exact wpAny_pure h
end
noncomputable def fE(prog:Program)(w:World)(x:FK×Addr):Int×Value:=(flowHash prog w x.1,.ref x.2)
noncomputable def fEs(prog:Program)(w:World)(xs:List (FK×Addr)):Array (Int×Value):=(xs.map (fE prog w)).toArray
noncomputable def fHs(prog:Program)(w:World)(xs:List (FK×Addr)):List Int:=xs.map fun x=>flowHash prog w x.1
def SzT(mask n:Nat):Prop:=(mask=7∧n≤4)∨(mask=31∧n≤18)∨(mask=127∧n≤76)
theorem SzT.odd{mask n:Nat}(h:SzT mask n):(mask % 2==0)=false:=by rcases h with ⟨rfl,_⟩ | ⟨rfl,_⟩ | ⟨rfl,_⟩<;>rfl
theorem QG{prog:Program}{w:World}(xs:List (FK×Addr))(i:Nat):(fEs prog w xs)[i]?=xs[i]?.map (fE prog w):=by simp[fEs]
theorem HY{prog:Program}{w:World}(xs:List (FK×Addr)):(fEs prog w xs).size=xs.length:=by simp[fEs]
structure SetF(prog:Program)(w:World)(h:Heap)(a:Addr)(xs:List (FK×Addr))(ep:Nat)(t:SetTable):Prop extends SetB w h a (fEs prog w xs) ep t where
 fl:∀x∈xs,IsFlow prog w h x.1 x.2
 nd:(xs.map (·.1)).Nodup
 gd:t.Good (fHs prog w xs)
 sz:SzT t.mask xs.length
section
variable{prog:Program}{w:World}{A:Around}{E:Value→Shared→Prop}{s:Shared}
open SetTable (way adv)
theorem oX{a b:Addr}{k:FK}{xs:List (FK×Addr)}{ep:Nat}{t:SetTable}(S:SetF prog w s.heap a xs ep t)(hb:IsFlow prog w s.heap k b)(hu:A.units+10<cLine){Q:SetFound→Shared→Prop}(hthere:k∈xs.map (·.1)→Q (.there none) s)
  (hfree:∀n,k∉xs.map (·.1)→way t (flowHash prog w k) n∉t.place.toList→(∀n',n'<n→way t (flowHash prog w k) n'∈t.place.toList)→Q (.free (way t (flowHash prog w k) n) false) s) :
  ∀(r fuel m:Nat) (stand:Option SetTable.Probe),10*(13+t.mask)+1-m≤r→r<fuel→(∀n,n<m→way t (flowHash prog w k) n∈t.place.toList)→(∀n,n<m→∀(i:Nat) (x:FK×Addr),t.place.toList[i]?=some (way t (flowHash prog w k) n)→xs[i]?=some x→x.1≠k)→stand.getD (t.probeStart (flowHash prog w k))=adv t m (t.probeStart (flowHash prog w k))→
   wpAny (model prog w) A (setSearchFrom a (.ref b) (flowHash prog w k) true fuel stand) Q E s:=by
 intro r
 induction r with
 | zero=>
  intro fuel m stand hr hf hm hp hst
  obtain⟨n,h1,h2,_⟩:=S.gd.probe (fun _=>0) (flowHash prog w k) hm
  lia
 | succ r ih=>
  intro fuel m stand hr hf hm hp hst
  obtain⟨n,h1,h2,h3,h4⟩:=S.gd.probe (fun i=>((fEs prog w xs)[i]?.map fun e:Int×Value=>e.1).getD 0) (flowHash prog w k) hm
  have hway:∀n',n'<n→way t (flowHash prog w k) n'∈t.place.toList:=fun n' q=>by
   by_cases z:n'<m
   ·exact hm n' z
   ·obtain⟨i,e,_⟩:=h3 n' (by lia) q
    exact List.mem_of_getElem? e
  have hpass:∀n',n'<n→∀(i:Nat) (x:FK×Addr),t.place.toList[i]?=some (way t (flowHash prog w k) n')→xs[i]?=some x→x.1≠k:=fun n' q i x e1 e2 e3=>by
   by_cases z:n'<m
   ·exact hp n' z i x e1 e2 e3
   ·obtain⟨i',e,hne⟩:=h3 n' (by lia) q
    obtain rfl:=S.gd.uniq e1 e
    apply hne
    show ((fEs prog w xs)[i]?.map fun e:Int×Value=>e.1).getD 0=_
    rw[QG,e2,Option.map_some,Option.map_some,Option.getD_some,fE,e3]
  cases fuel with
  | zero=>exact absurd hf (Nat.not_lt_zero _)
  | succ fuel=>
   unfold setSearchFrom
   refine wpAny_bind (wpAny_setState_of S.ob rfl S.fit ?_)
   dsimp only
   have hgw:t.gaveWay=false:=S.sz.odd
   rw[hgw,hst]
   simp only[Bool.false_eq_true,if_false]
   rcases h4 with ⟨p1,p2⟩ | ⟨i,p1,p2,p3,p4⟩
   ·erw [p2]
    refine wpAny_pure (hfree n (fun q=>?_) p1 hway)
    obtain⟨x,hx,e⟩:=List.mem_map.mp q
    obtain⟨i,hi,ei⟩:=List.getElem_of_mem hx
    have hil:i<t.place.toList.length:=by rw[Array.length_toList,S.gd.len,fHs,List.length_map];exact hi
    have e1:t.place.toList[i]?=some (t.place.toList[i]):=List.getElem?_eq_getElem hil
    have e2:(fHs prog w xs)[i]?=some (flowHash prog w k):=by rw[fHs,List.getElem?_map,List.getElem?_eq_getElem hi,ei,Option.map_some,e]
    obtain⟨n',q1,q2⟩:=S.gd.met e1 e2 p1
    exact hpass n' q1 i x (by rw[q2];exact e1) (by rw[List.getElem?_eq_getElem hi,ei]) e
   ·erw [p4]
    dsimp only
    have hil:i<xs.length:=by
     have:=(List.getElem?_eq_some_iff.mp p1).1
     rw[Array.length_toList,S.gd.len,fHs,List.length_map]at this
     exact this
    obtain⟨x,hx⟩:∃x,xs[i]?=some x:=⟨xs[i],List.getElem?_eq_getElem hil⟩
    have hxm:x∈xs:=List.mem_of_getElem? hx
    have hei:(fEs prog w xs)[i]?=some (flowHash prog w x.1,Value.ref x.2):=by rw[QG,hx,Option.map_some,fE]
    have hsm:t.sameMemory t.moves t.mask=some true:=by unfold SetTable.sameMemory;rw[if_pos (beq_self_eq_true _)]
    have hway':∀n',n'<n+1→way t (flowHash prog w k) n'∈t.place.toList:=fun n' q=>by
     by_cases z:n'=n
     ·rw[z];exact List.mem_of_getElem? p1
     ·exact hway n' (by lia)
    have hpass':x.1≠k→∀n',n'<n+1→∀(i:Nat) (x:FK×Addr),t.place.toList[i]?=some (way t (flowHash prog w k) n')→xs[i]?=some x→x.1≠k:=fun hk n' q i' x' e1 e2=>by
     by_cases z:n'=n
     ·rw[z]at e1
      obtain rfl:=S.gd.uniq e1 p1
      rw[hx]at e2
      cases e2
      exact hk
     ·exact hpass n' (by lia) i' x' e1 e2
    cases hl:t.led with
    | true=>
     simp only[Bool.not_true,Bool.false_eq_true,if_false]
     rw[hei]
     dsimp only
     refine wpAny_bind (wpAny_holding (GR hu (S.fl x hxm) hb ?_))
     refine wpAny_bind (wpAny_setState_of S.ob rfl S.fit ?_)
     dsimp only
     by_cases hk:x.1=k
     ·rw[decide_eq_true hk]
      simp only[Bool.and_self,if_true]
      exact wpAny_pure (hthere (hk▸List.mem_map_of_mem hxm))
     ·rw[decide_eq_false hk]
      simp only[Bool.and_false,Bool.false_eq_true,if_false]
      rw[hsm]
      simp only[if_true]
      rw[p2]
      dsimp only
      rw[hei]
      dsimp only
      refine wpAny_bind (wpAny_isSame_ref_self ?_)
      refine wpAny_bind (wpAny_pure ?_)
      simp only[if_true]
      exact ih fuel (n+1) _ (by lia) (by lia) hway' (hpass' hk) rfl
    | false=>
     simp only[Bool.not_false,if_true]
     refine wpAny_bind (aK hb (fun v hv=>?_) ?_)
     ·obtain⟨e,he,rfl⟩:=List.mem_map.mp hv
      rw[Array.toList_filter]at he
      have he:=(List.mem_filter.mp he).1
      obtain⟨y,hy,rfl⟩:=List.mem_map.mp (show e∈xs.map (fE prog w) from he)
      exact⟨y.1,y.2,rfl,S.fl y hy⟩
     ·simp only[Bool.false_eq_true,if_false]
      rw[hei]
      dsimp only
      refine wpAny_bind (wpAny_holding (GR hu (S.fl x hxm) hb ?_))
      refine wpAny_bind (wpAny_setState_of S.ob rfl S.fit ?_)
      dsimp only
      by_cases hk:x.1=k
      ·rw[decide_eq_true hk]
       simp only[Bool.and_self,if_true]
       exact wpAny_pure (hthere (hk▸List.mem_map_of_mem hxm))
      ·rw[decide_eq_false hk]
       simp only[Bool.and_false,Bool.false_eq_true,if_false]
       rw[hsm]
       simp only[if_true]
       rw[p2]
       dsimp only
       rw[hei]
       dsimp only
       refine wpAny_bind (wpAny_isSame_ref_self ?_)
       refine wpAny_bind (wpAny_pure ?_)
       simp only[if_true]
       exact ih fuel (n+1) _ (by lia) (by lia) hway' (hpass' hk) rfl
end
end PySem
end
section
namespace PySem
open L2
open SetTable (way adv)
theorem SetTable.Good.off{t:SetTable}{hs:List Int}(G:t.Good hs)(b:Bool):SetTable.Good { t with plain:=b } hs:=
 ⟨G.R,G.d,G.F,G.le,G.len,G.fill,fun i j h hj hh=>by
  obtain⟨k,a,c⟩:=G.w i j h hj hh
  have wm:∀k,way { t with plain:=b } h k=way t h k:=fun k=>SetTable.way_mask (t:={ t with plain:=b }) (t':=t) rfl h k
  exact⟨k,(wm k).trans a,fun k' q=>by rw[wm];exact c k' q⟩⟩
theorem SetTable.Good.fill_is{t:SetTable}{hs:List Int}(G:t.Good hs):t.fill=hs.length:=by
 unfold SetTable.fill
 rw[G.len,G.d];rfl
theorem SetTable.Good.fits{t:SetTable}{hs:List Int}(G:t.Good hs){n:Nat}(hn:n=hs.length):t.fits n=true:=by
 unfold SetTable.fits
 rw[G.fill_is,G.len,hn]
 simp[G.fill]
theorem gF{prog:Program}{w:World}(xs:List (FK×Addr))(p:Nat)(k:FK)(b:Addr):SetTable.insertAt (fEs prog w xs) p (flowHash prog w k,Value.ref b)=fEs prog w (xs.take p++(k,b)::xs.drop p):=by
 apply Array.ext'
 rw[SetTable.insert_list]
 simp[fEs,List.map_take,List.map_drop,fE]
theorem gD{prog:Program}{w:World}(xs:List (FK×Addr))(p:Nat)(k:FK)(b:Addr):(fHs prog w xs).take p++flowHash prog w k::(fHs prog w xs).drop p=fHs prog w (xs.take p++(k,b)::xs.drop p):=by
 simp[fHs,List.map_take,List.map_drop]
theorem jH{α:Type}{xs:List α}{order:List Nat}(h:order.Perm (List.range xs.length)):(order.filterMap (xs[·]?)).Perm xs:=by
 have e:(List.range xs.length).filterMap (xs[·]?)=xs:=by
  apply List.ext_getElem?
  intro i
  rw[SetTable.fm_get fun x hx=>by rw[List.getElem?_eq_getElem (List.mem_range.mp hx)];rfl]
  by_cases hi:i<xs.length
  ·rw[List.getElem?_range hi];rfl
  ·rw[List.getElem?_eq_none (by simp;lia),List.getElem?_eq_none (by lia)];rfl
 have:=h.filterMap (xs[·]?)
 rw[e]at this
 exact this
section
variable{prog:Program}{w:World}{A:Around}{E:Value→Shared→Prop}{s:Shared}
theorem SetB.flows{h h':Heap}{a:Addr}{es:Array (Int×Value)}{ep:Nat}{t:SetTable}(S:SetB w h a es ep t)(sb:Heap.SameBut a h h'){k:FK}{b:Addr}(x:IsFlow prog w h k b):IsFlow prog w h' k b:=
 JH (fun c o xs n e d=>sb.extBut c o (fun z=>by rw[z,S.ob]at e;cases e;cases d) e) x
theorem XC{a:Addr}{xs:List (FK×Addr)}{ep:Nat}{t:SetTable}(S:SetB w s.heap a (fEs prog w xs) ep t)(fl:∀x∈xs,IsFlow prog w s.heap x.1 x.2)(nd:(xs.map (·.1)).Nodup)(hp:t.plain=false){wanted mask:Nat}(hw:SetTable.sizeAbove wanted=mask+1)(F:SetTable.Full mask)(hm:xs.length≤mask)(hm2:mask≤127)(sz:SzT mask xs.length){Q:Unit→Shared→Prop}
  (h:∀h' xs' ep' t',Heap.SameBut a s.heap h'→SetF prog w h' a xs' ep' t'→xs'.Perm xs→Q () { s with heap:=h' }):wpAny (model prog w) A (setRelay a wanted) Q E s:=by
 unfold setRelay
 refine wpAny_bind (wpAny_setState_of S.ob rfl S.fit ?_)
 dsimp only
 rw[if_neg (by rw[hw,sizeLine_eq];lia)]
 have hz:((fEs prog w xs).map fun e:Int×Value=>e.1).size=xs.length:=by rw[Array.size_map,HY]
 obtain⟨t',order,e1,e2,e3,e4,e5,e6,e7⟩:=SetTable.laid_good (finger:=t.finger) (moves:=t.movedTo mask) (led:=t.led) (plain:=t.plain) F ((fEs prog w xs).map fun e:Int×Value=>e.1) (by rw[hz];exact hm)
 have er:t.relaid ((fEs prog w xs).map fun e:Int×Value=>e.1) wanted=some (t',order):=by
  unfold SetTable.relaid
  rw[hw]
  exact e1
 rw[hz]at e6
 have hpx:=jH (xs:=xs) e6
 generalize hxs2:order.toList.filterMap (xs[·]?)=xs2 at hpx
 have hes:order.filterMap ((fEs prog w xs)[·]?)=fEs prog w xs2:=by
  apply Array.ext'
  rw[Array.toList_filterMap,←hxs2]
  show _=(List.filterMap _ _).map (fE prog w)
  rw[List.map_filterMap]
  congr 1
  funext i
  exact QG xs i
 have hG:t'.Good (fHs prog w xs2):=by
  have:order.toList.filterMap (((fEs prog w xs).map fun e:Int×Value=>e.1).toList[·]?)=fHs prog w xs2:=by
   rw[←hxs2,fHs,List.map_filterMap]
   congr 1
   funext i
   rw[Array.toList_map,List.getElem?_map,Array.getElem?_toList,QG]
   cases xs[i]?<;>rfl
  rw[←this];exact e7
 have hl2:xs2.length=xs.length:=hpx.length_eq
 rw[er]
 refine wpAny_bind ?_
 show wpAny _ _ (if ((order.filterMap ((fEs prog w xs)[·]?)).size != (fEs prog w xs).size)=true then _ else pure (order.filterMap ((fEs prog w xs)[·]?),t')) _ _ _
 rw[hes,if_neg (by simp[HY,hl2])]
 refine wpAny_pure ?_
 dsimp only
 refine wpAny_storeSet_of S.ob rfl ?_ (by rw[HY,sizeLine_eq];lia)
 have o1:(s.heap.update a (Obj.putSet (fEs prog w xs2) t')).get? a=some (setObj (fEs prog w xs2) (ep+1) t'):=Heap.get?_update_self (Obj.putSet (fEs prog w xs2) t') S.ob rfl
 have sb:=Heap.SameBut.update s.heap a (Obj.putSet (fEs prog w xs2) t')
 refine h _ xs2 _ t' sb ⟨⟨o1,hG.fits (by rw[HY,fHs,List.length_map]),by rw[e3];exact S.led,fun _=>by rw[e4];exact hp⟩,fun x hx=>S.flows sb (fl x (hpx.mem_iff.mp hx)),(hpx.map _).nodup_iff.mpr nd,hG,?_⟩ hpx
 rw[e2,hl2]
 exact sz
theorem uL{a b:Addr}{k:FK}{xs:List (FK×Addr)}{ep:Nat}{t:SetTable}(S:SetF prog w s.heap a xs ep t)(hb:IsFlow prog w s.heap k b)(hu:A.units+10<cLine)(hn:k∉xs.map (·.1)→xs.length+1≤76){Q:Bool→Shared→Prop}
  (h:∀h' xs' ep' t' r,Heap.SameBut a s.heap h'→SetF prog w h' a xs' ep' t'→(∀y,y∈xs'.map (·.1)↔y∈xs.map (·.1)∨y=k)→(∀x∈xs',x∈xs∨x=(k,b))→Q r { s with heap:=h' }) :
  wpAny (model prog w) A (setAddHashed a (.ref b) (flowHash prog w k)) Q E s:=by
 have hmask:t.mask≤127:=by rcases S.sz with q | q | q<;>lia
 unfold setAddHashed setAddHashedIn
 refine wpAny_holding (wpAny_bind (wpAny_setState_of S.ob rfl S.fit ?_))
 dsimp only
 rw[show byScan (.ref b) (fEs prog w xs)=false from rfl]
 simp only[Bool.false_eq_true,if_false]
 unfold setSearch
 refine wpAny_bind (oX S hb hu (fun hin=>?_) (fun n hnk hw hbf=>?_) (10*(13+t.mask)+1) 100000 0 none (by lia) (by lia) (fun _ q=>absurd q (Nat.not_lt_zero _)) (fun _ q=>absurd q (Nat.not_lt_zero _)) rfl)
 ·exact wpAny_pure (h s.heap xs ep t false (Heap.SameBut.refl a s.heap) S (fun y=>⟨.inl,fun q=>q.elim id fun e=>e▸hin⟩) fun x hx=>.inl hx)
 ·dsimp only
  refine wpAny_bind (wpAny_setState_of S.ob rfl S.fit ?_)
  dsimp only
  have hn:=hn hnk
  have hfl:(fHs prog w xs).length=xs.length:=by rw[fHs,List.length_map]
  have G1:=S.gd.put hw hbf (SetTable.way_le t _ n) (by rw[hfl];rcases S.sz with q | q | q<;>lia)
  have em:(t.put (way t (flowHash prog w k) n)).1.mask=t.mask:=rfl
  have el:(t.put (way t (flowHash prog w k) n)).1.led=t.led:=rfl
  rw[gD xs _ k b]at G1
  rw[gF]
  generalize hX:xs.take (t.put (way t (flowHash prog w k) n)).2++(k,b)::xs.drop (t.put (way t (flowHash prog w k) n)).2=xs1 at G1 ⊢
  generalize (t.put (way t (flowHash prog w k) n)).1=t1 at G1 em el ⊢
  have hpx:xs1.Perm ((k,b)::xs):=by
   rw[←hX]
   refine List.perm_middle.trans ?_
   rw[List.take_append_drop]
  have hl1:xs1.length=xs.length+1:=by rw[hpx.length_eq];rfl
  have hm1:∀y,y∈xs1.map (·.1)↔y∈xs.map (·.1)∨y=k:=fun y=>by rw[(hpx.map _).mem_iff,List.map_cons,List.mem_cons,or_comm]
  have hs1:∀x∈xs1,x∈xs∨x=(k,b):=fun x hx=>(List.mem_cons.mp (hpx.mem_iff.mp hx)).symm
  have hnd1:(xs1.map (·.1)).Nodup:=(hpx.map _).nodup_iff.mpr (List.nodup_cons.mpr ⟨hnk,S.nd⟩)
  have tail:∀(t2:SetTable),t2.Good (fHs prog w xs1)→t2.mask=t.mask→t2.led=t.led→t2.plain=false→wpAny (model prog w) A (do
    storeSet a (fEs prog w xs1) t2
    if (!false&&t2.tooFull)=true then setRelay a (SetTable.grown ((fEs prog w xs).size+1))
    return true) Q E s:=by
   intro t2 G2 em2 el2 ep2
   have hf2:t2.fits (fEs prog w xs1).size=true:=G2.fits (by rw[HY,fHs,List.length_map])
   refine wpAny_bind (wpAny_storeSet_of S.ob rfl ?_ (by rw[HY,sizeLine_eq];lia))
   have o1:(s.heap.update a (Obj.putSet (fEs prog w xs1) t2)).get? a=some (setObj (fEs prog w xs1) (ep+1) t2):=Heap.get?_update_self (Obj.putSet (fEs prog w xs1) t2) S.ob rfl
   have sb1:=Heap.SameBut.update s.heap a (Obj.putSet (fEs prog w xs1) t2)
   have S1:SetB w (s.heap.update a (Obj.putSet (fEs prog w xs1) t2)) a (fEs prog w xs1) (ep+1) t2:=⟨o1,hf2,by rw[el2];exact S.led,fun _=>ep2⟩
   have fl1:∀x∈xs1,IsFlow prog w (s.heap.update a (Obj.putSet (fEs prog w xs1) t2)) x.1 x.2:=fun x hx=>S.toSetB.flows sb1 (by
    rcases hs1 x hx with q | q
    ·exact S.fl x q
    ·rw[q];exact hb)
   have hfi:t2.fill=xs.length+1:=by rw[G2.fill_is,fHs,List.length_map,hl1]
   rw[HY]
   by_cases hf:t2.tooFull=true
   ·rw[hf]
    simp only[Bool.not_false,Bool.and_self,if_true]
    have htf:t2.fill*5≥t2.mask*3:=of_decide_eq_true hf
    rw[hfi,em2]at htf
    have hgr:∀n:Nat,n≤50000→SetTable.grown n=n*4:=fun n q=>by unfold SetTable.grown;rw[if_neg (by lia)]
    rcases S.sz with ⟨q1,q2⟩ | ⟨q1,q2⟩ | ⟨q1,q2⟩
    ·have e:xs.length=4:=by lia
     refine wpAny_bind (XC S1 fl1 hnd1 ep2 (mask:=31) (by rw[e];decide) SetTable.full_31 (by lia) (by lia) (.inr (.inl ⟨rfl,by lia⟩)) fun h' xs' ep' t' sb S' hp'=>wpAny_pure (h h' xs' ep' t' true (sb1.trans sb) S' (fun y=>by rw[(hp'.map _).mem_iff];exact hm1 y) fun x hx=>hs1 x (hp'.mem_iff.mp hx)))
    ·have e:xs.length=18:=by lia
     refine wpAny_bind (XC S1 fl1 hnd1 ep2 (mask:=127) (by rw[e];decide) SetTable.full_127 (by lia) (by lia) (.inr (.inr ⟨rfl,by lia⟩)) fun h' xs' ep' t' sb S' hp'=>wpAny_pure (h h' xs' ep' t' true (sb1.trans sb) S' (fun y=>by rw[(hp'.map _).mem_iff];exact hm1 y) fun x hx=>hs1 x (hp'.mem_iff.mp hx)))
    ·lia
   ·have hf':t2.tooFull=false:=by simpa using hf
    rw[hf']
    simp only[Bool.not_false,Bool.and_false,Bool.false_eq_true,if_false]
    have htf:¬t2.fill*5≥t2.mask*3:=of_decide_eq_false hf'
    rw[hfi,em2]at htf
    refine wpAny_pure (h _ xs1 _ t2 true sb1 ⟨S1,fl1,hnd1,G2,?_⟩ hm1 hs1)
    rw[em2,hl1]
    rcases S.sz with ⟨q1,q2⟩ | ⟨q1,q2⟩ | ⟨q1,q2⟩
    ·exact .inl ⟨q1,by lia⟩
    ·exact .inr (.inl ⟨q1,by lia⟩)
    ·exact .inr (.inr ⟨q1,by lia⟩)
  cases hpl:t1.plain with
  | true=>
   simp only[if_true]
   refine wpAny_bind (VH hb ?_)
   simp only[Bool.false_eq_true,if_false]
   exact tail { t1 with plain:=false } (G1.off false) em el rfl
  | false=>
   simp only[Bool.false_eq_true,if_false]
   refine wpAny_bind (wpAny_pure ?_)
   simp only[if_true]
   exact tail t1 G1 em el hpl
end
end PySem
end
section
namespace PySem
open L2
section
variable{prog:Program}{w:World}{A:Around}{E:Value→Shared→Prop}{s:Shared}
theorem SetF.at{h h':Heap}{a:Addr}{xs:List (FK×Addr)}{ep:Nat}{t:SetTable}(S:SetF prog w h a xs ep t)(ka:∀o,h.get? a=some o→h'.get? a=some o)(kf:∀k b,IsFlow prog w h k b→IsFlow prog w h' k b):SetF prog w h' a xs ep t:=
 { S with ob:=ka _ S.ob,fl:=fun x hx=>kf _ _ (S.fl x hx) }
theorem SetF.new{h:Heap}{a:Addr}{led:Bool}(ho:h.get? a=some (setObj #[] 0 (.fresh 0 0 led)))(hl:led=!w.params.followText "set-order"):SetF prog w h a [] 0 (.fresh 0 0 led) where
 ob:=ho
 fit:=rfl
 led:=hl
 pl:=fun q=>absurd rfl q
 fl:=fun x hx=>nomatch hx
 nd:=List.nodup_nil
 gd:=⟨fun a b hab hb=>absurd hb (Nat.not_lt_zero _),rfl,SetTable.full_7,fun j hj=>(nomatch hj),rfl,Nat.zero_le _,fun i j h hj=>(nomatch hj)⟩
 sz:=.inl ⟨rfl,Nat.zero_le _⟩
structure FWalk(prog:Program)(w:World)(I:Addr)(fp:List Addr)(n:Nat)(P:Nat→Value→Prop)(St:Nat→Heap→Prop)(fs:List (FK×Addr)):Prop where
 W:∀A:Around,A.handled=none→Walks prog w A I fp [I] n P St
 it:∀k h,St k h→∀o xs c,h.get? I=some o→o.data=.seq xs c→False
 P:∀i v,P i v→∃x,fs[i]?=some x∧v=.ref x.2
 n:n=fs.length
theorem bV(hh:A.handled=none)(hu:A.units+12<cLine){I S:Addr}{fp:List Addr}{n:Nat}{P:Nat→Value→Prop}{St:Nat→Heap→Prop}{fs:List (FK×Addr)}(W:FWalk prog w I fp n P St fs)(hS:S∉fp)(hSI:S≠I)(hU:∀ys:List FK,ys.Nodup→(∀y∈ys,y∈fs.map (·.1))→ys.length<64){R:Result→Shared→Prop}:∀(m k:Nat) (s:Shared) (xs:List (FK×Addr)) (ep:Nat) (t:SetTable),n-k=m→k≤n→St k s.heap→SetF prog w s.heap S xs ep t→(∀x∈fs,IsFlow prog w s.heap x.1 x.2)→(∀y,y∈xs.map (·.1)↔y∈(fs.take k).map (·.1))→(∀x∈xs,x∈fs)→
  (∀h' tk xs' ep' t',SetF prog w h' S xs' ep' t'→(∀y,y∈xs'.map (·.1)↔y∈fs.map (·.1))→(∀x∈xs',x∈fs)→(∀b o,b≠I→b≠S→s.heap.get? b=some o→h'.get? b=some o)→R (.ok (.ret .none)) { s with heap:=h',toks:=tk })→
  codeAny (model prog w) A (.builtin "set.update.loop" ⟨[.ref S,.ref I],[]⟩) R s:=by
 have W1:=W.W A.in1 (by simp[hh])
 intro m
 induction m with
 | zero=>
  intro k s xs ep t hm hk st hF hfl hmem hsub hR
  have hkk:k=n:=by lia
  subst hkk
  refine codeAny_builtin PyProof.Rows.F.entry_set_update_loop ?_
  rw[Around.under_plainId PyProof.Rows.F.plain_set_update_loop _]
  show wpAny _ A.in1 (pyNext (.ref I) >>= _) _ _ s
  refine wpAny_bind (W1.done s _ _ st fun h' tk hm'=>?_)
  have kf:∀c b,IsFlow prog w s.heap c b→IsFlow prog w h' c b:=fun c b x=>JH (fun c o xs n e d=>hm' c o (fun z=>W.it _ _ st o xs n (by rw[←List.mem_singleton.mp z];exact e) d) e) x
  refine wpAny_pure (hR h' tk xs ep t (hF.at (fun o e=>hm' S o (by simpa using hSI) e) kf) (fun y=>?_) hsub fun b o b1 _ e=>hm' b o (by simpa using b1) e)
  rw[hmem,List.take_of_length_le (by rw[←W.n];exact Nat.le_refl _)]
 | succ m ih=>
  intro k s xs ep t hm hk st hF hfl hmem hsub hR
  have hlt:k<n:=by lia
  refine codeAny_builtin PyProof.Rows.F.entry_set_update_loop ?_
  rw[Around.under_plainId PyProof.Rows.F.plain_set_update_loop _]
  show wpAny _ A.in1 (pyNext (.ref I) >>= _) _ _ s
  refine wpAny_bind (W1.item k s _ _ hlt st fun v h' tk hv' st' hm'=>?_)
  obtain⟨x,ex,rfl⟩:=W.P k v hv'
  have hxm:x∈fs:=List.mem_of_getElem? ex
  have kf:∀c b,IsFlow prog w s.heap c b→IsFlow prog w h' c b:=fun c b x=>JH (fun c o xs n e d=>hm' c o (fun z=>W.it _ _ st o xs n (by rw[←List.mem_singleton.mp z];exact e) d) e) x
  have hF':SetF prog w h' S xs ep t:=hF.at (fun o e=>hm' S o (by simpa using hSI) e) kf
  show wpAny _ A.in1 (holding [Value.ref x.2] (setAdd S (.ref x.2)) >>= _) _ _ { s with heap:=h',toks:=tk }
  refine wpAny_bind (wpAny_holding ?_)
  unfold setAdd
  refine wpAny_holding (wpAny_bind (J8 (k:=x.1) (by show A.units+1+10<cLine;lia) (kf _ _ (hfl x hxm)) ?_))
  refine uL (s:={ s with heap:=h',toks:=tk+5 }) hF' (kf _ _ (hfl x hxm)) (by show A.units+1+10<cLine;lia) (fun hnk=>?_) fun h2 xs2 ep2 t2 bb sb S2 m2 s2=>?_
  ·have:=hU (x.1::xs.map (·.1)) (List.nodup_cons.mpr ⟨hnk,hF.nd⟩) (fun y hy=>by
    rcases List.mem_cons.mp hy with rfl | hy
    ·exact List.mem_map_of_mem hxm
    ·obtain⟨z,hz,rfl⟩:=List.mem_map.mp hy
     exact List.mem_map_of_mem (hsub z hz))
   simp at this
   lia
  ·have kp:∀b o,b≠S→h'.get? b=some o→h2.get? b=some o:=fun b o hb e=>sb.extBut b o hb e
   have kf2:∀c b,IsFlow prog w h' c b→IsFlow prog w h2 c b:=fun c b x=>hF'.toSetB.flows sb x
   refine wpAny_pure ⟨plainId_quiet PyProof.Rows.F.plain_set_update_loop _,ih (k+1) _ xs2 ep2 t2 (by lia) hlt (W1.frame _ _ _ st' fun b hb o e=>kp b o (fun z=>hS (z▸hb)) e) S2 (fun x hx=>kf2 _ _ (kf _ _ (hfl x hx))) (fun y=>?_) (fun z hz=>(s2 z hz).elim (hsub z) fun e=>by rw[e];exact hxm) fun h3 tk3 xs3 ep3 t3 q1 q2 q3 q4=>hR h3 tk3 xs3 ep3 t3 q1 q2 q3 fun b o b1 b2 e=>q4 b o b1 b2 (kp b o b2 (hm' b o (by simpa using b1) e))⟩
   have e1:fs.take (k+1)=fs.take k++[x]:=by rw[List.take_succ,ex];rfl
   rw[m2,hmem,e1]
   simp
theorem rK{I l:Addr}(hne:l≠I)(fs:List (FK×Addr)):FWalk prog w I [I,l] fs.length (fun i v=>(fs.map fun x=>Value.ref x.2).toArray[i]?=some v) (fun i h=>h.IsListIter I l i∧h.IsList l (fs.map fun x=>Value.ref x.2).toArray) fs where
 W:=fun A hA=>by
  have:=Walks.list (prog:=prog) (w:=w) (A:=A) hA I l hne (fs.map fun x=>Value.ref x.2).toArray
  rw[List.size_toArray,List.length_map]at this
  exact this
 it:=fun k h st o xs c e d=>by
  obtain⟨⟨o',e',_,d'⟩,_⟩:=st
  rw[e]at e'
  cases e'
  rw[d]at d'
  cases d'
 P:=fun i v h=>by
  rw[List.getElem?_toArray,List.getElem?_map]at h
  obtain⟨x,e1,e2⟩:=Option.map_eq_some_iff.mp h
  exact⟨x,e1,e2.symm⟩
 n:=rfl
theorem lF{I l:Addr}(hne:l≠I)(fs:List (FK×Addr)):FWalk prog w I [I,l] fs.length (fun i v=>(fs.map fun x=>Value.ref x.2).toArray[i]?=some v) (fun i h=>h.IsTupleIter I l i∧h.IsTuple l (fs.map fun x=>Value.ref x.2).toArray) fs where
 W:=fun A hA=>by
  have:=Walks.tuple (prog:=prog) (w:=w) (A:=A) hA I l hne (fs.map fun x=>Value.ref x.2).toArray
  rw[List.size_toArray,List.length_map]at this
  exact this
 it:=fun k h st o xs c e d=>by
  obtain⟨⟨o',e',_,d'⟩,_⟩:=st
  rw[e]at e'
  cases e'
  rw[d]at d'
  cases d'
 P:=fun i v h=>by
  rw[List.getElem?_toArray,List.getElem?_map]at h
  obtain⟨x,e1,e2⟩:=Option.map_eq_some_iff.mp h
  exact⟨x,e1,e2.symm⟩
 n:=rfl
end
end PySem
end
section
namespace PySem
open L2
section
variable{prog:Program}{w:World}{A:Around}{E:Value→Shared→Prop}{s:Shared}
theorem oY{l:Addr}{fs:List (FK×Addr)}{Q:Value→Shared→Prop}(hh:A.handled=none)(hu:A.units+20<cLine)(hl:s.heap.IsList l (fs.map fun x=>Value.ref x.2).toArray∨s.heap.IsTuple l (fs.map fun x=>Value.ref x.2).toArray)(hfl:∀x∈fs,IsFlow prog w s.heap x.1 x.2)(hU:∀ys:List FK,ys.Nodup→(∀y∈ys,y∈fs.map (·.1))→ys.length<64)
  (h:∀(h':Heap) (tk:Nat) xs ep t,SetF prog w h' s.heap.objs.size xs ep t→(∀y,y∈xs.map (·.1)↔y∈fs.map (·.1))→(∀x∈xs,x∈fs)→(∀b o,s.heap.get? b=some o→h'.get? b=some o)→Q (.ref s.heap.objs.size) { s with heap:=h',toks:=tk }) :
  wpAny (model prog w) A (call (.type "set") [.ref l]) Q E s:=by
 obtain⟨c0,tl,hmro⟩:=F.called_set.mro
 have hmade:=F.called_set.made
 have hsub:=F.called_set.sub
 have hnt:=F.called_set.notType
 have hcc:=F.called_set.canCreate
 have hct:=F.typeCall_set_1 (.ref l)
 refine wpAny_call (codeAny_of_tree ?_)
 show wpAny _ _ (callAny (.type "set") _) _ _ _
 refine wpAny_pure ⟨Code.quiet_builtin _ (by decide +kernel),codeAny_builtin F.entry_type_call ?_⟩
 rw[Around.under_plain (weight_type_call_type "set" [.ref l] []) rfl]
 repeat (any_goals (first | assumption | wp_step))
 refine codeAny_mono (uH (E:=E) (Q₁:=fun obj s₁=>obj=.ref s.heap.objs.size∧s₁={ s with heap:=s.heap.push (setObj #[] 0 (.fresh 0 0 (!w.params.followText "set-order"))) }) ⟨rfl,rfl⟩) fun r s₁ hr=>?_
 cases r with
 | error e=>exact hr
 | ok fl=>
  cases fl with
  | ret obj=>
   obtain⟨rfl,rfl⟩:=hr
   generalize hled:(!w.params.followText "set-order")=led
   have hob:(s.heap.push (setObj #[] 0 (.fresh 0 0 led))).get? s.heap.objs.size=some (setObj #[] 0 (.fresh 0 0 led)):=Heap.get?_push_size _ rfl
   have hT:Shared.TypeIs { s with heap:=s.heap.push (setObj #[] 0 (.fresh 0 0 led)) } (.ref s.heap.objs.size) "set":=⟨_,hob,rfl⟩
   have hli:=F.called_set.init.lookup
   have hbi:=F.called_set.init.bind (.ref s.heap.objs.size)
   repeat (any_goals (first | assumption | wp_step))
   refine codeAny_mono (codeAny_call_builtin (R:=wants (fun r s₂=>r=.none∧∃h' tk xs ep t,s₂={ s with heap:=h',toks:=tk }∧SetF prog w h' s.heap.objs.size xs ep t∧(∀y,y∈xs.map (·.1)↔y∈fs.map (·.1))∧(∀x∈xs,x∈fs)∧(∀b o,s.heap.get? b=some o→h'.get? b=some o)) E) F.called_set.init.plain F.entry_set_init (check_set_init_1 hT ?_)) fun r₂ s₂ hr₂=>?_
   ·have hz:(s.heap.push (setObj #[] 0 (.fresh 0 0 led))).objs.size=s.heap.objs.size+1:=Heap.size_push ..
    have hnew:∀(c:String) (d:Data),∀x∈fs,IsFlow prog w ((s.heap.push (setObj #[] 0 (.fresh 0 0 led))).push { cls:=.type c,data:=d }) x.1 x.2:=fun c d x hx=>JH (fun b o xs n e _=>Heap.get?_push_of_some _ (Heap.get?_push_of_some _ e)) (hfl x hx)
    rcases hl with hl | hl
    ·obtain⟨ol,hol,hcl,nl,hdl⟩:=hl
     obtain⟨ocls,odict,odata,oslots⟩:=ol
     simp only at hcl hdl
     subst hcl;subst hdl
     have hol':(s.heap.push (setObj #[] 0 (.fresh 0 0 led))).get? l=some { cls:=.type "list",dict:=odict,data:=.seq (fs.map fun x=>Value.ref x.2).toArray nl,slots:=oslots }:=Heap.get?_push_of_some _ hol
     have hsls:=F.sub_list_set
     have hslf:=F.sub_list_frozenset
     have hne:(Value.type "list" == Value.type "dict")=false:=by decide
     have hl1:(s.heap.push (setObj #[] 0 (.fresh 0 0 led))).IsList l (fs.map fun x=>Value.ref x.2).toArray:=⟨_,hol',rfl,nl,rfl⟩
     have hlt:l<s.heap.objs.size:=Heap.lt_size hol
     unfold Builtin.«set.__init__» noKeywords Builtin.Frozenset.updateFrom
     generalize hPI:pyIter=PI
     wp_walk
     subst hPI
     refine wpAny_pyIter_list hl1 (wpAny_bind (wpAny_runValue ?_))
     have up:∀b o,s.heap.get? b=some o→((s.heap.push (setObj #[] 0 (.fresh 0 0 led))).push { cls:=.type "list_iterator",data:=.fields #[.ref l,.int 0 0] }).get? b=some o:=fun b o e=>Heap.get?_push_of_some _ (Heap.get?_push_of_some _ e)
     refine bV (I:=(s.heap.push (setObj #[] 0 (.fresh 0 0 led))).objs.size) (S:=s.heap.objs.size) (by simp[hh]) (by first | (show A.units+1+12<cLine;lia) | (show A.units+1+1+12<cLine;lia) | (show A.units+1+1+1+12<cLine;lia) | (show A.units+1+1+1+1+12<cLine;lia)) (rK (l:=l) (by rw[hz];exact Nat.ne_of_lt (Nat.lt_succ_of_lt hlt)) fs) (by rw[hz];simp;exact Nat.ne_of_gt hlt) (by rw[hz];exact Nat.ne_of_lt (Nat.lt_succ_self _)) hU _ 0 _ [] 0 (.fresh 0 0 led) rfl (Nat.zero_le _) ⟨⟨_,Heap.get?_push_size _ rfl,rfl,rfl⟩,hl1.push _⟩ (SetF.new (Heap.get?_push_of_some _ hob) hled.symm) (hnew _ _) (fun y=>by simp) (fun x hx=>(nomatch hx)) fun h' tk xs' ep' t' q1 q2 q3 q4=>?_
     show wpAny _ _ _ _ _ _
     refine wpAny_pure (wpAny_pure ⟨rfl,h',tk,xs',ep',t',rfl,q1,q2,q3,fun b o e=>q4 b o ?_ ?_ (up b o e)⟩)
     ·rw[hz];exact Nat.ne_of_lt (Nat.lt_succ_of_lt (Heap.lt_size e))
     ·exact Nat.ne_of_lt (Heap.lt_size e)
    ·obtain⟨ol,hol,hcl,nl,hdl⟩:=hl
     obtain⟨ocls,odict,odata,oslots⟩:=ol
     simp only at hcl hdl
     subst hcl;subst hdl
     have hol':(s.heap.push (setObj #[] 0 (.fresh 0 0 led))).get? l=some { cls:=.type "tuple",dict:=odict,data:=.seq (fs.map fun x=>Value.ref x.2).toArray nl,slots:=oslots }:=Heap.get?_push_of_some _ hol
     have hsls:=F.sub_tuple_set
     have hslf:=F.sub_tuple_frozenset
     have hne:(Value.type "tuple" == Value.type "dict")=false:=by decide
     have hl1:(s.heap.push (setObj #[] 0 (.fresh 0 0 led))).IsTuple l (fs.map fun x=>Value.ref x.2).toArray:=⟨_,hol',rfl,nl,rfl⟩
     have hlt:l<s.heap.objs.size:=Heap.lt_size hol
     unfold Builtin.«set.__init__» noKeywords Builtin.Frozenset.updateFrom
     generalize hPI:pyIter=PI
     wp_walk
     subst hPI
     refine wpAny_pyIter_tuple hl1 (wpAny_bind (wpAny_runValue ?_))
     have up:∀b o,s.heap.get? b=some o→((s.heap.push (setObj #[] 0 (.fresh 0 0 led))).push { cls:=.type "tuple_iterator",data:=.fields #[.ref l,.int 0 0] }).get? b=some o:=fun b o e=>Heap.get?_push_of_some _ (Heap.get?_push_of_some _ e)
     refine bV (I:=(s.heap.push (setObj #[] 0 (.fresh 0 0 led))).objs.size) (S:=s.heap.objs.size) (by simp[hh]) (by first | (show A.units+1+12<cLine;lia) | (show A.units+1+1+12<cLine;lia) | (show A.units+1+1+1+12<cLine;lia) | (show A.units+1+1+1+1+12<cLine;lia)) (lF (l:=l) (by rw[hz];exact Nat.ne_of_lt (Nat.lt_succ_of_lt hlt)) fs) (by rw[hz];simp;exact Nat.ne_of_gt hlt) (by rw[hz];exact Nat.ne_of_lt (Nat.lt_succ_self _)) hU _ 0 _ [] 0 (.fresh 0 0 led) rfl (Nat.zero_le _) ⟨⟨_,Heap.get?_push_size _ rfl,rfl,rfl⟩,hl1.at fun o e=>Heap.get?_push_of_some _ e⟩ (SetF.new (Heap.get?_push_of_some _ hob) hled.symm) (hnew _ _) (fun y=>by simp) (fun x hx=>(nomatch hx)) fun h' tk xs' ep' t' q1 q2 q3 q4=>?_
     show wpAny _ _ _ _ _ _
     refine wpAny_pure (wpAny_pure ⟨rfl,h',tk,xs',ep',t',rfl,q1,q2,q3,fun b o e=>q4 b o ?_ ?_ (up b o e)⟩)
     ·rw[hz];exact Nat.ne_of_lt (Nat.lt_succ_of_lt (Heap.lt_size e))
     ·exact Nat.ne_of_lt (Heap.lt_size e)
   ·cases r₂ with
    | error e=>exact hr₂
    | ok fl₂=>
     cases fl₂ with
     | ret r=>
      obtain⟨rfl,h',tk,xs,ep,t,rfl,q1,q2,q3,q4⟩:=hr₂
      repeat (any_goals (first | assumption | wp_step))
      exact h h' tk xs ep t q1 q2 q3 q4
     | _=>exact hr₂.elim
  | _=>exact hr.elim
end
end PySem
end
section
namespace L2
open PySem PySem.Spec PyProof.Rows
section
variable{X:Cx}
theorem RX{fs:List (FK×Addr)}:∀{its:List Value},Vals (fs.map fun x=>V.ref x.2) its→its=fs.map fun x=>Value.ref x.2:=by
 induction fs with
 | nil=>intro its h;cases h;rfl
 | cons x r ih=>
  intro its h
  cases h with
  | cons a b=>
   cases a
   rw[ih b];rfl
def rSortSFs(K:PySem.W.Frag)(vs:List V)(H1:Hp)(Q:VK):Prop:=∃(a:Addr) (fs:List (FK×Addr)),vs=[V.ref a]∧(SqL K H1 a (fs.map fun x=>V.ref x.2)∨SqT K H1 a (fs.map fun x=>V.ref x.2))∧(∀x∈fs,FlowH K H1 x.1 x.2)∧(∀ys:List FK,ys.Nodup→(∀y∈ys,y∈fs.map (·.1))→ys.length<64)∧(∀x∈fs,∀y∈fs,sameT x.1.2.2 y.1.2.2=true∨x.1.2.1≠y.1.2.1)∧
 ∀(p:Addr) (ys:List (FK×Addr)),H1 p=none→(∀x∈ys,x∈fs)→(∀k,k∈ys.map (·.1)↔k∈fs.map (·.1))→ys.Pairwise (fun x y=>fltB x.1 y.1=true)→Q (.ref p) (upd H1 p (.lst (ys.map fun x=>V.ref x.2)))
def rSortSF(K:PySem.W.Frag)(x:V)(H1:Hp)(Q:VK):Prop:=rSortSFs K [x] H1 Q
theorem Y0{α β:Type}{f:α→β}:∀{l:List β} {xs:List α},l.Perm (xs.map f)→∃gs:List α,gs.Perm xs∧l=gs.map f
 | [],xs,h=>by
  have:xs=[]:=List.map_eq_nil_iff.mp h.symm.eq_nil
  subst this
  exact⟨[],.nil,rfl⟩
 | b::r,xs,h=>by
  obtain⟨x,hx,rfl⟩:=List.mem_map.mp (h.mem_iff.mp List.mem_cons_self)
  obtain⟨s,t,rfl⟩:=List.append_of_mem hx
  have h1:(f x::r).Perm (f x::(s++t).map f):=h.trans ((List.perm_middle (a:=x)).map f)
  obtain⟨gs,g1,g2⟩:=Y0 ((List.perm_cons _).mp h1)
  exact⟨x::gs,(g1.cons x).trans List.perm_middle.symm,by rw[g2];rfl⟩
theorem Y4{e:Expr}{te:TE}{p1 p2 q1 q2:Pos}(hu:X.A.units+20<cLine)(hc:X.calm=true)(hg1:Gl X "sorted")(hm1:X.mg "sorted" = none)(hg2:Gl X "set")(hm2:X.mg "set" = none)(he:PE X e te)
  (hs1:starEach [Expr.Call (.Name "set" p2) [e] [] q2] X.env=[(false,eval (.Call (.Name "set" p2) [e] [] q2) X.env)]:=by rfl) (hs2:starEach [e] X.env=[(false,eval e X.env)]:=by rfl) :
  PE X (.Call (.Name "sorted" p1) [.Call (.Name "set" p2) [e] [] q2] [] q1) (fun σ H Q=>te σ H fun x H1=>rSortSF X.K x H1 Q):=by
 intro pins s σ H Q I h
 refine Call_ (JC I hg1 hm1 boot_sorted (PyProof.Rows.callWith_builtin1 ?_ hs1 rfl))
 have inner:wpAny (model X.prog X.w) X.A (eval (.Call (.Name "set" p2) [e] [] q2) X.env)
   (fun v s1=>∃(S:Addr) (fs xs:List (FK×Addr)) (ep:Nat) (t:SetTable) (H1:Hp),v=.ref S∧Inv X pins σ H1 s1∧SetF X.prog X.w s1.heap S xs ep t∧(∀y,y∈xs.map (·.1)↔y∈fs.map (·.1))∧(∀x∈xs,x∈fs)∧(∀ys:List FK,ys.Nodup→(∀y∈ys,y∈fs.map (·.1))→ys.length<64)∧(∀x∈fs,∀y∈fs,sameT x.1.2.2 y.1.2.2=true∨x.1.2.1≠y.1.2.1)∧
    ∀(p:Addr) (ys:List (FK×Addr)),H1 p=none→(∀x∈ys,x∈fs)→(∀k,k∈ys.map (·.1)↔k∈fs.map (·.1))→ys.Pairwise (fun x y=>fltB x.1 y.1=true)→Q (.ref p) (upd H1 p (.lst (ys.map fun x=>V.ref x.2)))) X.xe s:=by
  refine Call_ (JC I hg2 hm2 boot_set (PyProof.Rows.callWith_type1 (thn (FJ he HD hs2 q2 pins s σ H (fun vs H1=>rSortSFs X.K vs H1 Q) I ?_) fun us s1 ⟨vs,H1,I1,r1,q1⟩=>?_) hs2 rfl))
  ·exact h
  ·obtain⟨a,fs,rfl,hq,hfl,h64,hty,q⟩:=q1
   obtain⟨u,rfl,ru⟩:=r1.one
   cases ru
   have hin:s1.heap.IsList a (fs.map fun x=>Value.ref x.2).toArray∨s1.heap.IsTuple a (fs.map fun x=>Value.ref x.2).toArray:=by
    rcases hq with hq | hq
    ·obtain⟨its,rv,pl,hz⟩:=I1.list hq
     rw[RX rv]at pl
     exact .inl pl.isList
    ·obtain⟨its,rv,pl,hz⟩:=I1.tuple hq
     rw[RX rv]at pl
     exact .inr pl
   refine oY (I1.ok.hd hc) hu hin (fun x hx=>QD I1 (hfl x hx)) h64 fun h' tk xs ep t g1 g2 g3 g4=>?_
   exact⟨_,fs,xs,ep,t,H1,rfl,I1.kept g4,g1,g2,g3,h64,hty,q⟩
 rw[hs1]
 refine Calls.spliced_cons (thn inner fun v s1 hq0=>?_)
 obtain⟨S,fs,xs,ep,t,H1,ev,I1,hS,hm,hsub,h64,hty,q⟩:=hq0
 refine Calls.spliced_nil ?_
 subst ev
 have hz:xs.length<64:=by
  have:=h64 _ hS.nd (fun y hy=>(hm y).mp hy)
  rw[List.length_map]at this
  exact this
 refine Calls.call_function_entry kind_sorted plain_sorted entry_sorted (args_sorted1 _) ?_
 unfold Builtin.«sorted»
 refine wpAny_bind (m:=checkCount "sorted" 1 1 _) (wpAny_pure ?_)
 refine wpAny_bind (aC (A:=X.A.in1) hS.toSetB (by rw[HY];lia) (by have:=I1.ok.hd hc;simp[this]) fun h1 tk d' acc hk1 hperm=>?_)
 have I2:Inv X pins σ H1 { s1 with heap:=h1,toks:=tk,drawn:=d' }:=(I1.kept (t':=tk) hk1).drawn d'
 obtain⟨gs,hgs,hav⟩:∃gs:List (FK×Addr),gs.Perm xs∧acc.toList=gs.map fun x=>Value.ref x.2:=by
  have hp:acc.toList.Perm (xs.map fun x=>Value.ref x.2):=by
   have:(fEs X.prog X.w xs).toList.map (·.2)=xs.map fun x=>Value.ref x.2:=by
    rw[fEs,List.map_map];rfl
   rw[←this];exact hperm
  exact Y0 hp
 have hgl:gs.length=xs.length:=hgs.length_eq
 refine wpAny_bind (wpAny_newList ?_ (by rw[hav,List.length_map,sizeLine_eq];lia))
 rw[hav]
 refine wpAny_bind (wpAny_holding (wpAny_mono (QT (s:={ s1 with heap:=h1,toks:=tk,drawn:=d' }) (fs:=gs) (Q:=Q) I2 hu (fun x hx=>JH (fun b o _ _ e _=>hk1 b o e) (hS.fl x (hgs.mem_iff.mp hx))) ((hgs.map _).nodup_iff.mpr hS.nd) (by lia) (fun x hx y hy=>hty x (hsub x (hgs.mem_iff.mp hx)) y (hsub y (hgs.mem_iff.mp hy))) fun p ys hp hpm hpw=>q p ys hp (fun x hx=>hsub x (hgs.mem_iff.mp (hpm.mem_iff.mp hx))) (fun k=>by rw[((hpm.trans hgs).map _).mem_iff];exact hm k) hpw) (fun _ s' x=>?_) fun _ _ e=>e))
 exact wpAny_pure ⟨_,rfl,x⟩
end
end L2
end
section
namespace WL
open PySem PySem.Spec PyProof.Rows L2
theorem uf_any{x:FK}{r:List FK}:r.any (fun y=>decide (y=x))=true↔x∈r:=by
 rw[List.any_eq_true]
 exact⟨fun⟨y,hy,e⟩=>of_decide_eq_true e▸hy,fun h=>⟨x,h,decide_eq_true rfl⟩⟩
theorem uf_mem{x:FK}:∀{l:List FK},x∈uniqF l↔x∈l
 | []=>by simp[uniqF]
 | y::r=>by
  rw[uniqF]
  by_cases h:y∈r
  ·rw[if_pos (uf_any.mpr h),uf_mem,List.mem_cons]
   exact⟨.inr,fun q=>q.elim (fun e=>e▸h) id⟩
  ·rw[if_neg fun q=>h (uf_any.mp q),List.mem_cons,List.mem_cons,uf_mem]
theorem gY:∀l:List FK,(uniqF l).Nodup
 | []=>List.nodup_nil
 | y::r=>by
  rw[uniqF]
  by_cases h:y∈r
  ·rw[if_pos (uf_any.mpr h)];exact gY r
  ·rw[if_neg fun q=>h (uf_any.mp q)];exact List.nodup_cons.mpr ⟨fun q=>h (uf_mem.mp q),gY r⟩
theorem qU{y z:FK}(h1:okFK y=true)(h2:okFK z=true):sameT y.2.2 z.2.2=true∨y.2.1≠z.2.1:=by
 by_cases q:y.2.1=z.2.1
 ·refine .inl ?_
  unfold okFK at h1 h2
  rw[q]at h1
  cases hy2:y.2.2<;>cases hz2:z.2.2<;>simp only[hy2,hz2]at h1 h2<;>first | rfl | (exfalso;simp_all)
 ·exact .inr q
theorem YT{K:PySem.W.Frag}{ρ:List Addr}{H:Hp}:∀{ds:List D} {ks:List FK} {vs:List V},fksOf ds=some ks→Ats K ρ H ds vs→∃fs:List (FK×Addr),fs.map (·.1)=ks∧vs=(fs.map fun x=>V.ref x.2)∧(∀x∈fs,FlowH K H x.1 x.2)∧∀x∈fs,At K ρ H (fD x.1) (.ref x.2)
 | [],ks,vs,e,as=>by
  cases e
  cases (show vs=[] from as)
  exact⟨[],rfl,rfl,fun x hx=>(nomatch hx),fun x hx=>(nomatch hx)⟩
 | d::r,ks,vs,e,as=>by
  obtain⟨k,e1,e⟩:=Option.bind_eq_some_iff.mp (show ((fkD d).bind fun k=>(fksOf r).map fun ks=>k::ks)=some ks from e)
  obtain⟨ks',e2,rfl⟩:=Option.map_eq_some_iff.mp e
  obtain⟨v,us,rfl,a1,a2⟩:=as
  have hd:=lK e1
  subst hd
  obtain⟨b,rfl,hb⟩:=QF a1
  obtain⟨fs,g1,rfl,g3,g4⟩:=YT e2 a2
  refine⟨(k,b)::fs,by rw[List.map_cons,g1],rfl,fun x hx=>?_,fun x hx=>?_⟩
  ·rcases List.mem_cons.mp hx with rfl | hx
   ·exact hb
   ·exact g3 x hx
  ·rcases List.mem_cons.mp hx with rfl | hx
   ·exact a1
   ·exact g4 x hx
section
variable{C:String→List D→Mem→Option (D×Mem)}{X:Cx}{a:Expr}{pa:Ex}
theorem XF{mu:Bool}{p1 p2 q1 q2:Pos}(hu:X.A.units+20<cLine)(hc:X.calm=true)(hg1:Gl X "sorted")(hm1:X.mg "sorted" = none)(hg2:Gl X "set")(hm2:X.mg "set" = none)(ha:PE X a (tD C X.K pa))
  (hs1:starEach [Expr.Call (.Name "set" p2) [a] [] q2] X.env=[(false,eval (.Call (.Name "set" p2) [a] [] q2) X.env)]:=by rfl) (hs2:starEach [a] X.env=[(false,eval a X.env)]:=by rfl) :
  PE X (.Call (.Name "sorted" p1) [.Call (.Name "set" p2) [a] [] q2] [] q1) (tD C X.K (.b1 (.sortedSF mu) pa)):=
 aN (r:=fun x H1 Q=>rSortSF X.K x H1 Q) (f:=b1D (.sortedSF mu)) (Y4 hu hc hg1 hm1 hg2 hm2 ha hs1 hs2) (by
  intro ρ m m' H dx d x Q M ax e q
  obtain⟨xs,e1,e⟩:=Option.bind_eq_some_iff.mp (show ((seqOf dx m).bind fun xs=>(fksOf xs).bind fun ks=>if (uniqF ks).length<64∧ks.all okFK=true then some (mkL mu ((sortF (uniqF ks)).map fD) m) else none)=some (d,m') from e)
  obtain⟨ks,e2,e⟩:=Option.bind_eq_some_iff.mp e
  by_cases h:(uniqF ks).length<64∧ks.all okFK=true
  ·rw[if_pos h]at e
   have e':mkL mu ((sortF (uniqF ks)).map fD) m=(d,m'):=Option.some.inj e
   obtain⟨p,vs,rfl,hq,as⟩:=aJ M ax e1
   obtain⟨fs,g1,rfl,g3,g4⟩:=YT e2 as
   have ok:=List.all_eq_true.mp h.2
   refine⟨p,fs,rfl,hq,g3,fun ys hn hm=>?_,fun y hy z hz=>qU (ok y.1 (by rw[←g1];exact List.mem_map_of_mem hy)) (ok z.1 (by rw[←g1];exact List.mem_map_of_mem hz)),fun p' ys hp hsub hm hpw=>?_⟩
   ·refine Nat.lt_of_le_of_lt (hn.length_le_of_subset fun y hy=>uf_mem.mpr ?_) h.1
    rw[←g1];exact hm y hy
   ·have hpw':(ys.map (·.1)).Pairwise (fun a b=>fltB a b=true):=by rw[List.pairwise_map];exact hpw
    have hnd:(ys.map (·.1)).Nodup:=hpw'.imp fun q z=>by rw[z,flt_sto.irr]at q;cases q
    have hys:ys.map (·.1)=sortF (uniqF ks):=X6 ((List.perm_ext_iff_of_nodup hnd (gY ks)).mpr fun k=>by rw[uf_mem,←g1];exact hm k) hpw'
    have q':Beh X.K ρ H (mkL mu ((sortF (uniqF ks)).map fD) m).1 (mkL mu ((sortF (uniqF ks)).map fD) m).2 Q:=by rw[e'];exact q
    refine q'.lst M ?_ hp
    rw[←hys,List.map_map]
    have:∀l:List (FK×Addr),(∀z∈l,z∈fs)→Ats X.K ρ H (l.map (fD∘(·.1))) (l.map fun x=>V.ref x.2):=fun l=>by
     induction l with
     | nil=>exact fun _=>rfl
     | cons z r ih=>exact fun hl=>⟨_,_,rfl,g4 z (hl z List.mem_cons_self),ih fun y hy=>hl y (List.mem_cons_of_mem _ hy)⟩
    exact this ys hsub
  ·rw[if_neg h]at e
   cases e) fun _ _=>rfl
end
end WL
end
section
namespace T
open PySem L2 WL
noncomputable def b_qcell:Sms:=(.cons (.ite (.val (.cmp .lt (.var 1) (.b1 .len (.var 0)))) (.cons (.ret (.ix (.var 0) (.var 1))) .nil) .nil) (.cons (.ret (.con (.int 0))) .nil))
noncomputable def F_qcell:Fn:=⟨2,2,b_qcell⟩
noncomputable def b_qmix:Sms:=(.cons (.ret (.bin .mod (.bin .mod (.bin .mul (.var 0) (.con (.int 48271))) (.var 1)) (.var 2))) .nil)
noncomputable def F_qmix:Fn:=⟨3,3,b_qmix⟩
noncomputable def b_qname:Sms:=(.cons (.set 2 (.con (.str (Str.ofString "abcdefghijklmnopqrstuvwxyz")))) (.cons (.set 3 (.call "_law_cell" (.cons (.var 0) (.cons (.con (.int 0)) .nil)))) (.cons (.set 4 (.ix (.var 2) (.bin .mod (.bin .add (.call "_law_mix" (.cons (.var 3) (.cons (.con (.int 9949)) (.cons (.con (.int 26)) .nil)))) (.bin .mul (.con (.int 5)) (.var 1))) (.con (.int 26))))) (.cons (.set 5 (.join (.con (.str (Str.ofString ""))) (.comp false 1 (.nm 7) (.rng (.call "_law_mix" (.cons (.var 3) (.cons (.con (.int 9931)) (.cons (.con (.int 3)) .nil))))) .tt (.ix (.var 2) (.call "_law_mix" (.cons (.bin .add (.var 3) (.bin .mul (.con (.int 3)) (.var 7))) (.cons (.con (.int 9941)) (.cons (.con (.int 26)) .nil)))))))) (.cons (.set 6 (.call "_law_mix" (.cons (.var 3) (.cons (.con (.int 9929)) (.cons (.bin .add (.b1 .len (.var 5)) (.con (.int 1))) .nil))))) (.cons (.ret (.bin .add (.bin .add (.sl (.var 5) .no (.pt (.var 6))) (.var 4)) (.sl (.var 5) (.pt (.var 6)) .no))) .nil))))))
noncomputable def F_qname:Fn:=⟨2,7,b_qname⟩
noncomputable def b_qnames:Sms:=(.cons (.ret (.comp false 1 (.nm 1) (.rng (.con (.int 4))) .tt (.call "_law_name" (.cons (.var 0) (.cons (.var 1) .nil))))) .nil)
noncomputable def F_qnames:Fn:=⟨1,1,b_qnames⟩
noncomputable def b_qlevels:Sms:=(.cons (.ret (.lst false (.cons (.con (.int 0)) (.cons (.con (.int 2)) (.cons (.call "_law_mix" (.cons (.call "_law_cell" (.cons (.var 0) (.cons (.con (.int 1)) .nil))) (.cons (.con (.int 9923)) (.cons (.con (.int 3)) .nil)))) (.cons (.call "_law_mix" (.cons (.call "_law_cell" (.cons (.var 0) (.cons (.con (.int 1)) .nil))) (.cons (.con (.int 9907)) (.cons (.con (.int 3)) .nil)))) .nil)))))) .nil)
noncomputable def F_qlevels:Fn:=⟨1,1,b_qlevels⟩
noncomputable def b_qterm:Sms:=(.cons (.set 3 (.call "_law_mix" (.cons (.var 1) (.cons (.con (.int 9901)) (.cons (.con (.int 9)) .nil))))) (.cons (.ite (.or (.val (.cmp .eq (.var 2) (.con (.int 0)))) (.val (.cmp .lt (.var 3) (.con (.int 3))))) (.cons (.ite (.val (.cmp .eq (.bin .mod (.var 3) (.con (.int 3))) (.con (.int 0)))) (.cons (.ret (.tup (.cons (.con (.str (Str.ofString "number"))) (.cons (.call "_law_mix" (.cons (.var 1) (.cons (.con (.int 9887)) (.cons (.con (.int 997)) .nil)))) .nil)))) .nil) .nil) (.cons (.ret (.tup (.cons (.con (.str (Str.ofString "name"))) (.cons (.ix (.var 0) (.call "_law_mix" (.cons (.var 1) (.cons (.con (.int 9883)) (.cons (.con (.int 4)) .nil))))) .nil)))) .nil)) .nil) (.cons (.set 4 (.call "_law_term" (.cons (.var 0) (.cons (.bin .add (.bin .mul (.var 1) (.con (.int 3))) (.con (.int 1))) (.cons (.bin .sub (.var 2) (.con (.int 1))) .nil))))) (.cons (.ret (.tup (.cons (.ix (.lst false (.cons (.con (.str (Str.ofString "sum"))) (.cons (.con (.str (Str.ofString "times"))) (.cons (.con (.str (Str.ofString "less"))) .nil)))) (.bin .mod (.var 3) (.con (.int 3)))) (.cons (.var 4) (.cons (.call "_law_term" (.cons (.var 0) (.cons (.bin .add (.bin .mul (.var 1) (.con (.int 5))) (.con (.int 2))) (.cons (.bin .sub (.var 2) (.con (.int 1))) .nil)))) .nil))))) .nil))))
noncomputable def F_qterm:Fn:=⟨3,5,b_qterm⟩
noncomputable def b_qnames_in:Sms:=(.cons (.ite (.val (.cmp .eq (.ix (.var 0) (.con (.int 0))) (.con (.str (Str.ofString "name"))))) (.cons (.ret (.lst false (.cons (.ix (.var 0) (.con (.int 1))) .nil))) .nil) .nil) (.cons (.ite (.val (.cmp .eq (.ix (.var 0) (.con (.int 0))) (.con (.str (Str.ofString "number"))))) (.cons (.ret (.lst false .nil)) .nil) .nil) (.cons (.ret (.cat false (.call "_law_names_in" (.cons (.ix (.var 0) (.con (.int 1))) .nil)) (.call "_law_names_in" (.cons (.ix (.var 0) (.con (.int 2))) .nil)))) .nil)))
noncomputable def F_qnames_in:Fn:=⟨1,1,b_qnames_in⟩
noncomputable def b_qdeed:Sms:=(.cons (.asg (.tp [(.nm 4),(.nm 5),(.nm 6)]) (.var 0)) (.cons (.set 7 (.call "_law_term" (.cons (.var 4) (.cons (.var 1) (.cons (.bin .add (.con (.int 1)) (.bin .mod (.var 1) (.con (.int 2)))) .nil))))) (.cons (.set 8 (.b1 .max (.cat false (.comp false 1 (.nm 14) (.seq (.call "_law_names_in" (.cons (.var 7) .nil))) .tt (.ix (.var 5) (.index (.var 4) (.var 14)))) (.lst false (.cons (.var 3) .nil))))) (.cons (.set 9 (.call "_law_mix" (.cons (.var 1) (.cons (.con (.int 9871)) (.cons (.con (.int 9)) .nil))))) (.cons (.ite (.and (.val (.cmp .gt (.var 2) (.con (.int 0)))) (.val (.cmp .lt (.var 9) (.con (.int 2))))) (.cons (.set 10 (.call "_law_block" (.cons (.var 0) (.cons (.bin .add (.bin .mul (.var 1) (.con (.int 3))) (.con (.int 1))) (.cons (.bin .sub (.var 2) (.con (.int 1))) (.cons (.var 8) .nil)))))) (.cons (.ret (.tup (.cons (.con (.str (Str.ofString "if"))) (.cons (.var 7) (.cons (.var 10) (.cons (.call "_law_block" (.cons (.var 0) (.cons (.bin .add (.bin .mul (.var 1) (.con (.int 5))) (.con (.int 2))) (.cons (.bin .sub (.var 2) (.con (.int 1))) (.cons (.var 8) .nil))))) .nil)))))) .nil)) .nil) (.cons (.ite (.and (.val (.cmp .gt (.var 2) (.con (.int 0)))) (.and (.val (.cmp .lt (.var 9) (.con (.int 4)))) (.or (.val (.cmp .eq (.var 3) (.con (.int 0)))) (.not (.val (.var 6)))))) (.cons (.set 11 (.tup (.cons (.con (.str (Str.ofString "put"))) (.cons (.ix (.var 4) (.con (.int 0))) (.cons (.tup (.cons (.con (.str (Str.ofString "sum"))) (.cons (.tup (.cons (.con (.str (Str.ofString "name"))) (.cons (.ix (.var 4) (.con (.int 0))) .nil))) (.cons (.tup (.cons (.con (.str (Str.ofString "number"))) (.cons (.con (.int 1)) .nil))) .nil)))) .nil))))) (.cons (.set 12 (.call "_law_block" (.cons (.var 0) (.cons (.bin .add (.bin .mul (.var 1) (.con (.int 3))) (.con (.int 1))) (.cons (.bin .sub (.var 2) (.con (.int 1))) (.cons (.var 3) .nil)))))) (.cons (.ite (.val (.var 6)) (.cons (.set 7 (.tup (.cons (.con (.str (Str.ofString "less"))) (.cons (.tup (.cons (.con (.str (Str.ofString "name"))) (.cons (.ix (.var 4) (.con (.int 0))) .nil))) (.cons (.tup (.cons (.con (.str (Str.ofString "number"))) (.cons (.call "_law_mix" (.cons (.var 1) (.cons (.con (.int 9859)) (.cons (.con (.int 6)) .nil)))) .nil))) .nil))))) .nil) .nil) (.cons (.ret (.tup (.cons (.con (.str (Str.ofString "while"))) (.cons (.var 7) (.cons (.bin .add (.var 12) (.tup (.cons (.var 11) .nil))) .nil))))) .nil)))) .nil) (.cons (.set 13 (.comp false 1 (.nm 14) (.rng (.con (.int 4))) (.or (.val (.cmp .ge (.ix (.var 5) (.var 14)) (.var 8))) (.not (.val (.var 6)))) (.var 14))) (.cons (.ite (.and (.val (.cmp .lt (.var 9) (.con (.int 7)))) (.val (.var 13))) (.cons (.ret (.tup (.cons (.con (.str (Str.ofString "put"))) (.cons (.ix (.var 4) (.ix (.var 13) (.call "_law_mix" (.cons (.var 1) (.cons (.con (.int 9857)) (.cons (.b1 .len (.var 13)) .nil)))))) (.cons (.var 7) .nil))))) .nil) .nil) (.cons (.ret (.tup (.cons (.con (.str (Str.ofString "show"))) (.cons (.max2 (.call "_law_mix" (.cons (.var 1) (.cons (.con (.int 9851)) (.cons (.con (.int 3)) .nil)))) (.bin .mul (.var 8) (.b1 .int (.var 6)))) (.cons (.var 7) .nil))))) .nil)))))))))
noncomputable def F_qdeed:Fn:=⟨4,14,b_qdeed⟩
noncomputable def b_qblock:Sms:=(.cons (.set 4 (.bin .add (.con (.int 1)) (.call "_law_mix" (.cons (.var 1) (.cons (.con (.int 9839)) (.cons (.con (.int 2)) .nil)))))) (.cons (.ret (.b1 .tuple (.comp false 1 (.nm 5) (.rng (.var 4)) .tt (.call "_law_deed" (.cons (.var 0) (.cons (.bin .add (.bin .mul (.var 1) (.con (.int 7))) (.bin .mul (.con (.int 11)) (.var 5))) (.cons (.var 2) (.cons (.var 3) .nil)))))))) .nil))
noncomputable def F_qblock:Fn:=⟨4,5,b_qblock⟩
noncomputable def b_qprogram:Sms:=(.cons (.set 2 (.cmp .gt (.call "_law_mix" (.cons (.call "_law_cell" (.cons (.var 0) (.cons (.con (.int 0)) .nil))) (.cons (.con (.int 9833)) (.cons (.con (.int 4)) .nil)))) (.con (.int 0)))) (.cons (.set 3 (.tup (.cons (.call "_law_names" (.cons (.var 0) .nil)) (.cons (.call "_law_levels" (.cons (.var 0) .nil)) (.cons (.var 2) .nil))))) (.cons (.set 4 (.sl (.var 0) (.pt (.var 1)) (.pt (.bin .add (.bin .add (.var 1) (.con (.int 1))) (.bin .mod (.call "_law_cell" (.cons (.var 0) (.cons (.con (.int 0)) .nil))) (.con (.int 3))))))) (.cons (.ret (.b1 .tuple (.comp false 1 (.nm 5) (.seq (.var 4)) .tt (.call "_law_deed" (.cons (.var 3) (.cons (.var 5) (.cons (.con (.int 2)) (.cons (.con (.int 0)) .nil)))))))) .nil))))
noncomputable def F_qprogram:Fn:=⟨2,5,b_qprogram⟩
noncomputable def b_qstore:Sms:=(.cons (.set 2 (.lst true .nil)) (.cons (.fr (.tp [(.nm 3),(.nm 4)]) (.enum (.call "_law_names" (.cons (.var 0) .nil))) (.cons (.set 5 (.call "_law_mix" (.cons (.bin .add (.call "_law_cell" (.cons (.var 0) (.cons (.var 1) .nil))) (.bin .mul (.con (.int 13)) (.var 3))) (.cons (.con (.int 9829)) (.cons (.con (.int 997)) .nil))))) (.cons (.ite (.val (.cmp .eq (.bin .mod (.call "_law_cell" (.cons (.var 0) (.cons (.var 1) .nil))) (.con (.int 4))) (.con (.int 0)))) (.cons (.set 5 (.bin .mod (.var 5) (.con (.int 3)))) .nil) .nil) (.cons (.drop (.app (.var 2) (.tup (.cons (.var 4) (.cons (.var 5) .nil))))) .nil)))) (.cons (.ret (.b1 .tuple (.b1 (.sorted false) (.var 2)))) .nil)))
noncomputable def F_qstore:Fn:=⟨2,6,b_qstore⟩
end T
end
section
namespace T
open PySem L2 WL
end T
end
section
namespace T
open PySem L2 WL
noncomputable def g_PAIRING:D:=.tup [.str (Str.ofString "sum"),.str (Str.ofString "times"),.str (Str.ofString "less")]
noncomputable def b_names_of:Sms:=(.cons (.set 1 (.dic true [] .nil)) (.cons (.set 2 (.b1 (.list true) (.var 0))) (.cons (.whl (.val (.var 2)) (.cons (.set 3 (.pop (.var 2))) (.cons (.ite (.val (.cmp .isin (.ix (.var 3) (.con (.int 0))) (.tup (.cons (.con (.str (Str.ofString "name"))) (.cons (.con (.str (Str.ofString "put"))) .nil))))) (.cons (.put (.var 1) (.ix (.var 3) (.con (.int 1))) (.con (.bl true))) .nil) .nil) (.cons (.drop (.ext (.var 2) (.call "parts_of" (.cons (.var 3) .nil)))) .nil)))) (.cons (.ret (.b1 .tuple (.b1 (.sortedD false) (.var 1)))) .nil))))
noncomputable def F_names_of:Fn:=⟨1,4,b_names_of⟩
noncomputable def b_names_in_term:Sms:=(.cons (.ret (.call "names_of" (.cons (.tup (.cons (.var 0) .nil)) .nil))) .nil)
noncomputable def F_names_in_term:Fn:=⟨1,1,b_names_in_term⟩
noncomputable def b_parts_of:Sms:=(.cons (.set 1 (.ix (.var 0) (.con (.int 0)))) (.cons (.ite (.val (.cmp .isin (.var 1) (.tup (.cons (.con (.str (Str.ofString "number"))) (.cons (.con (.str (Str.ofString "name"))) .nil))))) (.cons (.ret (.tup .nil)) .nil) .nil) (.cons (.ite (.val (.cmp .isin (.var 1) (.con g_PAIRING))) (.cons (.ret (.sl (.var 0) (.pt (.con (.int 1))) .no)) .nil) .nil) (.cons (.ite (.val (.cmp .isin (.var 1) (.tup (.cons (.con (.str (Str.ofString "put"))) (.cons (.con (.str (Str.ofString "show"))) .nil))))) (.cons (.ret (.sl (.var 0) (.pt (.con (.int 2))) .no)) .nil) .nil) (.cons (.ite (.val (.cmp .eq (.var 1) (.con (.str (Str.ofString "if"))))) (.cons (.ret (.bin .add (.bin .add (.tup (.cons (.ix (.var 0) (.con (.int 1))) .nil)) (.ix (.var 0) (.con (.int 2)))) (.ix (.var 0) (.con (.int 3))))) .nil) .nil) (.cons (.ret (.bin .add (.tup (.cons (.ix (.var 0) (.con (.int 1))) .nil)) (.ix (.var 0) (.con (.int 2))))) .nil))))))
noncomputable def F_parts_of:Fn:=⟨1,2,b_parts_of⟩
noncomputable def b_qhouse:Sms:=(.cons (.set 1 (.lzip false (.call "_law_names" (.cons (.var 0) .nil)) (.call "_law_levels" (.cons (.var 0) .nil)))) (.cons (.ite (.val (.cmp .eq (.bin .mod (.call "_law_cell" (.cons (.var 0) (.cons (.con (.int 1)) .nil))) (.con (.int 3))) (.con (.int 0)))) (.cons (.set 1 (.comp false 1 (.nm 2) (.seq (.var 1)) (.val (.cmp .gt (.ix (.var 2) (.con (.int 1))) (.con (.int 0)))) (.var 2))) .nil) .nil) (.cons (.ret (.b1 .tuple (.b1 (.sorted false) (.var 1)))) .nil)))
noncomputable def F_qhouse:Fn:=⟨1,2,b_qhouse⟩
end T
end
section
namespace T
open PySem L2 WL
end T
end
section
namespace T
open PySem L2 WL
end T
end
section
namespace T
open PySem L2 WL
noncomputable def b_flows:Sms:=(.cons (.set 1 .fdic) (.cons (.drop (.call "gather_flows" (.cons (.var 0) (.cons (.tup .nil) (.cons (.var 1) .nil))))) (.cons (.ret (.b1 .tuple (.b1 (.sortedF false) (.var 1)))) .nil)))
noncomputable def F_flows:Fn:=⟨1,2,b_flows⟩
noncomputable def b_lets:Sms:=(.cons (.set 2 (.b1 (.dict false) (.var 1))) (.cons (.ret (.b1 .all (.comp false 2 (.tp [(.nm 3),(.nm 4)]) (.seq (.call "flows" (.cons (.var 0) .nil))) .tt (.cmp .le (.get (.var 2) (.var 3) (.con (.int 0))) (.call "level_of" (.cons (.var 4) (.cons (.var 2) .nil))))))) .nil))
noncomputable def F_lets:Fn:=⟨2,3,b_lets⟩
noncomputable def b_seen:Sms:=(.cons (.set 3 (.b1 (.dict false) (.var 1))) (.cons (.ret (.b1 .tuple (.comp false 1 (.nm 4) (.seq (.var 0)) (.val (.cmp .le (.get (.var 3) (.ix (.var 4) (.con (.int 0))) (.con (.int 0))) (.var 2))) (.var 4)))) .nil))
noncomputable def F_seen:Fn:=⟨3,4,b_seen⟩
noncomputable def b_gather_flows:Sms:=(.cons (.fr (.nm 3) (.seq (.var 0)) (.cons (.set 4 (.ix (.var 3) (.con (.int 0)))) (.cons (.ite (.val (.cmp .eq (.var 4) (.con (.str (Str.ofString "if"))))) (.cons (.set 5 (.bin .add (.var 1) (.call "names_in_term" (.cons (.ix (.var 3) (.con (.int 1))) .nil)))) (.cons (.drop (.call "gather_flows" (.cons (.ix (.var 3) (.con (.int 2))) (.cons (.var 5) (.cons (.var 2) .nil))))) (.cons (.drop (.call "gather_flows" (.cons (.ix (.var 3) (.con (.int 3))) (.cons (.var 5) (.cons (.var 2) .nil))))) .nil))) (.cons (.ite (.val (.cmp .eq (.var 4) (.con (.str (Str.ofString "while"))))) (.cons (.drop (.call "add_flows" (.cons (.bin .add (.var 1) (.call "names_in_term" (.cons (.ix (.var 3) (.con (.int 1))) .nil))) (.cons (.tup (.cons (.con (.str (Str.ofString "page"))) (.cons (.con (.int 0)) .nil))) (.cons (.var 2) .nil))))) (.cons (.drop (.call "gather_flows" (.cons (.ix (.var 3) (.con (.int 2))) (.cons (.var 1) (.cons (.var 2) .nil))))) .nil)) (.cons (.ite (.val (.cmp .eq (.var 4) (.con (.str (Str.ofString "put"))))) (.cons (.drop (.call "add_flows" (.cons (.bin .add (.var 1) (.call "names_in_term" (.cons (.ix (.var 3) (.con (.int 2))) .nil))) (.cons (.tup (.cons (.con (.str (Str.ofString "name"))) (.cons (.ix (.var 3) (.con (.int 1))) .nil))) (.cons (.var 2) .nil))))) .nil) (.cons (.drop (.call "add_flows" (.cons (.bin .add (.var 1) (.call "names_in_term" (.cons (.ix (.var 3) (.con (.int 2))) .nil))) (.cons (.tup (.cons (.con (.str (Str.ofString "page"))) (.cons (.ix (.var 3) (.con (.int 1))) .nil))) (.cons (.var 2) .nil))))) .nil)) .nil)) .nil)) .nil))) .nil)
noncomputable def F_gather_flows:Fn:=⟨3,6,b_gather_flows⟩
noncomputable def b_add_flows:Sms:=(.cons (.fr (.nm 3) (.seq (.var 0)) (.cons (.fput (.var 2) (.tup (.cons (.var 3) (.cons (.var 1) .nil)))) .nil)) .nil)
noncomputable def F_add_flows:Fn:=⟨3,4,b_add_flows⟩
noncomputable def b_level_of:Sms:=(.cons (.ite (.val (.cmp .eq (.ix (.var 0) (.con (.int 0))) (.con (.str (Str.ofString "page"))))) (.cons (.ret (.ix (.var 0) (.con (.int 1)))) .nil) .nil) (.cons (.ret (.get (.var 1) (.ix (.var 0) (.con (.int 1))) (.con (.int 0)))) .nil))
noncomputable def F_level_of:Fn:=⟨2,2,b_level_of⟩
end T
end
section
namespace T
open PySem L2 WL
noncomputable def b_qflows:Sms:=(.cons (.set 2 (.lst true .nil)) (.cons (.fr (.nm 3) (.seq (.var 0)) (.cons (.ite (.val (.cmp .eq (.ix (.var 3) (.con (.int 0))) (.con (.str (Str.ofString "put"))))) (.cons (.drop (.ext (.var 2) (.comp false 1 (.nm 5) (.seq (.cat false (.var 1) (.call "_law_names_in" (.cons (.ix (.var 3) (.con (.int 2))) .nil)))) .tt (.tup (.cons (.var 5) (.cons (.tup (.cons (.con (.str (Str.ofString "name"))) (.cons (.ix (.var 3) (.con (.int 1))) .nil))) .nil)))))) .nil) .nil) (.cons (.ite (.val (.cmp .eq (.ix (.var 3) (.con (.int 0))) (.con (.str (Str.ofString "show"))))) (.cons (.drop (.ext (.var 2) (.comp false 1 (.nm 5) (.seq (.cat false (.var 1) (.call "_law_names_in" (.cons (.ix (.var 3) (.con (.int 2))) .nil)))) .tt (.tup (.cons (.var 5) (.cons (.tup (.cons (.con (.str (Str.ofString "page"))) (.cons (.ix (.var 3) (.con (.int 1))) .nil))) .nil)))))) .nil) .nil) (.cons (.ite (.val (.cmp .eq (.ix (.var 3) (.con (.int 0))) (.con (.str (Str.ofString "while"))))) (.cons (.drop (.ext (.var 2) (.comp false 1 (.nm 5) (.seq (.cat false (.var 1) (.call "_law_names_in" (.cons (.ix (.var 3) (.con (.int 1))) .nil)))) .tt (.tup (.cons (.var 5) (.cons (.tup (.cons (.con (.str (Str.ofString "page"))) (.cons (.con (.int 0)) .nil))) .nil)))))) (.cons (.drop (.ext (.var 2) (.call "_law_flows" (.cons (.ix (.var 3) (.con (.int 2))) (.cons (.var 1) .nil))))) .nil)) .nil) (.cons (.ite (.val (.cmp .eq (.ix (.var 3) (.con (.int 0))) (.con (.str (Str.ofString "if"))))) (.cons (.set 4 (.cat false (.var 1) (.call "_law_names_in" (.cons (.ix (.var 3) (.con (.int 1))) .nil)))) (.cons (.drop (.ext (.var 2) (.cat false (.call "_law_flows" (.cons (.ix (.var 3) (.con (.int 2))) (.cons (.var 4) .nil))) (.call "_law_flows" (.cons (.ix (.var 3) (.con (.int 3))) (.cons (.var 4) .nil)))))) .nil)) .nil) .nil))))) (.cons (.ret (.b1 (.sortedSF false) (.var 2))) .nil)))
noncomputable def F_qflows:Fn:=⟨2,5,b_qflows⟩
noncomputable def b_qgoal:Sms:=(.cons (.ite (.val (.cmp .eq (.ix (.var 0) (.con (.int 0))) (.con (.str (Str.ofString "page"))))) (.cons (.ret (.ix (.var 0) (.con (.int 1)))) .nil) .nil) (.cons (.ret (.get (.var 1) (.ix (.var 0) (.con (.int 1))) (.con (.int 0)))) .nil))
noncomputable def F_qgoal:Fn:=⟨2,2,b_qgoal⟩
end T
end
section
namespace T
open PySem L2 WL
noncomputable def b_law:Sms:=(.cons (.set 1 (.call "_law_program" (.cons (.var 0) (.cons (.con (.int 2)) .nil)))) (.cons (.set 2 (.call "_law_house" (.cons (.var 0) .nil))) (.cons (.set 3 (.call "_law_names" (.cons (.var 0) .nil))) (.cons (.set 4 (.b1 .tuple (.b1 (.sorted false) (.comp false 1 (.nm 11) (.rng2 (.con (.int 1)) (.con (.int 4))) .tt (.tup (.cons (.ix (.var 3) (.var 11)) (.cons (.call "_law_mix" (.cons (.bin .add (.call "_law_cell" (.cons (.var 0) (.cons (.con (.int 6)) .nil))) (.bin .mul (.con (.int 7)) (.var 11))) (.cons (.con (.int 9803)) (.cons (.con (.int 3)) .nil)))) .nil))))))) (.cons (.set 5 (.call "_law_store" (.cons (.var 0) (.cons (.con (.int 5)) .nil)))) (.cons (.fr (.nm 6) (.seq (.lst false (.cons (.var 2) (.cons (.var 4) (.cons (.tup .nil) .nil))))) (.cons (.set 7 (.b1 (.dict false) (.var 6))) (.cons (.set 8 (.b1 .all (.comp false 1 (.nm 11) (.seq (.call "_law_flows" (.cons (.var 1) (.cons (.lst false .nil) .nil)))) .tt (.cmp .le (.get (.var 7) (.ix (.var 11) (.con (.int 0))) (.con (.int 0))) (.call "_law_goal" (.cons (.ix (.var 11) (.con (.int 1))) (.cons (.var 7) .nil))))))) (.cons (.set 9 (.call "lets" (.cons (.var 1) (.cons (.var 6) .nil)))) (.cons (.ite (.or (.not (.val (.b1 .isBool (.var 9)))) (.val (.cmp .ne (.var 9) (.var 8)))) (.cons (.ret (.con (.bl false))) .nil) .nil) (.cons (.fr (.nm 10) (.rng (.con (.int 3))) (.cons (.ite (.val (.cmp .ne (.call "seen" (.cons (.var 5) (.cons (.var 6) (.cons (.var 10) .nil)))) (.b1 .tuple (.comp false 1 (.nm 11) (.seq (.var 5)) (.val (.cmp .le (.get (.var 7) (.ix (.var 11) (.con (.int 0))) (.con (.int 0))) (.var 10))) (.var 11))))) (.cons (.ret (.con (.bl false))) .nil) .nil) .nil)) .nil)))))) (.cons (.ret (.orv (.call "lets" (.cons (.var 1) (.cons (.var 2) .nil))) (.cmp .eq (.call "_law_mix" (.cons (.call "_law_cell" (.cons (.var 0) (.cons (.con (.int 0)) .nil))) (.cons (.con (.int 9833)) (.cons (.con (.int 4)) .nil)))) (.con (.int 0))))) .nil)))))))
noncomputable def F_law:Fn:=⟨1,11,b_law⟩
end T
end
section
namespace T
open PySem L2 WL PySem.Spec PyProof.Rows
noncomputable def top(i:Nat):Stmt:=PySem.Challenge.pw_whisperwall_k05_what_is_let.main.body.getD i (.Pass ⟨0,0,0,0⟩)
noncomputable def Γ:String→Option Fn:=fun f=>List.lookup f [("names_of",F_names_of),("names_in_term",F_names_in_term),("parts_of",F_parts_of),("flows",F_flows),("lets",F_lets),("seen",F_seen),("gather_flows",F_gather_flows),("add_flows",F_add_flows),("level_of",F_level_of),("_law_cell",F_qcell),("_law_mix",F_qmix),("_law_name",F_qname),("_law_names",F_qnames),("_law_levels",F_qlevels),("_law_house",F_qhouse),("_law_term",F_qterm),("_law_names_in",F_qnames_in),("_law_deed",F_qdeed),("_law_block",F_qblock),("_law_program",F_qprogram),("_law_store",F_qstore),("_law_flows",F_qflows),("_law_goal",F_qgoal),("law",F_law)]
structure Tp(K:PySem.W.Frag)(mg:Str→Option Value):Prop where
 m_all:mg "all" = none
 m_bool:mg "bool" = none
 m_dict:mg "dict" = none
 m_enumerate:mg "enumerate" = none
 m_int:mg "int" = none
 m_isinstance:mg "isinstance" = none
 m_len:mg "len" = none
 m_list:mg "list" = none
 m_max:mg "max" = none
 m_range:mg "range" = none
 m_set:mg "set" = none
 m_sorted:mg "sorted" = none
 m_tuple:mg "tuple" = none
 m_zip:mg "zip" = none
 g_PAIRING:GlAt K mg "PAIRING" g_PAIRING
section
variable{P:Program}{w:World}{K:PySem.W.Frag}{mg:Str→Option Value}{base:Heap}{W:Nat}{n:Nat}
def Ds(P:Program)(w:World)(K:PySem.W.Frag)(mg:Str→Option Value)(base:Heap)(W n:Nat):Prop:=∀f∈["names_of","names_in_term","parts_of","flows","lets","seen","gather_flows","add_flows","level_of","_law_cell","_law_mix","_law_name","_law_names","_law_levels","_law_house","_law_term","_law_names_in","_law_deed","_law_block","_law_program","_law_store","_law_flows","_law_goal","law"],Def P w K mg base n (callI W Γ n) f
noncomputable abbrev s_names_of:Stmt:=top 2
theorem sc_names_of:FnScope ["program","found","waiting","part"] ["program"] (defScope s_names_of):=⟨rfl,rfl,rfl,by decide +kernel,rfl,by decide +kernel,by decide +kernel⟩
theorem Y8(T:Tp K mg)(D:Ds P w K mg base W n){fa:Addr}{cdv:Value}{A:Around}{outer:List Env}{s:Shared}{H:Hp}{E:XK}(hr:Room n (A.deeper (envOfC (Str.ofString "names_of") (defScope s_names_of) s.heap.objs.size fa cdv))):PSs (cxOf CX0 P w K mg base ["program","found","waiting","part"] (Str.ofString "names_of") (defScope s_names_of) fa cdv A outer s H E).nox (defBody s_names_of) (tDSs (callI W Γ n) W K b_names_of):=by
 have nd:=sc_names_of.nd
 have hu:=GD hr
 have h64:=hr.units
 have m_list:=T.m_list
 have m_sorted:=T.m_sorted
 have m_tuple:=T.m_tuple
 exact(BL (CT 1 nd rfl (Or.inl rfl) (pF (mu:=true))) (BL (CT 2 nd rfl (Or.inl rfl) (p8 (mu:=true) rfl m_list (BK 0))) (BL (iQ PassesOwn.never (O2 (BK 2)) (BL (CT 3 nd rfl (Or.inl rfl) (uN (BK 2))) (BL (FQ (DP dJ (CN (BK 3) BP) (DK (BJ CQ (BJ CQ BR)))) (BL (uG hu (BK 1) (CN (BK 3) BP) j4) CG) CG) (BL (GC (O7 (BK 2) (BZ (f:="parts_of") (Def.cal (D "parts_of" (by decide)) hr) rfl (BJ (BK 3) BR)))) CG)))) (BL (CZ (HB rfl m_tuple (aM (mu:=false) rfl rfl m_sorted (BK 1)))) CG))))
noncomputable abbrev s_names_in_term:Stmt:=top 3
theorem sc_names_in_term:FnScope ["term"] ["term"] (defScope s_names_in_term):=⟨rfl,rfl,rfl,by decide +kernel,rfl,by decide +kernel,by decide +kernel⟩
theorem O9(T:Tp K mg)(D:Ds P w K mg base W n){fa:Addr}{cdv:Value}{A:Around}{outer:List Env}{s:Shared}{H:Hp}{E:XK}(hr:Room n (A.deeper (envOfC (Str.ofString "names_in_term") (defScope s_names_in_term) s.heap.objs.size fa cdv))):PSs (cxOf CX0 P w K mg base ["term"] (Str.ofString "names_in_term") (defScope s_names_in_term) fa cdv A outer s H E).nox (defBody s_names_in_term) (tDSs (callI W Γ n) W K b_names_in_term):=by
 have nd:=sc_names_in_term.nd
 have hu:=GD hr
 have h64:=hr.units
 exact(BL (CZ (BZ (f:="names_of") (Def.cal (D "names_of" (by decide)) hr) rfl (BJ (DK (BJ (BK 0) BR)) BR))) CG)
noncomputable abbrev s_parts_of:Stmt:=top 4
theorem sc_parts_of:FnScope ["part","kind"] ["part"] (defScope s_parts_of):=⟨rfl,rfl,rfl,by decide +kernel,rfl,by decide +kernel,by decide +kernel⟩
theorem Y7(T:Tp K mg)(D:Ds P w K mg base W n){fa:Addr}{cdv:Value}{A:Around}{outer:List Env}{s:Shared}{H:Hp}{E:XK}(hr:Room n (A.deeper (envOfC (Str.ofString "parts_of") (defScope s_parts_of) s.heap.objs.size fa cdv))):PSs (cxOf CX0 P w K mg base ["part","kind"] (Str.ofString "parts_of") (defScope s_parts_of) fa cdv A outer s H E).nox (defBody s_parts_of) (tDSs (callI W Γ n) W K b_parts_of):=by
 have nd:=sc_parts_of.nd
 have hu:=GD hr
 have h64:=hr.units
 exact(BL (CT 1 nd rfl (Or.inl rfl) (CN (BK 0) BP)) (BL (FQ (DP dJ (BK 1) (DK (BJ CQ (BJ CQ BR)))) (BL (CZ (DK BR)) CG) CG) (BL (FQ (DP dJ (BK 1) (uQ T.g_PAIRING rfl)) (BL (CZ (XH (BK 0) (S6 BP) bU)) CG) CG) (BL (FQ (DP dJ (BK 1) (DK (BJ CQ (BJ CQ BR)))) (BL (CZ (XH (BK 0) (S6 BP) bU)) CG) CG) (BL (FQ (DP (HN h64) (BK 1) CQ) (BL (CZ (DY (DY (DK (BJ (CN (BK 0) BP) BR)) (CN (BK 0) BP)) (CN (BK 0) BP))) CG) CG) (BL (CZ (DY (DK (BJ (CN (BK 0) BP) BR)) (CN (BK 0) BP))) CG))))))
noncomputable abbrev s_flows:Stmt:=top 6
theorem sc_flows:FnScope ["program","found"] ["program"] (defScope s_flows):=⟨rfl,rfl,rfl,by decide +kernel,rfl,by decide +kernel,by decide +kernel⟩
theorem jR(T:Tp K mg)(D:Ds P w K mg base W n){fa:Addr}{cdv:Value}{A:Around}{outer:List Env}{s:Shared}{H:Hp}{E:XK}(hr:Room n (A.deeper (envOfC (Str.ofString "flows") (defScope s_flows) s.heap.objs.size fa cdv))):PSs (cxOf CX0 P w K mg base ["program","found"] (Str.ofString "flows") (defScope s_flows) fa cdv A outer s H E).nox (defBody s_flows) (tDSs (callI W Γ n) W K b_flows):=by
 have nd:=sc_flows.nd
 have hu:=GD hr
 have hu3:=cR hr
 have h64:=hr.units
 have m_sorted:=T.m_sorted
 have m_tuple:=T.m_tuple
 exact(BL (CT 1 nd rfl (Or.inl rfl) pD) (BL (GC (BZ (f:="gather_flows") (Def.cal (D "gather_flows" (by decide)) hr) rfl (BJ (BK 0) (BJ (DK BR) (BJ (BK 1) BR))))) (BL (CZ (HB rfl m_tuple (aL (mu:=false) hu3 rfl rfl m_sorted (BK 1)))) CG)))
noncomputable abbrev s_lets:Stmt:=top 7
theorem sc_lets:FnScope ["program","house","levels"] ["program","house"] (defScope s_lets):=⟨rfl,rfl,rfl,by decide +kernel,rfl,by decide +kernel,by decide +kernel⟩
theorem qT(T:Tp K mg)(D:Ds P w K mg base W n){fa:Addr}{cdv:Value}{A:Around}{outer:List Env}{s:Shared}{H:Hp}{E:XK}(hr:Room n (A.deeper (envOfC (Str.ofString "lets") (defScope s_lets) s.heap.objs.size fa cdv))):PSs (cxOf CX0 P w K mg base ["program","house","levels"] (Str.ofString "lets") (defScope s_lets) fa cdv A outer s H E).nox (defBody s_lets) (tDSs (callI W Γ n) W K b_lets):=by
 have nd:=sc_lets.nd
 have hu:=GD hr
 have h64:=hr.units
 have m_all:=T.m_all
 have m_dict:=T.m_dict
 exact(BL (CT 2 nd rfl (Or.inr rfl) (V0 (mu:=false) rfl rfl m_dict (BK 1))) (BL (CZ (j5 rfl rfl m_all (GK (mu:=false) (own:=["name","target"]) ⟨rfl,by rfl,by rfl,by rfl,by rfl,rfl⟩ rfl (GZ (BZ (f:="flows") (Def.cal (D "flows" (by decide)) hr) rfl (BJ (BK 0) BR))) (fun _ _ _ _=>(iW rfl (J2 (G5 3 (show (["program","house","levels","name","target"]:List Str).Nodup from by decide +kernel) rfl (Or.inl rfl)) (J2 (G5 4 (show (["program","house","levels","name","target"]:List Str).Nodup from by decide +kernel) rfl (Or.inl rfl)) UW)))) (fun _ _ _ _=>GX) (fun _ _ _ _=>(V2 dI (O6 hu (BK 2) (BK 3) BP) (BZ (f:="level_of") (Def.cal (D "level_of" (by decide)) hr) rfl (BJ (BK 4) (BJ (BK 2) BR)))))))) CG))
noncomputable abbrev s_seen:Stmt:=top 8
theorem sc_seen:FnScope ["store","house","level","levels"] ["store","house","level"] (defScope s_seen):=⟨rfl,rfl,rfl,by decide +kernel,rfl,by decide +kernel,by decide +kernel⟩
theorem qQ(T:Tp K mg)(D:Ds P w K mg base W n){fa:Addr}{cdv:Value}{A:Around}{outer:List Env}{s:Shared}{H:Hp}{E:XK}(hr:Room n (A.deeper (envOfC (Str.ofString "seen") (defScope s_seen) s.heap.objs.size fa cdv))):PSs (cxOf CX0 P w K mg base ["store","house","level","levels"] (Str.ofString "seen") (defScope s_seen) fa cdv A outer s H E).nox (defBody s_seen) (tDSs (callI W Γ n) W K b_seen):=by
 have nd:=sc_seen.nd
 have hu:=GD hr
 have h64:=hr.units
 have m_dict:=T.m_dict
 have m_tuple:=T.m_tuple
 exact(BL (CT 3 nd rfl (Or.inr rfl) (V0 (mu:=false) rfl rfl m_dict (BK 1))) (BL (CZ (HB rfl m_tuple (GK (mu:=false) (own:=["pair"]) ⟨rfl,by rfl,by rfl,by rfl,by rfl,rfl⟩ rfl (GZ (BK 0)) (fun _ _ _ _=>(G5 4 (show (["store","house","level","levels","pair"]:List Str).Nodup from by decide +kernel) rfl (Or.inl rfl))) (fun _ _ _ _=>(QB (DP dI (O6 hu (BK 3) (CN (BK 4) BP) BP) (BK 2)))) (fun _ _ _ _=>(BK 4))))) CG))
noncomputable abbrev s_gather_flows:Stmt:=top 9
theorem sc_gather_flows:FnScope ["block","choosing","found","deed","kind","within"] ["block","choosing","found"] (defScope s_gather_flows):=⟨rfl,rfl,rfl,by decide +kernel,rfl,by decide +kernel,by decide +kernel⟩
theorem Q7(T:Tp K mg)(D:Ds P w K mg base W n){fa:Addr}{cdv:Value}{A:Around}{outer:List Env}{s:Shared}{H:Hp}{E:XK}(hr:Room n (A.deeper (envOfC (Str.ofString "gather_flows") (defScope s_gather_flows) s.heap.objs.size fa cdv))):PSs (cxOf CX0 P w K mg base ["block","choosing","found","deed","kind","within"] (Str.ofString "gather_flows") (defScope s_gather_flows) fa cdv A outer s H E).nox (defBody s_gather_flows) (tDSs (callI W Γ n) W K b_gather_flows):=by
 have nd:=sc_gather_flows.nd
 have hu:=GD hr
 have h64:=hr.units
 exact(BL (O4 PassesOwn.never rfl (GZ (BK 0)) (G5 3 nd rfl (Or.inl rfl)) (BL (CT 4 nd rfl (Or.inl rfl) (CN (BK 3) BP)) (BL (FQ (DP (HN h64) (BK 4) CQ) (BL (CT 5 nd rfl (Or.inl rfl) (DY (BK 1) (BZ (f:="names_in_term") (Def.cal (D "names_in_term" (by decide)) hr) rfl (BJ (CN (BK 3) BP) BR)))) (BL (GC (BZ (f:="gather_flows") (Def.cal (D "gather_flows" (by decide)) hr) rfl (BJ (CN (BK 3) BP) (BJ (BK 5) (BJ (BK 2) BR))))) (BL (GC (BZ (f:="gather_flows") (Def.cal (D "gather_flows" (by decide)) hr) rfl (BJ (CN (BK 3) BP) (BJ (BK 5) (BJ (BK 2) BR))))) CG))) (BL (FQ (DP (HN h64) (BK 4) CQ) (BL (GC (BZ (f:="add_flows") (Def.cal (D "add_flows" (by decide)) hr) rfl (BJ (DY (BK 1) (BZ (f:="names_in_term") (Def.cal (D "names_in_term" (by decide)) hr) rfl (BJ (CN (BK 3) BP) BR))) (BJ (DK (BJ CQ (BJ BP BR))) (BJ (BK 2) BR))))) (BL (GC (BZ (f:="gather_flows") (Def.cal (D "gather_flows" (by decide)) hr) rfl (BJ (CN (BK 3) BP) (BJ (BK 1) (BJ (BK 2) BR))))) CG)) (BL (FQ (DP (HN h64) (BK 4) CQ) (BL (GC (BZ (f:="add_flows") (Def.cal (D "add_flows" (by decide)) hr) rfl (BJ (DY (BK 1) (BZ (f:="names_in_term") (Def.cal (D "names_in_term" (by decide)) hr) rfl (BJ (CN (BK 3) BP) BR))) (BJ (DK (BJ CQ (BJ (CN (BK 3) BP) BR))) (BJ (BK 2) BR))))) CG) (BL (GC (BZ (f:="add_flows") (Def.cal (D "add_flows" (by decide)) hr) rfl (BJ (DY (BK 1) (BZ (f:="names_in_term") (Def.cal (D "names_in_term" (by decide)) hr) rfl (BJ (CN (BK 3) BP) BR))) (BJ (DK (BJ CQ (BJ (CN (BK 3) BP) BR))) (BJ (BK 2) BR))))) CG)) CG)) CG)) CG))) CG)
noncomputable abbrev s_add_flows:Stmt:=top 10
theorem sc_add_flows:FnScope ["names","target","found","name"] ["names","target","found"] (defScope s_add_flows):=⟨rfl,rfl,rfl,by decide +kernel,rfl,by decide +kernel,by decide +kernel⟩
theorem V7(T:Tp K mg)(D:Ds P w K mg base W n){fa:Addr}{cdv:Value}{A:Around}{outer:List Env}{s:Shared}{H:Hp}{E:XK}(hr:Room n (A.deeper (envOfC (Str.ofString "add_flows") (defScope s_add_flows) s.heap.objs.size fa cdv))):PSs (cxOf CX0 P w K mg base ["names","target","found","name"] (Str.ofString "add_flows") (defScope s_add_flows) fa cdv A outer s H E).nox (defBody s_add_flows) (tDSs (callI W Γ n) W K b_add_flows):=by
 have nd:=sc_add_flows.nd
 have hu:=GD hr
 have hu2:=rJ hr
 have h64:=hr.units
 exact(BL (O4 PassesOwn.never rfl (GZ (BK 0)) (G5 3 nd rfl (Or.inl rfl)) (BL (o7 hu2 (BK 2) (DK (BJ (BK 3) (BJ (BK 1) BR)))) CG)) CG)
noncomputable abbrev s_level_of:Stmt:=top 11
theorem sc_level_of:FnScope ["target","levels"] ["target","levels"] (defScope s_level_of):=⟨rfl,rfl,rfl,by decide +kernel,rfl,by decide +kernel,by decide +kernel⟩
theorem Y9(T:Tp K mg)(D:Ds P w K mg base W n){fa:Addr}{cdv:Value}{A:Around}{outer:List Env}{s:Shared}{H:Hp}{E:XK}(hr:Room n (A.deeper (envOfC (Str.ofString "level_of") (defScope s_level_of) s.heap.objs.size fa cdv))):PSs (cxOf CX0 P w K mg base ["target","levels"] (Str.ofString "level_of") (defScope s_level_of) fa cdv A outer s H E).nox (defBody s_level_of) (tDSs (callI W Γ n) W K b_level_of):=by
 have nd:=sc_level_of.nd
 have hu:=GD hr
 have h64:=hr.units
 exact(BL (FQ (DP (HN h64) (CN (BK 0) BP) CQ) (BL (CZ (CN (BK 0) BP)) CG) CG) (BL (CZ (O6 hu (BK 1) (CN (BK 0) BP) BP)) CG))
noncomputable abbrev s_qcell:Stmt:=top 13
theorem sc_qcell:FnScope ["_law_script","_law_k"] ["_law_script","_law_k"] (defScope s_qcell):=⟨rfl,rfl,rfl,by decide +kernel,rfl,by decide +kernel,by decide +kernel⟩
theorem jO(T:Tp K mg)(D:Ds P w K mg base W n){fa:Addr}{cdv:Value}{A:Around}{outer:List Env}{s:Shared}{H:Hp}{E:XK}(hr:Room n (A.deeper (envOfC (Str.ofString "_law_cell") (defScope s_qcell) s.heap.objs.size fa cdv))):PSs (cxOf CX0 P w K mg base ["_law_script","_law_k"] (Str.ofString "_law_cell") (defScope s_qcell) fa cdv A outer s H E).nox (defBody s_qcell) (tDSs (callI W Γ n) W K b_qcell):=by
 have nd:=sc_qcell.nd
 have hu:=GD hr
 have h64:=hr.units
 have m_len:=T.m_len
 exact(BL (FQ (DP Z5 (BK 1) (aO rfl m_len (BK 0))) (BL (CZ (CN (BK 0) (BK 1))) CG) CG) (BL (CZ BP) CG))
noncomputable abbrev s_qmix:Stmt:=top 14
theorem sc_qmix:FnScope ["_law_cell_here","_law_prime","_law_many"] ["_law_cell_here","_law_prime","_law_many"] (defScope s_qmix):=⟨rfl,rfl,rfl,by decide +kernel,rfl,by decide +kernel,by decide +kernel⟩
theorem qR(T:Tp K mg)(D:Ds P w K mg base W n){fa:Addr}{cdv:Value}{A:Around}{outer:List Env}{s:Shared}{H:Hp}{E:XK}(hr:Room n (A.deeper (envOfC (Str.ofString "_law_mix") (defScope s_qmix) s.heap.objs.size fa cdv))):PSs (cxOf CX0 P w K mg base ["_law_cell_here","_law_prime","_law_many"] (Str.ofString "_law_mix") (defScope s_qmix) fa cdv A outer s H E).nox (defBody s_qmix) (tDSs (callI W Γ n) W K b_qmix):=by
 have nd:=sc_qmix.nd
 have hu:=GD hr
 have h64:=hr.units
 exact(BL (CZ (J9 (J9 (HS (BK 0) BP) (BK 1)) (BK 2))) CG)
noncomputable abbrev s_qname:Stmt:=top 15
theorem sc_qname:FnScope ["_law_script","_law_k","_law_letters","_law_seed","_law_sign","_law_tail","_law_at"] ["_law_script","_law_k"] (defScope s_qname):=⟨rfl,rfl,rfl,by decide +kernel,rfl,by decide +kernel,by decide +kernel⟩
theorem jL(T:Tp K mg)(D:Ds P w K mg base W n){fa:Addr}{cdv:Value}{A:Around}{outer:List Env}{s:Shared}{H:Hp}{E:XK}(hr:Room n (A.deeper (envOfC (Str.ofString "_law_name") (defScope s_qname) s.heap.objs.size fa cdv))):PSs (cxOf CX0 P w K mg base ["_law_script","_law_k","_law_letters","_law_seed","_law_sign","_law_tail","_law_at"] (Str.ofString "_law_name") (defScope s_qname) fa cdv A outer s H E).nox (defBody s_qname) (tDSs (callI W Γ n) W K b_qname):=by
 have nd:=sc_qname.nd
 have hu:=GD hr
 have h64:=hr.units
 have m_len:=T.m_len
 have m_range:=T.m_range
 exact(BL (CT 2 nd rfl (Or.inr rfl) CQ) (BL (CT 3 nd rfl (Or.inr rfl) (BZ (f:="_law_cell") (Def.cal (D "_law_cell" (by decide)) hr) rfl (BJ (BK 0) (BJ BP BR)))) (BL (CT 4 nd rfl (Or.inl rfl) (CN (BK 2) (J9 (DY (BZ (f:="_law_mix") (Def.cal (D "_law_mix" (by decide)) hr) rfl (BJ (BK 3) (BJ BP (BJ BP BR)))) (HS BP (BK 1))) BP))) (BL (CT 5 nd rfl (Or.inl rfl) (pB CQ (GK (mu:=false) (own:=["_law_j"]) ⟨rfl,by rfl,by rfl,by rfl,by rfl,rfl⟩ rfl (QW rfl m_range (BZ (f:="_law_mix") (Def.cal (D "_law_mix" (by decide)) hr) rfl (BJ (BK 3) (BJ BP (BJ BP BR))))) (fun _ _ _ _=>(G5 7 (show (["_law_script","_law_k","_law_letters","_law_seed","_law_sign","_law_tail","_law_at","_law_j"]:List Str).Nodup from by decide +kernel) rfl (Or.inl rfl))) (fun _ _ _ _=>GX) (fun _ _ _ _=>(CN (BK 2) (BZ (f:="_law_mix") (Def.cal (D "_law_mix" (by decide)) hr) rfl (BJ (DY (BK 3) (HS BP (BK 7))) (BJ BP (BJ BP BR))))))))) (BL (CT 6 nd rfl (Or.inl rfl) (BZ (f:="_law_mix") (Def.cal (D "_law_mix" (by decide)) hr) rfl (BJ (BK 3) (BJ BP (BJ (DY (aO rfl m_len (BK 5)) BP) BR))))) (BL (CZ (DY (DY (XH (BK 5) bU (S6 (BK 6))) (BK 4)) (XH (BK 5) (S6 (BK 6)) bU))) CG))))))
noncomputable abbrev s_qnames:Stmt:=top 16
theorem sc_qnames:FnScope ["_law_script"] ["_law_script"] (defScope s_qnames):=⟨rfl,rfl,rfl,by decide +kernel,rfl,by decide +kernel,by decide +kernel⟩
theorem fP(T:Tp K mg)(D:Ds P w K mg base W n){fa:Addr}{cdv:Value}{A:Around}{outer:List Env}{s:Shared}{H:Hp}{E:XK}(hr:Room n (A.deeper (envOfC (Str.ofString "_law_names") (defScope s_qnames) s.heap.objs.size fa cdv))):PSs (cxOf CX0 P w K mg base ["_law_script"] (Str.ofString "_law_names") (defScope s_qnames) fa cdv A outer s H E).nox (defBody s_qnames) (tDSs (callI W Γ n) W K b_qnames):=by
 have nd:=sc_qnames.nd
 have hu:=GD hr
 have h64:=hr.units
 have m_range:=T.m_range
 exact(BL (CZ (GK (mu:=false) (own:=["_law_k"]) ⟨rfl,by rfl,by rfl,by rfl,by rfl,rfl⟩ rfl (QW rfl m_range BP) (fun _ _ _ _=>(G5 1 (show (["_law_script","_law_k"]:List Str).Nodup from by decide +kernel) rfl (Or.inl rfl))) (fun _ _ _ _=>GX) (fun _ _ _ _=>(BZ (f:="_law_name") (Def.cal (D "_law_name" (by decide)) hr) rfl (BJ (BK 0) (BJ (BK 1) BR)))))) CG)
noncomputable abbrev s_qlevels:Stmt:=top 17
theorem sc_qlevels:FnScope ["_law_script"] ["_law_script"] (defScope s_qlevels):=⟨rfl,rfl,rfl,by decide +kernel,rfl,by decide +kernel,by decide +kernel⟩
theorem aQ(T:Tp K mg)(D:Ds P w K mg base W n){fa:Addr}{cdv:Value}{A:Around}{outer:List Env}{s:Shared}{H:Hp}{E:XK}(hr:Room n (A.deeper (envOfC (Str.ofString "_law_levels") (defScope s_qlevels) s.heap.objs.size fa cdv))):PSs (cxOf CX0 P w K mg base ["_law_script"] (Str.ofString "_law_levels") (defScope s_qlevels) fa cdv A outer s H E).nox (defBody s_qlevels) (tDSs (callI W Γ n) W K b_qlevels):=by
 have nd:=sc_qlevels.nd
 have hu:=GD hr
 have h64:=hr.units
 exact(BL (CZ (JL (mu:=false) (BJ BP (BJ BP (BJ (BZ (f:="_law_mix") (Def.cal (D "_law_mix" (by decide)) hr) rfl (BJ (BZ (f:="_law_cell") (Def.cal (D "_law_cell" (by decide)) hr) rfl (BJ (BK 0) (BJ BP BR))) (BJ BP (BJ BP BR)))) (BJ (BZ (f:="_law_mix") (Def.cal (D "_law_mix" (by decide)) hr) rfl (BJ (BZ (f:="_law_cell") (Def.cal (D "_law_cell" (by decide)) hr) rfl (BJ (BK 0) (BJ BP BR))) (BJ BP (BJ BP BR)))) BR)))))) CG)
noncomputable abbrev s_qhouse:Stmt:=top 18
theorem sc_qhouse:FnScope ["_law_script","_law_pairs"] ["_law_script"] (defScope s_qhouse):=⟨rfl,rfl,rfl,by decide +kernel,rfl,by decide +kernel,by decide +kernel⟩
theorem fQ(T:Tp K mg)(D:Ds P w K mg base W n){fa:Addr}{cdv:Value}{A:Around}{outer:List Env}{s:Shared}{H:Hp}{E:XK}(hr:Room n (A.deeper (envOfC (Str.ofString "_law_house") (defScope s_qhouse) s.heap.objs.size fa cdv))):PSs (cxOf CX0 P w K mg base ["_law_script","_law_pairs"] (Str.ofString "_law_house") (defScope s_qhouse) fa cdv A outer s H E).nox (defBody s_qhouse) (tDSs (callI W Γ n) W K b_qhouse):=by
 have nd:=sc_qhouse.nd
 have hu:=GD hr
 have h64:=hr.units
 have m_list:=T.m_list
 have m_sorted:=T.m_sorted
 have m_tuple:=T.m_tuple
 have m_zip:=T.m_zip
 exact(BL (CT 1 nd rfl (Or.inl rfl) (p7 (mu:=false) rfl rfl m_list rfl m_zip (BZ (f:="_law_names") (Def.cal (D "_law_names" (by decide)) hr) rfl (BJ (BK 0) BR)) (BZ (f:="_law_levels") (Def.cal (D "_law_levels" (by decide)) hr) rfl (BJ (BK 0) BR)))) (BL (FQ (DP (HN h64) (J9 (BZ (f:="_law_cell") (Def.cal (D "_law_cell" (by decide)) hr) rfl (BJ (BK 0) (BJ BP BR))) BP) BP) (BL (bT 1 (own:=["_law_pair"]) nd rfl rfl ⟨rfl,by rfl,by rfl,by rfl,by rfl,rfl⟩ rfl (GZ (BK 1)) (fun _ _ _ _=>(G5 2 (show (["_law_script","_law_pairs","_law_pair"]:List Str).Nodup from by decide +kernel) rfl (Or.inl rfl))) (fun _ _ _ _=>(QB (DP dM (CN (BK 2) BP) BP))) (fun _ _ _ _=>(BK 2))) CG) CG) (BL (CZ (HB rfl m_tuple (O5 (mu:=false) rfl m_sorted (BK 1)))) CG)))
noncomputable abbrev s_qterm:Stmt:=top 19
theorem sc_qterm:FnScope ["_law_names_here","_law_seed","_law_left","_law_turn","_law_one"] ["_law_names_here","_law_seed","_law_left"] (defScope s_qterm):=⟨rfl,rfl,rfl,by decide +kernel,rfl,by decide +kernel,by decide +kernel⟩
theorem jK(T:Tp K mg)(D:Ds P w K mg base W n){fa:Addr}{cdv:Value}{A:Around}{outer:List Env}{s:Shared}{H:Hp}{E:XK}(hr:Room n (A.deeper (envOfC (Str.ofString "_law_term") (defScope s_qterm) s.heap.objs.size fa cdv))):PSs (cxOf CX0 P w K mg base ["_law_names_here","_law_seed","_law_left","_law_turn","_law_one"] (Str.ofString "_law_term") (defScope s_qterm) fa cdv A outer s H E).nox (defBody s_qterm) (tDSs (callI W Γ n) W K b_qterm):=by
 have nd:=sc_qterm.nd
 have hu:=GD hr
 have h64:=hr.units
 exact(BL (CT 3 nd rfl (Or.inl rfl) (BZ (f:="_law_mix") (Def.cal (D "_law_mix" (by decide)) hr) rfl (BJ (BK 1) (BJ BP (BJ BP BR))))) (BL (FQ (L2.PW.pt (bQ (DP (HN h64) (BK 2) BP) (U6 (DP Z5 (BK 3) BP)))) (BL (FQ (DP (HN h64) (J9 (BK 3) BP) BP) (BL (CZ (DK (BJ CQ (BJ (BZ (f:="_law_mix") (Def.cal (D "_law_mix" (by decide)) hr) rfl (BJ (BK 1) (BJ BP (BJ BP BR)))) BR)))) CG) CG) (BL (CZ (DK (BJ CQ (BJ (CN (BK 0) (BZ (f:="_law_mix") (Def.cal (D "_law_mix" (by decide)) hr) rfl (BJ (BK 1) (BJ BP (BJ BP BR))))) BR)))) CG)) CG) (BL (CT 4 nd rfl (Or.inl rfl) (BZ (f:="_law_term") (Def.cal (D "_law_term" (by decide)) hr) rfl (BJ (BK 0) (BJ (DY (HS (BK 1) BP) BP) (BJ (QX (BK 2) BP) BR))))) (BL (CZ (DK (BJ (CN (JL (mu:=false) (BJ CQ (BJ CQ (BJ CQ BR)))) (J9 (BK 3) BP)) (BJ (BK 4) (BJ (BZ (f:="_law_term") (Def.cal (D "_law_term" (by decide)) hr) rfl (BJ (BK 0) (BJ (DY (HS (BK 1) BP) BP) (BJ (QX (BK 2) BP) BR)))) BR))))) CG))))
noncomputable abbrev s_qnames_in:Stmt:=top 20
theorem sc_qnames_in:FnScope ["_law_term_here"] ["_law_term_here"] (defScope s_qnames_in):=⟨rfl,rfl,rfl,by decide +kernel,rfl,by decide +kernel,by decide +kernel⟩
theorem V6(T:Tp K mg)(D:Ds P w K mg base W n){fa:Addr}{cdv:Value}{A:Around}{outer:List Env}{s:Shared}{H:Hp}{E:XK}(hr:Room n (A.deeper (envOfC (Str.ofString "_law_names_in") (defScope s_qnames_in) s.heap.objs.size fa cdv))):PSs (cxOf CX0 P w K mg base ["_law_term_here"] (Str.ofString "_law_names_in") (defScope s_qnames_in) fa cdv A outer s H E).nox (defBody s_qnames_in) (tDSs (callI W Γ n) W K b_qnames_in):=by
 have nd:=sc_qnames_in.nd
 have hu:=GD hr
 have h64:=hr.units
 exact(BL (FQ (DP (HN h64) (CN (BK 0) BP) CQ) (BL (CZ (JL (mu:=false) (BJ (CN (BK 0) BP) BR))) CG) CG) (BL (FQ (DP (HN h64) (CN (BK 0) BP) CQ) (BL (CZ (JL (mu:=false) BR)) CG) CG) (BL (CZ (M8 (mu:=false) (BZ (f:="_law_names_in") (Def.cal (D "_law_names_in" (by decide)) hr) rfl (BJ (CN (BK 0) BP) BR)) (BZ (f:="_law_names_in") (Def.cal (D "_law_names_in" (by decide)) hr) rfl (BJ (CN (BK 0) BP) BR)))) CG)))
noncomputable abbrev s_qdeed:Stmt:=top 21
theorem sc_qdeed:FnScope ["_law_plan","_law_cell_here","_law_deep","_law_need","_law_names_here","_law_levels_here","_law_honest","_law_term_here","_law_high","_law_turn","_law_one","_law_more","_law_block_here","_law_some"] ["_law_plan","_law_cell_here","_law_deep","_law_need"] (defScope s_qdeed):=⟨rfl,rfl,rfl,by decide +kernel,rfl,by decide +kernel,by decide +kernel⟩
theorem jN(T:Tp K mg)(D:Ds P w K mg base W n){fa:Addr}{cdv:Value}{A:Around}{outer:List Env}{s:Shared}{H:Hp}{E:XK}(hr:Room n (A.deeper (envOfC (Str.ofString "_law_deed") (defScope s_qdeed) s.heap.objs.size fa cdv))):PSs (cxOf CX0 P w K mg base ["_law_plan","_law_cell_here","_law_deep","_law_need","_law_names_here","_law_levels_here","_law_honest","_law_term_here","_law_high","_law_turn","_law_one","_law_more","_law_block_here","_law_some"] (Str.ofString "_law_deed") (defScope s_qdeed) fa cdv A outer s H E).nox (defBody s_qdeed) (tDSs (callI W Γ n) W K b_qdeed):=by
 have nd:=sc_qdeed.nd
 have hu:=GD hr
 have h64:=hr.units
 have m_int:=T.m_int
 have m_len:=T.m_len
 have m_max:=T.m_max
 have m_range:=T.m_range
 exact(BL (uI (BK 0) (iW rfl (J2 (G5 4 nd rfl (Or.inr rfl)) (J2 (G5 5 nd rfl (Or.inr rfl)) (J2 (G5 6 nd rfl (Or.inr rfl)) UW))))) (BL (CT 7 nd rfl (Or.inl rfl) (BZ (f:="_law_term") (Def.cal (D "_law_term" (by decide)) hr) rfl (BJ (BK 4) (BJ (BK 1) (BJ (DY BP (J9 (BK 1) BP)) BR))))) (BL (CT 8 nd rfl (Or.inr rfl) (uO rfl rfl m_max (M8 (mu:=false) (GK (mu:=false) (own:=["_law_name_here"]) ⟨rfl,by rfl,by rfl,by rfl,by rfl,rfl⟩ rfl (GZ (BZ (f:="_law_names_in") (Def.cal (D "_law_names_in" (by decide)) hr) rfl (BJ (BK 7) BR))) (fun _ _ _ _=>(G5 14 (show (["_law_plan","_law_cell_here","_law_deep","_law_need","_law_names_here","_law_levels_here","_law_honest","_law_term_here","_law_high","_law_turn","_law_one","_law_more","_law_block_here","_law_some","_law_name_here"]:List Str).Nodup from by decide +kernel) rfl (Or.inl rfl))) (fun _ _ _ _=>GX) (fun _ _ _ _=>(CN (BK 5) (iZ (BK 4) (BK 14))))) (JL (mu:=false) (BJ (BK 3) BR))))) (BL (CT 9 nd rfl (Or.inl rfl) (BZ (f:="_law_mix") (Def.cal (D "_law_mix" (by decide)) hr) rfl (BJ (BK 1) (BJ BP (BJ BP BR))))) (BL (FQ (L2.PW.pt (U8 (DP dM (BK 2) BP) (U7 (DP Z5 (BK 9) BP)))) (BL (CT 10 nd rfl (Or.inl rfl) (BZ (f:="_law_block") (Def.cal (D "_law_block" (by decide)) hr) rfl (BJ (BK 0) (BJ (DY (HS (BK 1) BP) BP) (BJ (QX (BK 2) BP) (BJ (BK 8) BR)))))) (BL (CZ (DK (BJ CQ (BJ (BK 7) (BJ (BK 10) (BJ (BZ (f:="_law_block") (Def.cal (D "_law_block" (by decide)) hr) rfl (BJ (BK 0) (BJ (DY (HS (BK 1) BP) BP) (BJ (QX (BK 2) BP) (BJ (BK 8) BR))))) BR)))))) CG)) CG) (BL (FQ (L2.PW.pt (U8 (DP dM (BK 2) BP) (U8 (DP Z5 (BK 9) BP) (U7 (L2.PW.pt (bQ (DP (HN h64) (BK 3) BP) (U6 (aB (O2 (BK 6)))))))))) (BL (CT 11 nd rfl (Or.inl rfl) (DK (BJ CQ (BJ (CN (BK 4) BP) (BJ (DK (BJ CQ (BJ (DK (BJ CQ (BJ (CN (BK 4) BP) BR))) (BJ (DK (BJ CQ (BJ BP BR))) BR)))) BR))))) (BL (CT 12 nd rfl (Or.inl rfl) (BZ (f:="_law_block") (Def.cal (D "_law_block" (by decide)) hr) rfl (BJ (BK 0) (BJ (DY (HS (BK 1) BP) BP) (BJ (QX (BK 2) BP) (BJ (BK 3) BR)))))) (BL (FQ (O2 (BK 6)) (BL (CT 7 nd rfl (Or.inl rfl) (DK (BJ CQ (BJ (DK (BJ CQ (BJ (CN (BK 4) BP) BR))) (BJ (DK (BJ CQ (BJ (BZ (f:="_law_mix") (Def.cal (D "_law_mix" (by decide)) hr) rfl (BJ (BK 1) (BJ BP (BJ BP BR)))) BR))) BR))))) CG) CG) (BL (CZ (DK (BJ CQ (BJ (BK 7) (BJ (DY (BK 12) (DK (BJ (BK 11) BR))) BR))))) CG)))) CG) (BL (bT 13 (own:=["_law_k"]) nd rfl rfl ⟨rfl,by rfl,by rfl,by rfl,by rfl,rfl⟩ rfl (QW rfl m_range BP) (fun _ _ _ _=>(G5 14 (show (["_law_plan","_law_cell_here","_law_deep","_law_need","_law_names_here","_law_levels_here","_law_honest","_law_term_here","_law_high","_law_turn","_law_one","_law_more","_law_block_here","_law_some","_law_k"]:List Str).Nodup from by decide +kernel) rfl (Or.inl rfl))) (fun _ _ _ _=>(QB (L2.PW.pt (bQ (DP yW (CN (BK 5) (BK 14)) (BK 8)) (U6 (aB (O2 (BK 6)))))))) (fun _ _ _ _=>(BK 14))) (BL (FQ (L2.PW.pt (U8 (DP Z5 (BK 9) BP) (U7 (O2 (BK 13))))) (BL (CZ (DK (BJ CQ (BJ (CN (BK 4) (CN (BK 13) (BZ (f:="_law_mix") (Def.cal (D "_law_mix" (by decide)) hr) rfl (BJ (BK 1) (BJ BP (BJ (aO rfl m_len (BK 13)) BR)))))) (BJ (BK 7) BR))))) CG) CG) (BL (CZ (DK (BJ CQ (BJ (oZ rfl rfl m_max (BZ (f:="_law_mix") (Def.cal (D "_law_mix" (by decide)) hr) rfl (BJ (BK 1) (BJ BP (BJ BP BR)))) (HS (BK 8) (pC rfl m_int (BK 6)))) (BJ (BK 7) BR))))) CG)))))))))
noncomputable abbrev s_qblock:Stmt:=top 22
theorem sc_qblock:FnScope ["_law_plan","_law_cell_here","_law_deep","_law_need","_law_many"] ["_law_plan","_law_cell_here","_law_deep","_law_need"] (defScope s_qblock):=⟨rfl,rfl,rfl,by decide +kernel,rfl,by decide +kernel,by decide +kernel⟩
theorem fV(T:Tp K mg)(D:Ds P w K mg base W n){fa:Addr}{cdv:Value}{A:Around}{outer:List Env}{s:Shared}{H:Hp}{E:XK}(hr:Room n (A.deeper (envOfC (Str.ofString "_law_block") (defScope s_qblock) s.heap.objs.size fa cdv))):PSs (cxOf CX0 P w K mg base ["_law_plan","_law_cell_here","_law_deep","_law_need","_law_many"] (Str.ofString "_law_block") (defScope s_qblock) fa cdv A outer s H E).nox (defBody s_qblock) (tDSs (callI W Γ n) W K b_qblock):=by
 have nd:=sc_qblock.nd
 have hu:=GD hr
 have h64:=hr.units
 have m_range:=T.m_range
 have m_tuple:=T.m_tuple
 exact(BL (CT 4 nd rfl (Or.inl rfl) (DY BP (BZ (f:="_law_mix") (Def.cal (D "_law_mix" (by decide)) hr) rfl (BJ (BK 1) (BJ BP (BJ BP BR)))))) (BL (CZ (HB rfl m_tuple (GK (mu:=false) (own:=["_law_k"]) ⟨rfl,by rfl,by rfl,by rfl,by rfl,rfl⟩ rfl (QW rfl m_range (BK 4)) (fun _ _ _ _=>(G5 5 (show (["_law_plan","_law_cell_here","_law_deep","_law_need","_law_many","_law_k"]:List Str).Nodup from by decide +kernel) rfl (Or.inl rfl))) (fun _ _ _ _=>GX) (fun _ _ _ _=>(BZ (f:="_law_deed") (Def.cal (D "_law_deed" (by decide)) hr) rfl (BJ (BK 0) (BJ (DY (HS (BK 1) BP) (HS BP (BK 5))) (BJ (BK 2) (BJ (BK 3) BR))))))))) CG))
noncomputable abbrev s_qprogram:Stmt:=top 23
theorem sc_qprogram:FnScope ["_law_script","_law_k","_law_honest","_law_plan","_law_cells"] ["_law_script","_law_k"] (defScope s_qprogram):=⟨rfl,rfl,rfl,by decide +kernel,rfl,by decide +kernel,by decide +kernel⟩
theorem Y6(T:Tp K mg)(D:Ds P w K mg base W n){fa:Addr}{cdv:Value}{A:Around}{outer:List Env}{s:Shared}{H:Hp}{E:XK}(hr:Room n (A.deeper (envOfC (Str.ofString "_law_program") (defScope s_qprogram) s.heap.objs.size fa cdv))):PSs (cxOf CX0 P w K mg base ["_law_script","_law_k","_law_honest","_law_plan","_law_cells"] (Str.ofString "_law_program") (defScope s_qprogram) fa cdv A outer s H E).nox (defBody s_qprogram) (tDSs (callI W Γ n) W K b_qprogram):=by
 have nd:=sc_qprogram.nd
 have hu:=GD hr
 have h64:=hr.units
 have m_tuple:=T.m_tuple
 exact(BL (CT 2 nd rfl (Or.inl rfl) (V2 dM (BZ (f:="_law_mix") (Def.cal (D "_law_mix" (by decide)) hr) rfl (BJ (BZ (f:="_law_cell") (Def.cal (D "_law_cell" (by decide)) hr) rfl (BJ (BK 0) (BJ BP BR))) (BJ BP (BJ BP BR)))) BP)) (BL (CT 3 nd rfl (Or.inr rfl) (DK (BJ (BZ (f:="_law_names") (Def.cal (D "_law_names" (by decide)) hr) rfl (BJ (BK 0) BR)) (BJ (BZ (f:="_law_levels") (Def.cal (D "_law_levels" (by decide)) hr) rfl (BJ (BK 0) BR)) (BJ (BK 2) BR))))) (BL (CT 4 nd rfl (Or.inl rfl) (XH (BK 0) (S6 (BK 1)) (S6 (DY (DY (BK 1) BP) (J9 (BZ (f:="_law_cell") (Def.cal (D "_law_cell" (by decide)) hr) rfl (BJ (BK 0) (BJ BP BR))) BP))))) (BL (CZ (HB rfl m_tuple (GK (mu:=false) (own:=["_law_cell_here"]) ⟨rfl,by rfl,by rfl,by rfl,by rfl,rfl⟩ rfl (GZ (BK 4)) (fun _ _ _ _=>(G5 5 (show (["_law_script","_law_k","_law_honest","_law_plan","_law_cells","_law_cell_here"]:List Str).Nodup from by decide +kernel) rfl (Or.inl rfl))) (fun _ _ _ _=>GX) (fun _ _ _ _=>(BZ (f:="_law_deed") (Def.cal (D "_law_deed" (by decide)) hr) rfl (BJ (BK 3) (BJ (BK 5) (BJ BP (BJ BP BR))))))))) CG))))
noncomputable abbrev s_qstore:Stmt:=top 24
theorem sc_qstore:FnScope ["_law_script","_law_k","_law_found","_law_n","_law_name_here","_law_number"] ["_law_script","_law_k"] (defScope s_qstore):=⟨rfl,rfl,rfl,by decide +kernel,rfl,by decide +kernel,by decide +kernel⟩
theorem fO(T:Tp K mg)(D:Ds P w K mg base W n){fa:Addr}{cdv:Value}{A:Around}{outer:List Env}{s:Shared}{H:Hp}{E:XK}(hr:Room n (A.deeper (envOfC (Str.ofString "_law_store") (defScope s_qstore) s.heap.objs.size fa cdv))):PSs (cxOf CX0 P w K mg base ["_law_script","_law_k","_law_found","_law_n","_law_name_here","_law_number"] (Str.ofString "_law_store") (defScope s_qstore) fa cdv A outer s H E).nox (defBody s_qstore) (tDSs (callI W Γ n) W K b_qstore):=by
 have nd:=sc_qstore.nd
 have hu:=GD hr
 have h64:=hr.units
 have m_enumerate:=T.m_enumerate
 have m_sorted:=T.m_sorted
 have m_tuple:=T.m_tuple
 exact(BL (CT 2 nd rfl (Or.inl rfl) (JL (mu:=true) BR)) (BL (O4 PassesOwn.never rfl (oW rfl m_enumerate (BZ (f:="_law_names") (Def.cal (D "_law_names" (by decide)) hr) rfl (BJ (BK 0) BR))) (iW rfl (J2 (G5 3 nd rfl (Or.inl rfl)) (J2 (G5 4 nd rfl (Or.inl rfl)) UW))) (BL (CT 5 nd rfl (Or.inl rfl) (BZ (f:="_law_mix") (Def.cal (D "_law_mix" (by decide)) hr) rfl (BJ (DY (BZ (f:="_law_cell") (Def.cal (D "_law_cell" (by decide)) hr) rfl (BJ (BK 0) (BJ (BK 1) BR))) (HS BP (BK 3))) (BJ BP (BJ BP BR))))) (BL (FQ (DP (HN h64) (J9 (BZ (f:="_law_cell") (Def.cal (D "_law_cell" (by decide)) hr) rfl (BJ (BK 0) (BJ (BK 1) BR))) BP) BP) (BL (CT 5 nd rfl (Or.inl rfl) (J9 (BK 5) BP)) CG) CG) (BL (GC (uR (BK 2) (DK (BJ (BK 4) (BJ (BK 5) BR))))) CG)))) (BL (CZ (HB rfl m_tuple (O5 (mu:=false) rfl m_sorted (BK 2)))) CG)))
noncomputable abbrev s_qflows:Stmt:=top 25
theorem sc_qflows:FnScope ["_law_block_here","_law_around","_law_found","_law_deed_here","_law_names_here"] ["_law_block_here","_law_around"] (defScope s_qflows):=⟨rfl,rfl,rfl,by decide +kernel,rfl,by decide +kernel,by decide +kernel⟩
theorem fU(T:Tp K mg)(D:Ds P w K mg base W n){fa:Addr}{cdv:Value}{A:Around}{outer:List Env}{s:Shared}{H:Hp}{E:XK}(hr:Room n (A.deeper (envOfC (Str.ofString "_law_flows") (defScope s_qflows) s.heap.objs.size fa cdv))):PSs (cxOf CX0 P w K mg base ["_law_block_here","_law_around","_law_found","_law_deed_here","_law_names_here"] (Str.ofString "_law_flows") (defScope s_qflows) fa cdv A outer s H E).nox (defBody s_qflows) (tDSs (callI W Γ n) W K b_qflows):=by
 have nd:=sc_qflows.nd
 have hu:=GD hr
 have hu3:=cR hr
 have h64:=hr.units
 have m_set:=T.m_set
 have m_sorted:=T.m_sorted
 exact(BL (CT 2 nd rfl (Or.inl rfl) (JL (mu:=true) BR)) (BL (O4 PassesOwn.never rfl (GZ (BK 0)) (G5 3 nd rfl (Or.inr rfl)) (BL (FQ (DP (HN h64) (CN (BK 3) BP) CQ) (BL (GC (O7 (BK 2) (GK (mu:=false) (own:=["_law_name_here"]) ⟨rfl,by rfl,by rfl,by rfl,by rfl,rfl⟩ rfl (GZ (M8 (mu:=false) (BK 1) (BZ (f:="_law_names_in") (Def.cal (D "_law_names_in" (by decide)) hr) rfl (BJ (CN (BK 3) BP) BR)))) (fun _ _ _ _=>(G5 5 (show (["_law_block_here","_law_around","_law_found","_law_deed_here","_law_names_here","_law_name_here"]:List Str).Nodup from by decide +kernel) rfl (Or.inl rfl))) (fun _ _ _ _=>GX) (fun _ _ _ _=>(DK (BJ (BK 5) (BJ (DK (BJ CQ (BJ (CN (BK 3) BP) BR))) BR))))))) CG) CG) (BL (FQ (DP (HN h64) (CN (BK 3) BP) CQ) (BL (GC (O7 (BK 2) (GK (mu:=false) (own:=["_law_name_here"]) ⟨rfl,by rfl,by rfl,by rfl,by rfl,rfl⟩ rfl (GZ (M8 (mu:=false) (BK 1) (BZ (f:="_law_names_in") (Def.cal (D "_law_names_in" (by decide)) hr) rfl (BJ (CN (BK 3) BP) BR)))) (fun _ _ _ _=>(G5 5 (show (["_law_block_here","_law_around","_law_found","_law_deed_here","_law_names_here","_law_name_here"]:List Str).Nodup from by decide +kernel) rfl (Or.inl rfl))) (fun _ _ _ _=>GX) (fun _ _ _ _=>(DK (BJ (BK 5) (BJ (DK (BJ CQ (BJ (CN (BK 3) BP) BR))) BR))))))) CG) CG) (BL (FQ (DP (HN h64) (CN (BK 3) BP) CQ) (BL (GC (O7 (BK 2) (GK (mu:=false) (own:=["_law_name_here"]) ⟨rfl,by rfl,by rfl,by rfl,by rfl,rfl⟩ rfl (GZ (M8 (mu:=false) (BK 1) (BZ (f:="_law_names_in") (Def.cal (D "_law_names_in" (by decide)) hr) rfl (BJ (CN (BK 3) BP) BR)))) (fun _ _ _ _=>(G5 5 (show (["_law_block_here","_law_around","_law_found","_law_deed_here","_law_names_here","_law_name_here"]:List Str).Nodup from by decide +kernel) rfl (Or.inl rfl))) (fun _ _ _ _=>GX) (fun _ _ _ _=>(DK (BJ (BK 5) (BJ (DK (BJ CQ (BJ BP BR))) BR))))))) (BL (GC (O7 (BK 2) (BZ (f:="_law_flows") (Def.cal (D "_law_flows" (by decide)) hr) rfl (BJ (CN (BK 3) BP) (BJ (BK 1) BR))))) CG)) CG) (BL (FQ (DP (HN h64) (CN (BK 3) BP) CQ) (BL (CT 4 nd rfl (Or.inl rfl) (M8 (mu:=false) (BK 1) (BZ (f:="_law_names_in") (Def.cal (D "_law_names_in" (by decide)) hr) rfl (BJ (CN (BK 3) BP) BR)))) (BL (GC (O7 (BK 2) (M8 (mu:=false) (BZ (f:="_law_flows") (Def.cal (D "_law_flows" (by decide)) hr) rfl (BJ (CN (BK 3) BP) (BJ (BK 4) BR))) (BZ (f:="_law_flows") (Def.cal (D "_law_flows" (by decide)) hr) rfl (BJ (CN (BK 3) BP) (BJ (BK 4) BR)))))) CG)) CG) CG))))) (BL (CZ (XF (mu:=false) hu3 rfl rfl m_sorted rfl m_set (BK 2))) CG)))
noncomputable abbrev s_qgoal:Stmt:=top 26
theorem sc_qgoal:FnScope ["_law_target","_law_levels_here"] ["_law_target","_law_levels_here"] (defScope s_qgoal):=⟨rfl,rfl,rfl,by decide +kernel,rfl,by decide +kernel,by decide +kernel⟩
theorem jM(T:Tp K mg)(D:Ds P w K mg base W n){fa:Addr}{cdv:Value}{A:Around}{outer:List Env}{s:Shared}{H:Hp}{E:XK}(hr:Room n (A.deeper (envOfC (Str.ofString "_law_goal") (defScope s_qgoal) s.heap.objs.size fa cdv))):PSs (cxOf CX0 P w K mg base ["_law_target","_law_levels_here"] (Str.ofString "_law_goal") (defScope s_qgoal) fa cdv A outer s H E).nox (defBody s_qgoal) (tDSs (callI W Γ n) W K b_qgoal):=by
 have nd:=sc_qgoal.nd
 have hu:=GD hr
 have h64:=hr.units
 exact(BL (FQ (DP (HN h64) (CN (BK 0) BP) CQ) (BL (CZ (CN (BK 0) BP)) CG) CG) (BL (CZ (O6 hu (BK 1) (CN (BK 0) BP) BP)) CG))
noncomputable abbrev s_law:Stmt:=top 27
theorem sc_law:FnScope ["_law_script","_law_program_here","_law_house_here","_law_names_here","_law_other","_law_store_here","_law_one","_law_levels_here","_law_due","_law_found","_law_level"] ["_law_script"] (defScope s_law):=⟨rfl,rfl,rfl,by decide +kernel,rfl,by decide +kernel,by decide +kernel⟩
theorem jQ(T:Tp K mg)(D:Ds P w K mg base W n){fa:Addr}{cdv:Value}{A:Around}{outer:List Env}{s:Shared}{H:Hp}{E:XK}(hr:Room n (A.deeper (envOfC (Str.ofString "law") (defScope s_law) s.heap.objs.size fa cdv))):PSs (cxOf CX0 P w K mg base ["_law_script","_law_program_here","_law_house_here","_law_names_here","_law_other","_law_store_here","_law_one","_law_levels_here","_law_due","_law_found","_law_level"] (Str.ofString "law") (defScope s_law) fa cdv A outer s H E).nox (defBody s_law) (tDSs (callI W Γ n) W K b_law):=by
 have nd:=sc_law.nd
 have hu:=GD hr
 have h64:=hr.units
 have m_all:=T.m_all
 have m_bool:=T.m_bool
 have m_dict:=T.m_dict
 have m_isinstance:=T.m_isinstance
 have m_range:=T.m_range
 have m_sorted:=T.m_sorted
 have m_tuple:=T.m_tuple
 exact(BL (CT 1 nd rfl (Or.inl rfl) (BZ (f:="_law_program") (Def.cal (D "_law_program" (by decide)) hr) rfl (BJ (BK 0) (BJ BP BR)))) (BL (CT 2 nd rfl (Or.inl rfl) (BZ (f:="_law_house") (Def.cal (D "_law_house" (by decide)) hr) rfl (BJ (BK 0) BR))) (BL (CT 3 nd rfl (Or.inr rfl) (BZ (f:="_law_names") (Def.cal (D "_law_names" (by decide)) hr) rfl (BJ (BK 0) BR))) (BL (CT 4 nd rfl (Or.inl rfl) (HB rfl m_tuple (O5 (mu:=false) rfl m_sorted (GK (mu:=false) (own:=["_law_k"]) ⟨rfl,by rfl,by rfl,by rfl,by rfl,rfl⟩ rfl (oU rfl m_range BP BP) (fun _ _ _ _=>(G5 11 (show (["_law_script","_law_program_here","_law_house_here","_law_names_here","_law_other","_law_store_here","_law_one","_law_levels_here","_law_due","_law_found","_law_level","_law_k"]:List Str).Nodup from by decide +kernel) rfl (Or.inl rfl))) (fun _ _ _ _=>GX) (fun _ _ _ _=>(DK (BJ (CN (BK 3) (BK 11)) (BJ (BZ (f:="_law_mix") (Def.cal (D "_law_mix" (by decide)) hr) rfl (BJ (DY (BZ (f:="_law_cell") (Def.cal (D "_law_cell" (by decide)) hr) rfl (BJ (BK 0) (BJ BP BR))) (HS BP (BK 11))) (BJ BP (BJ BP BR)))) BR)))))))) (BL (CT 5 nd rfl (Or.inl rfl) (BZ (f:="_law_store") (Def.cal (D "_law_store" (by decide)) hr) rfl (BJ (BK 0) (BJ BP BR)))) (BL (O4 PassesOwn.never rfl (GZ (JL (mu:=false) (BJ (BK 2) (BJ (BK 4) (BJ (DK BR) BR))))) (G5 6 nd rfl (Or.inl rfl)) (BL (CT 7 nd rfl (Or.inr rfl) (V0 (mu:=false) rfl rfl m_dict (BK 6))) (BL (CT 8 nd rfl (Or.inl rfl) (j5 rfl rfl m_all (GK (mu:=false) (own:=["_law_flow"]) ⟨rfl,by rfl,by rfl,by rfl,by rfl,rfl⟩ rfl (GZ (BZ (f:="_law_flows") (Def.cal (D "_law_flows" (by decide)) hr) rfl (BJ (BK 1) (BJ (JL (mu:=false) BR) BR)))) (fun _ _ _ _=>(G5 11 (show (["_law_script","_law_program_here","_law_house_here","_law_names_here","_law_other","_law_store_here","_law_one","_law_levels_here","_law_due","_law_found","_law_level","_law_flow"]:List Str).Nodup from by decide +kernel) rfl (Or.inl rfl))) (fun _ _ _ _=>GX) (fun _ _ _ _=>(V2 dI (O6 hu (BK 7) (CN (BK 11) BP) BP) (BZ (f:="_law_goal") (Def.cal (D "_law_goal" (by decide)) hr) rfl (BJ (CN (BK 11) BP) (BJ (BK 7) BR)))))))) (BL (CT 9 nd rfl (Or.inl rfl) (BZ (f:="lets") (Def.cal (D "lets" (by decide)) hr) rfl (BJ (BK 1) (BJ (BK 6) BR)))) (BL (FQ (L2.PW.pt (bQ (aB (O2 (fB rfl m_isinstance rfl m_bool (BK 9)))) (U6 (DP (tW h64) (BK 9) (BK 8))))) (BL (CZ j4) CG) CG) (BL (O4 PassesOwn.never rfl (QW rfl m_range BP) (G5 10 nd rfl (Or.inr rfl)) (BL (FQ (DP (tW h64) (BZ (f:="seen") (Def.cal (D "seen" (by decide)) hr) rfl (BJ (BK 5) (BJ (BK 6) (BJ (BK 10) BR)))) (HB rfl m_tuple (GK (mu:=false) (own:=["_law_pair"]) ⟨rfl,by rfl,by rfl,by rfl,by rfl,rfl⟩ rfl (GZ (BK 5)) (fun _ _ _ _=>(G5 11 (show (["_law_script","_law_program_here","_law_house_here","_law_names_here","_law_other","_law_store_here","_law_one","_law_levels_here","_law_due","_law_found","_law_level","_law_pair"]:List Str).Nodup from by decide +kernel) rfl (Or.inl rfl))) (fun _ _ _ _=>(QB (DP dI (O6 hu (BK 7) (CN (BK 11) BP) BP) (BK 10)))) (fun _ _ _ _=>(BK 11))))) (BL (CZ j4) CG) CG) CG)) CG)))))) (BL (CZ (xQ (BZ (f:="lets") (Def.cal (D "lets" (by decide)) hr) rfl (BJ (BK 1) (BJ (BK 2) BR))) (pA (V2 (HN h64) (BZ (f:="_law_mix") (Def.cal (D "_law_mix" (by decide)) hr) rfl (BJ (BZ (f:="_law_cell") (Def.cal (D "_law_cell" (by decide)) hr) rfl (BJ (BK 0) (BJ BP BR))) (BJ BP (BJ BP BR)))) BP)))) CG)))))))
end
end T
end
section
set_option genInjectivity false
namespace WW
inductive Op where
 | sum | times | less
 deriving DecidableEq
noncomputable def Op.ap:Op→Int→Int→Int
 | .sum,a,b=>(a+b) % 997
 | .times,a,b=>(a*b) % 997
 | .less,a,b=>if a<b then 1 else 0
section
variable{N:Type}
inductive Tm (N:Type) where
 | num (n:Int)
 | nam (x:N)
 | bin (o:Op) (a b:Tm N)
noncomputable def Tm.val(f:N→Int):Tm N→Int
 | .num n=>n
 | .nam x=>f x
 | .bin o a b=>o.ap (a.val f) (b.val f)
noncomputable def Tm.dep:Tm N→Nat
 | .num _=>0
 | .nam _=>0
 | .bin _ a b=>max a.dep b.dep+1
noncomputable def Tm.names:Tm N→List N
 | .num _=>[]
 | .nam x=>[x]
 | .bin _ a b=>a.names++b.names
def Tm.Ok(P:N→Prop):Tm N→Prop
 | .num n=>0≤n∧n<997
 | .nam x=>P x
 | .bin _ a b=>a.Ok P∧b.Ok P
theorem Tm.Ok.names{P:N→Prop}:∀{t:Tm N},t.Ok P→∀x∈t.names,P x
 | .num _,_,x,hx=>by simp[Tm.names]at hx
 | .nam y,h,x,hx=>by
  have:x=y:=by simpa[Tm.names] using hx
  rw[this];exact h
 | .bin _ a b,h,x,hx=>by
  rcases List.mem_append.mp hx with hx | hx
  ·exact h.1.names x hx
  ·exact h.2.names x hx
mutual
inductive Dd (N:Type) where
 | put (x:N) (t:Tm N)
 | sho (l:Int) (t:Tm N)
 | ite (t:Tm N) (b c:Bl N)
 | whl (t:Tm N) (b:Bl N)
inductive Bl (N:Type) where
 | nil
 | cons (d:Dd N) (b:Bl N)
end
noncomputable def Bl.list:Bl N→List (Dd N)
 | .nil=>[]
 | .cons d b=>d::b.list
noncomputable def Bl.of:List (Dd N)→Bl N
 | []=>.nil
 | d::r=>.cons d (Bl.of r)
theorem Bl.list_of:∀l:List (Dd N),(Bl.of l).list=l
 | []=>rfl
 | d::r=>by show d::(Bl.of r).list=_;rw[Bl.list_of r]
noncomputable def Bl.app:Bl N→Bl N→Bl N
 | .nil,c=>c
 | .cons d b,c=>.cons d (b.app c)
theorem Bl.list_app:∀b c:Bl N,(b.app c).list=b.list++c.list
 | .nil,_=>rfl
 | .cons d b,c=>by show d::(b.app c).list=_;rw[Bl.list_app b c];rfl
mutual
noncomputable def Dd.size:Dd N→Nat
 | .put _ _=>1
 | .sho _ _=>1
 | .ite _ b c=>b.size+c.size+1
 | .whl _ b=>b.size+1
noncomputable def Bl.size:Bl N→Nat
 | .nil=>0
 | .cons d b=>d.size+b.size
end
mutual
noncomputable def Dd.dep:Dd N→Nat
 | .put _ t=>t.dep
 | .sho _ t=>t.dep
 | .ite t b c=>max t.dep (max b.dep c.dep)+1
 | .whl t b=>max t.dep b.dep+1
noncomputable def Bl.dep:Bl N→Nat
 | .nil=>0
 | .cons d b=>max d.dep b.dep
end
mutual
def Dd.Ok(P:N→Prop):Dd N→Prop
 | .put x t=>P x∧t.Ok P
 | .sho l t=>(0≤l∧l<3)∧t.Ok P
 | .ite t b c=>t.Ok P∧b.Ok P∧c.Ok P
 | .whl t b=>t.Ok P∧b.Ok P
def Bl.Ok(P:N→Prop):Bl N→Prop
 | .nil=>True
 | .cons d b=>d.Ok P∧b.Ok P
end
theorem Dd.size_pos:∀d:Dd N,0<d.size
 | .put _ _=>Nat.one_pos
 | .sho _ _=>Nat.one_pos
 | .ite _ _ _=>Nat.succ_pos _
 | .whl _ _=>Nat.succ_pos _
noncomputable def sizes:List (Dd N)→Nat
 | []=>0
 | d::r=>d.size+sizes r
theorem M6:∀b:Bl N,sizes b.list=b.size
 | .nil=>rfl
 | .cons d b=>by show d.size+sizes b.list=d.size+b.size;rw[M6 b]
theorem X7:∀{l:List (Dd N)} {d:Dd N},d∈l→d.size≤sizes l
 | [],_,h=>nomatch h
 | e::r,d,h=>by
  rcases List.mem_cons.mp h with h | h
  ·subst h;exact Nat.le_add_right _ _
  ·exact Nat.le_trans (X7 h) (Nat.le_add_left _ _)
theorem Bl.Ok.mem{P:N→Prop}:∀{b:Bl N},b.Ok P→∀d∈b.list,d.Ok P
 | .nil,_,d,h=>nomatch h
 | .cons e b,h,d,hd=>by
  rcases List.mem_cons.mp hd with hd | hd
  ·subst hd;exact h.1
  ·exact Bl.Ok.mem h.2 d hd
theorem Bl.dep_mem:∀{b:Bl N} {d:Dd N},d∈b.list→d.dep≤b.dep
 | .nil,_,h=>nomatch h
 | .cons e b,d,h=>by
  rcases List.mem_cons.mp h with h | h
  ·subst h;exact Nat.le_max_left _ _
  ·exact Nat.le_trans (Bl.dep_mem h) (Nat.le_max_right _ _)
variable [DecidableEq N]
noncomputable def setF(f:N→Int)(x:N)(v:Int):N→Int:=fun y=>if y=x then v else f y
structure S(N:Type) where
 st:List (Dd N)
 f:N→Int
 sh:List (Int×Int)
 t:Int
structure R(N:Type) where
 t:Option Int
 f:N→Int
 sh:List (Int×Int)
noncomputable def step(most:Int)(s:S N):S N ⊕ R N:=match s.st with
 | []=>.inr ⟨some s.t,s.f,s.sh⟩
 | .put x e::r=>.inl ⟨r,setF s.f x (e.val s.f),s.sh,s.t⟩
 | .sho l e::r=>.inl ⟨r,s.f,s.sh++[(l,e.val s.f)],s.t⟩
 | .ite e b c::r=>.inl ⟨(if e.val s.f≠0 then b.list else c.list)++r,s.f,s.sh,s.t⟩
 | .whl e b::r=>if e.val s.f≠0 then (if s.t≥most then .inr ⟨none,s.f,s.sh⟩ else .inl ⟨b.list++.whl e b::r,s.f,s.sh,s.t+1⟩) else .inl ⟨r,s.f,s.sh,s.t⟩
inductive Runs (most:Int):S N→R N→Prop where
 | done {s:S N} {r:R N}:step most s=.inr r→Runs most s r
 | next {s s':S N} {r:R N}:step most s=.inl s'→Runs most s' r→Runs most s r
inductive Reach (most:Int):S N→S N→Prop where
 | refl {s:S N}:Reach most s s
 | tail {s s' s'':S N}:Reach most s s'→step most s'=.inl s''→Reach most s s''
noncomputable def page(sh:List (Int×Int))(l:Int):List Int:=(sh.filter fun p=>p.1=l).map (·.2)
end
end WW
end
section
namespace WL
open PySem L2
@[simp] theorem ofString_eq {a b:String}:(Str.ofString a=Str.ofString b)=(a=b):=by
 apply propext
 refine⟨fun h=>?_,fun h=>by rw[h]⟩
 rw[Str.ofString_eq_toList,Str.ofString_eq_toList]at h
 have h1:a.toList.map Char.toNat=b.toList.map Char.toNat:=by simpa using congrArg (fun s:Str=>s.cps.toList) h
 have h2:a.toList=b.toList:=List.map_inj_right (fun x y h=>Char.toNat_inj.mp h) |>.mp h1
 exact String.toList_inj.mp h2
section
variable{C:String→List D→Mem→Option (D×Mem)}{W:Nat}{m:Mem}
@[simp] theorem zE (a b:Str):eqD (.str a) (.str b)=some (decide (a=b)):=rfl
@[simp] theorem zF (a b:Int):eqD (.int a) (.int b)=some (decide (a=b)):=rfl
@[simp] theorem zU (a b:D):cmpD .eq a b=eqD a b:=rfl
@[simp] theorem zO (a b:D):cmpD .ne a b=(eqD a b).map (!·):=rfl
@[simp] theorem zP (a b:Int):cmpD .lt (.int a) (.int b)=some (decide (a<b)):=rfl
@[simp] theorem zQ (a b:Int):cmpD .le (.int a) (.int b)=some (decide (a≤b)):=rfl
@[simp] theorem cmp_gt (a b:Int):cmpD .gt (.int a) (.int b)=some (decide (b<a)):=rfl
@[simp] theorem zT (a b:Int):cmpD .ge (.int a) (.int b)=some (decide (b≤a)):=rfl
@[simp] theorem zR (a:D):cmpD .is a .non=some a.isNon:=rfl
@[simp] theorem zG (a:D) (b:Bool):cmpD .is a (.bl b)=some (a.isBl b):=rfl
@[simp] theorem wK (a:D) (b:Bool):cmpD .isnot a (.bl b)=some (!a.isBl b):=rfl
@[simp] theorem zB (b c:Bool):D.isBl b (.bl c)=(c==b):=rfl
@[simp] theorem wY (a:D):cmpD .isnot a .non=some (!a.isNon):=rfl
@[simp] theorem wW:D.isNon .non=true:=rfl
@[simp] theorem wX (i:Int):D.isNon (.int i)=false:=rfl
@[simp] theorem uE (b:Bool):truD (.bl b) m=some b:=rfl
@[simp] theorem yZ (xs:List D):truD (.lst xs) m=some (!xs.isEmpty):=rfl
@[simp] theorem zJ (a b:Int):binD .add (.int a) (.int b) m=some (.int (a+b),m):=rfl
@[simp] theorem zH (a b:Int):binD .sub (.int a) (.int b) m=some (.int (a-b),m):=rfl
theorem RM{a b:Int}(h:-(2 ^ 64)<b∧b<2 ^ 64):binD .mul (.int a) (.int b) m=some (.int (a*b),m):=if_pos (.inr h)
theorem JK{a b:Int}(h:-(2 ^ 64)<a∧a<2 ^ 64):binD .mul (.int a) (.int b) m=some (.int (a*b),m):=if_pos (.inl h)
theorem JR{a b:Int}(h:0<b):binD .mod (.int a) (.int b) m=some (.int (a % b),m):=if_pos h
theorem dU{a b:Str}(h:a.length+b.length≤1000):binD .add (.str a) (.str b) m=some (.str (a++b),m):=if_pos h
theorem J1{a b:List D}(h:a.length+b.length≤10000):binD .add (.tup a) (.tup b) m=some (.tup (a++b),m):=if_pos h
@[simp] theorem ix_tup (xs:List D) (i:Int):ixD (.tup xs) (.int i) m=atI xs i:=rfl
@[simp] theorem zN (xs:List D) (i:Int):ixD (.lst xs) (.int i) m=atI xs i:=rfl
@[simp] theorem zM (xs:List Int) (i:Int):ixD (.scr xs) (.int i) m=(atI xs i).map .int:=rfl
theorem J7{α:Type}{xs:List α}{i:Nat}:atI xs (i:Int)=xs[i]?:=by
 unfold atI ixN
 by_cases h:i<xs.length
 ·rw[if_pos (Int.natCast_nonneg i),if_pos (by lia)]
  simp
 ·rw[if_pos (Int.natCast_nonneg i),if_neg (by lia)]
  simp[List.getElem?_eq_none (by lia:xs.length≤i)]
@[simp] theorem zY {α:Type} {a:α} {r:List α}:atI (a::r) 0=some a:=J7 (i:=0)
@[simp] theorem zX {α:Type} {a b:α} {r:List α}:atI (a::b::r) 1=some b:=J7 (i:=1)
@[simp] theorem zW {α:Type} {a b c:α} {r:List α}:atI (a::b::c::r) 2=some c:=J7 (i:=2)
@[simp] theorem zV {α:Type} {a b c d:α} {r:List α}:atI (a::b::c::d::r) 3=some d:=J7 (i:=3)
@[simp] theorem xK (i:Int):D.clean (.int i)=true:=rfl
@[simp] theorem xG (i:Str):D.clean (.str i)=true:=rfl
@[simp] theorem yV (i:Bool):D.clean (.bl i)=true:=rfl
@[simp] theorem xH:D.clean .non=true:=rfl
@[simp] theorem wZ (xs:List D):D.clean (.tup xs)=D.clean.cleans xs:=rfl
@[simp] theorem xJ (xs:List D):D.clean (.lst xs)=D.clean.cleans xs:=rfl
@[simp] theorem wL:D.clean.cleans []=true:=rfl
@[simp] theorem tV (a:D) (r:List D):D.clean.cleans (a::r)=(a.clean&&D.clean.cleans r):=rfl
theorem SJ{n:Nat}{d:D}(h:d.clean=true):outD n m d=some d:=by
 cases d with
 | mref i=>cases h
 | _=>simp only[outD,h,if_true]
theorem KR{Γ:String→Option Fn}{f:String}{F:Fn}{xs:List D}{n:Nat}(h:Γ f=some F)(hl:xs.length=F.ps):callI W Γ (n+1) f xs m=(exs (callI W Γ n) W F.body (xs.map some++List.replicate (F.ns-F.ps) none) m).bind fun z=>match z.1 with
    | .rt d=>(outD m.length z.2 d).map fun d=>(d,z.2.take m.length)
    | .nx _=>some (.non,z.2.take m.length):=by
 show (Γ f).bind _=_
 rw[h,Option.bind_some,if_pos hl]<;>
 rfl
theorem CW{Γ:String→Option Fn}{f:String}{F:Fn}{xs:List D}{n:Nat}{d:D}(h:Γ f=some F)(hl:xs.length=F.ps)(hc:d.clean=true)(e:exs (callI W Γ n) W F.body (xs.map some++List.replicate (F.ns-F.ps) none) m=some (.rt d,m)):callI W Γ (n+1) f xs m=some (d,m):=by
 rw[KR h hl,e]
 simp only[Option.bind_some,SJ hc,Option.map_some,List.take_length]
@[simp] theorem zA {xs:List D}:Walk.ok ⟨xs,none⟩ m=true:=rfl
end
end WL
namespace WL
open PySem L2
section
variable{C:String→List D→Mem→Option (D×Mem)}{W:Nat}{m:Mem}
theorem Z4{w:Walk}{f:D→Mem→Option (Option D×Mem)}{g:D→Option D}(e:w.ok m=true):∀{xs:List D},(∀d∈xs,f d m=some (g d,m))→compL w f xs m=some (xs.filterMap g,m)
 | [],_=>by simp[compL,e]
 | d::r,h=>by
  simp only[compL,e,if_true,h d List.mem_cons_self,Option.bind_some]
  rw[Z4 e fun x hx=>h x (List.mem_cons_of_mem _ hx)]
  cases hp:g d<;>simp[List.filterMap_cons,hp]
theorem lR{k:Nat}{g:Tg}{i:Ie}{t:Te}{e:Ex}{σ:DS}{xs:List D}{q:Option Nat}{h:D→Option D}(hw:Walk.ok ⟨xs,q⟩ m=true)(ho:outT σ.length g=true)(hi:ei C i σ m=some (⟨xs,q⟩,m))(hl:xs.length≤1000)
  (hf:∀d∈xs,∃σ1 c,bindT g d (σ++List.replicate k none)=some σ1∧et C t σ1 m=some (c,m)∧(if c=true then (h d).isSome=true∧ev C e σ1 m=some ((h d).getD .non,m) else h d=none)):ev C (.comp false k g i t e) σ m=some (.lst (xs.filterMap h),m):=by
 have key:=Z4 (w:=⟨xs,q⟩) (m:=m) (g:=h) hw (xs:=xs) (f:=fun d m=>(bindT g d (σ++List.replicate k none)).bind fun σ1=>(et C t σ1 m).bind fun(c,m2)=>if c then (ev C e σ1 m2).map fun(y,m3)=>(some y,m3) else some (none,m2)) (fun d hd=>by
  obtain⟨σ1,c,e1,e2,e3⟩:=hf d hd
  cases c with
  | true=>
   rw[if_pos rfl]at e3
   obtain⟨e3,e4⟩:=e3
   simp only[e1,e2,Option.bind_some,if_true,e4,Option.map_some]
   cases hh:h d with
   | none=>rw[hh]at e3;cases e3
   | some y=>rfl
  | false=>
   rw[if_neg (by decide)]at e3
   simp only[e1,e2,Option.bind_some,e3]
   rfl)
 show (if outT σ.length g=true then (ei C i σ m).bind _ else none)=_
 rw[if_pos ho,hi]
 simp only[Option.bind_some]
 rw[key]
 simp only[Option.bind_some,mkL]
 have:=List.length_filterMap_le h xs
 rw[if_pos (by lia)]
 rfl
theorem cW{k:Nat}{g:Tg}{i:Ie}{t:Te}{e:Ex}{σ:DS}{xs:List D}{h:D→Option D}(ho:outT σ.length g=true)(hi:ei C i σ m=some (⟨xs,none⟩,m))(hl:xs.length≤1000)
  (hf:∀d∈xs,∃σ1 c,bindT g d (σ++List.replicate k none)=some σ1∧et C t σ1 m=some (c,m)∧(if c=true then (h d).isSome=true∧ev C e σ1 m=some ((h d).getD .non,m) else h d=none)):ev C (.comp false k g i t e) σ m=some (.lst (xs.filterMap h),m):=lR rfl ho hi hl hf
theorem IK{k:Nat}{g:Tg}{i:Ie}{t:Te}{e:Ex}{σ:DS}{xs:List D}(h:D→D)(ho:outT σ.length g=true)(hi:ei C i σ m=some (⟨xs,none⟩,m))(hl:xs.length≤1000)
  (hf:∀d∈xs,∃σ1,bindT g d (σ++List.replicate k none)=some σ1∧et C t σ1 m=some (true,m)∧ev C e σ1 m=some (h d,m)):ev C (.comp false k g i t e) σ m=some (.lst (xs.map h),m):=by
 have:=cW (C:=C) (k:=k) (g:=g) (i:=i) (t:=t) (e:=e) (h:=fun d=>some (h d)) ho hi hl (fun d hd=>by
  obtain⟨σ1,e1,e2,e3⟩:=hf d hd
  exact⟨σ1,true,e1,e2,by rw[if_pos rfl];exact⟨rfl,e3⟩⟩)
 rw[this,List.filterMap_eq_map']
end
theorem S7{C:String→List D→Mem→Option (D×Mem)}:ev C (.var i) σ m=match σ[i]? with | some (some d)=>some (d,m) | _=>none:=rfl
theorem uM{C:String→List D→Mem→Option (D×Mem)}:ev C (.get d k z) σ m=(ev C d σ m).bind fun(x,m1)=>(dctOf x m1).bind fun _=>(ev C k σ m1).bind fun(y,m2)=>(ev C z σ m2).bind fun(u,m3)=>(dctOf x m3).bind fun(ks,vs)=>(keyD y).map fun k=>((lookD ks vs k).getD u,m3):=rfl
end WL
end
section
namespace WL
open PySem L2
section
variable{C:String→List D→Mem→Option (D×Mem)}{W:Nat}{m m1 m2:Mem}{σ σ':DS}{r a b:Sms}{X:Option (Out×Mem)}{e:Ex}{t:Te}{d:D}{i:Nat}{g:Tg}
theorem CK(h:ev C e σ m=some (d,m1))(k:exs C W r (σ.set i (some d)) m1=X):exs C W (.cons (.set i e) r) σ m=X:=by
 show ((ev C e σ m).map _).bind _=_;rw[h];exact k
theorem u5(h:ev C e σ m=some (d,m1))(hb:bindT g d σ=some σ')(k:exs C W r σ' m1=X):exs C W (.cons (.asg g e) r) σ m=X:=by
 show ((ev C e σ m).bind _).bind _=_;rw[h];show ((bindT g d σ).map _).bind _=X;rw[hb];exact k
theorem G6(h:ev C e σ m=some (d,m1))(k:exs C W r σ m1=X):exs C W (.cons (.drop e) r) σ m=X:=by
 show ((ev C e σ m).map _).bind _=_;rw[h];exact k
theorem CP(h:ev C e σ m=some (d,m1)):exs C W (.cons (.ret e) r) σ m=some (.rt d,m1):=by
 show ((ev C e σ m).map _).bind _=_;rw[h];rfl
theorem DQ(h:et C t σ m=some (false,m1))(k:exs C W r σ m1=X):exs C W (.cons (.ite t a .nil) r) σ m=X:=by
 show ((et C t σ m).bind _).bind _=_;rw[h];show (exs C W .nil σ m1).bind _=X;exact k
theorem FP(h:et C t σ m=some (true,m1))(k:exs C W a σ m1=some (.rt d,m2)):exs C W (.cons (.ite t a b) r) σ m=some (.rt d,m2):=by
 show ((et C t σ m).bind _).bind _=_;rw[h];show (exs C W a σ m1).bind _=_;rw[k];rfl
theorem GQ(h:et C t σ m=some (true,m1))(k:exs C W a σ m1=some (.nx σ',m2))(q:exs C W r σ' m2=X):exs C W (.cons (.ite t a b) r) σ m=X:=by
 show ((et C t σ m).bind _).bind _=_;rw[h];show (exs C W a σ m1).bind _=_;rw[k];exact q
theorem NT{i:Ie}{w:Walk}(h:ei C i σ m=some (w,m1))(k:forL w g (fun σ m=>exs C W b σ m) w.xs σ m1=some (.nx σ',m2))(q:exs C W r σ' m2=X):exs C W (.cons (.fr g i b) r) σ m=X:=by
 show ((ei C i σ m).bind _).bind _=_;rw[h];show (forL w g (fun σ m=>exs C W b σ m) w.xs σ m1).bind _=_;rw[k];exact q
theorem GP{p:Prop}[Decidable p](h:et C t σ m=some (decide p,m1))(hp:p):et C t σ m=some (true,m1):=by
 rw[h,decide_eq_true hp]
theorem G7{p:Prop}[Decidable p](h:et C t σ m=some (decide p,m1))(hp:¬p):et C t σ m=some (false,m1):=by
 rw[h,decide_eq_false hp]
theorem yQ{c c':Bool}(h:et C t σ m=some (c,m1))(hc:c=c'):et C t σ m=some (c',m1):=hc▸h
theorem JN{s:Te}{c:Bool}(h:et C t σ m=some (true,m1))(k:et C s σ m1=some (c,m2)):et C (.and t s) σ m=some (c,m2):=by
 show (et C t σ m).bind _=_;rw[h];exact k
theorem QJ{s:Te}(h:et C t σ m=some (false,m1)):et C (.and t s) σ m=some (false,m1):=by
 show (et C t σ m).bind _=_;rw[h];rfl
theorem cX{s:Te}{c:Bool}(h:et C t σ m=some (false,m1))(k:et C s σ m1=some (c,m2)):et C (.or t s) σ m=some (c,m2):=by
 show (et C t σ m).bind _=_;rw[h];exact k
theorem lV{s:Te}(h:et C t σ m=some (true,m1)):et C (.or t s) σ m=some (true,m1):=by
 show (et C t σ m).bind _=_;rw[h];rfl
theorem GJ{c:Bool}(h:ev C e σ m=some (d,m1))(k:truD d m1=some c):et C (.val e) σ m=some (c,m1):=by
 show (ev C e σ m).bind _=_;rw[h];show (truD d m1).map _=_;rw[k];rfl
theorem BX{f:String}{as:Exs}{xs:List D}{z:D×Mem}(k:C f xs m1=some z)(h:evs C as σ m=some (xs,m1)):ev C (.call f as) σ m=some z:=by
 show (evs C as σ m).bind _=_;rw[h];exact k
theorem BW{as:Exs}{xs:List D}(h:ev C e σ m=some (d,m1))(k:evs C as σ m1=some (xs,m2)):evs C (.cons e as) σ m=some (d::xs,m2):=by
 show (ev C e σ m).bind _=_;rw[h];show (evs C as σ m1).map _=_;rw[k];rfl
theorem DN{o:BOp}{e2:Ex}{d2:D}{z:D×Mem}(h:ev C e σ m=some (d,m1))(k:ev C e2 σ m1=some (d2,m2))(q:binD o d d2 m2=some z):ev C (.bin o e e2) σ m=some z:=by
 show (ev C e σ m).bind _=_;rw[h];show (ev C e2 σ m1).bind _=_;rw[k];exact q
theorem G9{o:COp}{e2:Ex}{d2:D}{c:Bool}(h:ev C e σ m=some (d,m1))(k:ev C e2 σ m1=some (d2,m2))(q:cmpD o d d2=some c):ev C (.cmp o e e2) σ m=some (.bl c,m2):=by
 show (ev C e σ m).bind _=_;rw[h];show (ev C e2 σ m1).bind _=_;rw[k];show (cmpD o d d2).map _=_;rw[q];rfl
theorem VN{e2:Ex}{xs ys:List D}(h:ev C e σ m=some (.lst xs,m1))(k:ev C e2 σ m1=some (.lst ys,m2))(hl:xs.length+ys.length≤10000):ev C (.cat false e e2) σ m=some (.lst (xs++ys),m2):=by
 show (ev C e σ m).bind _=_;rw[h];show (ev C e2 σ m1).bind _=_;rw[k];show (if xs.length+ys.length≤10000 then some (mkL false (xs++ys) m2) else none)=_;rw[if_pos hl];rfl
theorem HJ{e2:Ex}{d2 d3:D}(h:ev C e σ m=some (d,m1))(k:ev C e2 σ m1=some (d2,m2))(q:ixD d d2 m2=some d3):ev C (.ix e e2) σ m=some (d3,m2):=by
 show (ev C e σ m).bind _=_;rw[h];show (ev C e2 σ m1).bind _=_;rw[k];show (ixD d d2 m2).map _=_;rw[q];rfl
theorem FZ{as:Exs}{xs:List D}(h:evs C as σ m=some (xs,m1))(hl:xs.length≤1000):ev C (.tup as) σ m=some (.tup xs,m1):=by
 show (evs C as σ m).bind _=_;rw[h];show (if xs.length≤1000 then some (D.tup xs,m1) else none)=_;rw[if_pos hl]
theorem rU{e2:Ex}{i j:Int}(h:ev C e σ m=some (.int i,m1))(k:ev C e2 σ m1=some (.int j,m2)):ev C (.max2 e e2) σ m=some (.int (if j > i then j else i),m2):=by
 show (ev C e σ m).bind _=_;rw[h];show (ev C e2 σ m1).bind _=_;rw[k];rfl
theorem aY{s:Te}{c c2:Bool}(h:et C t σ m=some (c,m1))(k:et C s σ m1=some (c2,m1)):et C (.or t s) σ m=some (c||c2,m1):=by
 show (et C t σ m).bind _=_;rw[h];cases c
 ·exact k
 ·rfl
theorem uD{xs:List D}(h:xs≠[]):truD (.lst xs) m=some true:=by
 cases xs with
 | nil=>exact absurd rfl h
 | cons a r=>rfl
theorem G3{o:B1}{z:D×Mem}(h:ev C e σ m=some (d,m1))(q:b1D o d m1=some z):ev C (.b1 o e) σ m=some z:=by
 show (ev C e σ m).bind _=_;rw[h];exact q
theorem K9(h:et C t σ m=some (false,m1))(k:exs C W b σ m1=some (.nx σ',m2))(q:exs C W r σ' m2=X):exs C W (.cons (.ite t a b) r) σ m=X:=by
 show ((et C t σ m).bind _).bind _=_;rw[h];show (exs C W b σ m1).bind _=_;rw[k];exact q
theorem u0{dd k v:Ex}{z y:D}{m3:Mem}{i:Nat}{kk:Key}{ks:List Key}{vs:List D}(hv:ev C v σ m=some (z,m1))(hd:ev C dd σ m1=some (.mref i,m2))(hk:ev C k σ m2=some (y,m3))(hm:m3[i]?=some (.dct ks vs))(hy:keyD y=some kk)(hc:z.clean=true)(hl:ks.length<10000)(q:exs C W r σ (m3.set i (.dct (putD ks vs kk z).1 (putD ks vs kk z).2))=X):exs C W (.cons (.put dd k v) r) σ m=X:=by
 show ((ev C v σ m).bind _).bind _=_;rw[hv];show ((ev C dd σ m1).bind _).bind _=_;rw[hd];show ((ev C k σ m2).bind _).bind _=_;rw[hk]
 simp only[Option.bind_some,hm,hy,hc,hl,decide_true,Bool.and_self,if_true]
 exact q
theorem lU{e2:Ex}{i:Nat}{xs:List D}(h:ev C e σ m=some (.mref i,m))(k:ev C e2 σ m=some (d,m))(hm:m[i]?=some (.lst xs))(hc:d.clean=true)(hl:xs.length<100000):ev C (.app e e2) σ m=some (.non,m.set i (.lst (xs++[d]))):=by
 show (ev C e σ m).bind _=_
 rw[h]
 show (lstOf (.mref i) m).bind _=_
 rw[show lstOf (.mref i) m=some xs by simp only[lstOf,hm]]
 show (ev C e2 σ m).bind _=_
 rw[k]
 simp only[Option.bind_some,hm,hc,hl,decide_true,Bool.and_self,if_true]
theorem RG{e2:Ex}{i:Nat}{xs ys:List D}(h:ev C e σ m=some (.mref i,m))(k:ev C e2 σ m=some (.lst ys,m))(hm:m[i]?=some (.lst xs))(hc:D.clean.cleans ys=true)(hl:xs.length+ys.length≤100000):ev C (.ext e e2) σ m=some (.non,m.set i (.lst (xs++ys))):=by
 show (ev C e σ m).bind _=_
 rw[h]
 show (lstOf (.mref i) m).bind _=_
 rw[show lstOf (.mref i) m=some xs by simp only[lstOf,hm]]
 show (ev C e2 σ m).bind _=_
 rw[k]
 simp only[Option.bind_some,hm,hc,hl,decide_true,Bool.and_self,if_true]
theorem wG{i:Nat}{xs:List D}(h:ev C e σ m=some (.mref i,m))(hm:m[i]?=some (.lst xs))(hx:xs[xs.length-1]?=some d):ev C (.pop e) σ m=some (d,m.set i (.lst xs.dropLast)):=by
 show (ev C e σ m).bind _=_
 rw[h]
 simp only[Option.bind_some,hm,hx,Option.map_some]
theorem rY{e2:Ex}{i:Nat}{xs ys:List D}(h:ev C e σ m=some (.mref i,m))(k:ev C e2 σ m=some (.tup ys,m))(hm:m[i]?=some (.lst xs))(hc:D.clean.cleans ys=true)(hl:xs.length+ys.length≤100000):ev C (.ext e e2) σ m=some (.non,m.set i (.lst (xs++ys))):=by
 show (ev C e σ m).bind _=_
 rw[h]
 show (lstOf (.mref i) m).bind _=_
 rw[show lstOf (.mref i) m=some xs by simp only[lstOf,hm]]
 show (ev C e2 σ m).bind _=_
 rw[k]
 simp only[Option.bind_some,hm,hc,hl,decide_true,Bool.and_self,if_true]
theorem iB{i:Nat}{xs:List D}(h:m[i]?=some (.lst xs)):truD (.mref i) m=some (!xs.isEmpty):=by
 show (match m[i]? with | some (.lst xs)=>some (!xs.isEmpty) | some (.dct ks _)=>some (!ks.isEmpty) | _=>none)=_
 rw[h]
theorem rW{e2:Ex}{sep:Str}{xs:List D}{ys:List Str}(h:ev C e σ m=some (.str sep,m1))(k:ev C e2 σ m1=some (.lst xs,m2))(hs:strsOf xs=some ys)(hl:(ys.map (·.length)).sum+ys.length*sep.length≤100000):ev C (.join e e2) σ m=some (.str (Txt.join sep ys),m2):=by
 show (ev C e σ m).bind _=_;rw[h];show (ev C e2 σ m1).bind _=_;rw[k];show (strsOf xs).bind _=_;rw[hs];exact if_pos hl
theorem lO{e2:Ex}{x y:D}{xs:List D}{k:Nat}(h:ev C e σ m=some (x,m))(hx:lstOf x m=some xs)(h2:ev C e2 σ m=some (y,m))(hf:(y.flat&&xs.all D.flat&&decide (xs.length<1000))=true)(hd:findD y xs 0=some k):ev C (.index e e2) σ m=some (.int k,m):=by
 show (ev C e σ m).bind _=_;rw[h];show (lstOf x m).bind _=_;rw[hx];show (ev C e2 σ m).bind _=_;rw[h2];show (lstOf x m).bind _=_;rw[hx];show (if _=true then (findD y xs 0).map _ else none)=_;rw[if_pos hf,hd];rfl
theorem nU{dd k:Ex}{y:D}{i:Nat}{ks:List FK}{kk:FK}(hd:ev C dd σ m=some (.mref i,m))(hk:ev C k σ m=some (y,m))(hm:m[i]?=some (.fd ks))(hy:fkD y=some kk)(hl:ks.length<10000)(q:exs C W r σ (m.set i (.fd (addF ks kk)))=X):exs C W (.cons (.fput dd k) r) σ m=X:=by
 show ((ev C dd σ m).bind _).bind _=_;rw[hd];show ((ev C k σ m).bind _).bind _=_;rw[hk]
 simp only[Option.bind_some,hm,hy,hl,if_true]
 exact q
theorem lX{j:Int}(h:ev C e σ m=some (.int j,m1))(hj:-(2 ^ 62)≤j∧j<2 ^ 62):ei C (.rng e) σ m=some (⟨(List.range j.toNat).map fun(i:Nat)=>.int i,none⟩,m1):=by
 show (ev C e σ m).bind _=_;rw[h];exact if_pos hj
theorem sne{a b:String}(h:a≠b):¬Str.ofString a=Str.ofString b:=fun q=>h (ofString_eq.mp q)
theorem NZ{m':Mem}(h:m=m'):exs C W .nil σ m=some (.nx σ,m'):=by rw[h];rfl
theorem jW{e1 e2:Ex}{r:Exs}{a k j:Int}{ds:List D}(hk:-(2 ^ 64)<k∧k<2 ^ 64)(h1:ev C e1 σ m=some (d,m))(h2:ev C e2 σ m=some (.int a,m))(h3:evs C r σ m=some (ds,m)):evs C (.cons e1 (.cons (.bin .add (.bin .mul e2 (.con (.int k))) (.con (.int j))) r)) σ m=some (d::.int (a*k+j)::ds,m):=
 BW h1 (BW (DN (DN h2 rfl (RM hk)) rfl rfl) h3)
theorem wH{as:Exs}{xs:List D}(h:evs C as σ m=some (xs,m1))(hl:xs.length≤1000):ev C (.lst false as) σ m=some (.lst xs,m1):=by
 show (evs C as σ m).bind _=_
 rw[h];show (if xs.length≤1000 then some (mkL false xs m1) else none)=_
 rw[if_pos hl];rfl
theorem FW{σ1:DS}{w:Walk}{g:Tg}{b:DS→Mem→Option (Out×Mem)}{r:List D}{X:Option (Out×Mem)}(hw:w.ok m=true)(hb:bindT g d σ=some σ1)(h:b σ1 m=some (.nx σ',m1))(k:forL w g b r σ' m1=X):forL w g b (d::r) σ m=X:=by
 rw[forL,if_pos hw,hb]
 show (b σ1 m).bind _=_
 rw[h];exact k
theorem R8{w:Walk}{g:Tg}{b:DS→Mem→Option (Out×Mem)}(hw:w.ok m=true):forL w g b [] σ m=some (.nx σ,m):=by
 rw[forL,if_pos hw]
theorem KY{Γ:String→Option Fn}{f:String}{F:Fn}{xs:List D}{n:Nat}{q:Mem}(h:Γ f=some F)(hl:xs.length=F.ps)(hc:d.clean=true)(e:exs (callI W Γ n) W F.body (xs.map some++List.replicate (F.ns-F.ps) none) m=some (.rt d,m++q)):callI W Γ (n+1) f xs m=some (d,m):=by
 rw[KR h hl,e]
 show (outD m.length (m++q) d).map _=_
 rw[SJ hc]
 show some (d,(m++q).take m.length)=_
 rw[List.take_left]
theorem sI{xs:List D}(h:ev C e σ m=some (.lst xs,m1)):ei C (.enum e) σ m=some (⟨enumD xs 0,none⟩,m1):=by
 show (ev C e σ m).bind _=_;rw[h];rfl
theorem sH{xs:List D}(h:ev C e σ m=some (.tup xs,m1)):ei C (.seq e) σ m=some (⟨xs,none⟩,m1):=by
 show (ev C e σ m).bind _=_;rw[h];rfl
theorem W0{xs:List D}(h:ev C e σ m=some (.lst xs,m1)):ei C (.seq e) σ m=some (⟨xs,none⟩,m1):=by
 show (ev C e σ m).bind _=_;rw[h];rfl
theorem tZ(h:whlL (et C t) (fun σ m=>exs C W b σ m) W σ m=some (.nx σ',m1))(q:exs C W r σ' m1=X):exs C W (.cons (.whl t b) r) σ m=X:=by
 show (whlL (et C t) (fun σ m=>exs C W b σ m) W σ m).bind _=_;rw[h];exact q
theorem lW{i:Int}(h:ev C e σ m=some (.int i,m1)):eo C (.pt e) σ m=some (some i,m1):=by
 show (ev C e σ m).bind _=_;rw[h];rfl
theorem lN{lo hi:Oe}{l h:Option Int}{x:D}(ha:ev C e σ m=some (x,m))(hl:eo C lo σ m=some (l,m))(hh:eo C hi σ m=some (h,m))(q:slD x l h=some d):ev C (.sl e lo hi) σ m=some (d,m):=by
 show (ev C e σ m).bind _=_
 rw[ha];show (eo C lo σ m).bind _=_
 rw[hl];show (eo C hi σ m).bind _=_
 rw[hh];show (slD x l h).map _=_
 rw[q];rfl
end
noncomputable def frX:Sms→Sms
 | .cons (.fr _ _ b) _=>b
 | _=>.nil
end WL
end
section
namespace T
open PySem L2 WL WW
noncomputable def mixv(c p k:Int):Int:=c*48271 % p % k
theorem FT(c p:Int){k:Int}(h:0<k):0≤mixv c p k∧mixv c p k<k:=⟨Int.emod_nonneg _ (by lia),Int.emod_lt_of_pos _ h⟩
noncomputable def cellv(ns:List Int)(k:Nat):Int:=ns.getD k 0
section
variable{W:Nat}{Γ:String→Option Fn}{n:Nat}{m:Mem}
theorem IV(H:Γ "_law_mix" = some F_qmix){c p k:Int}(hp:0<p)(hk:0<k):callI W Γ (n+1) "_law_mix" [.int c,.int p,.int k] m=some (.int (mixv c p k),m):=by
 refine CW H rfl rfl ?_
 exact CP (DN (DN (DN rfl rfl (RM (by decide))) rfl (JR hp)) rfl (JR hk))
theorem MN(H:Γ "_law_cell" = some F_qcell){ns:List Int}{k:Nat}:callI W Γ (n+1) "_law_cell" [.scr ns,.int k] m=some (.int (cellv ns k),m):=by
 refine CW H rfl rfl ?_
 have e:b1D .len (.scr ns) m=some (.int ns.length,m):=by
  show some (D.int ((ns.map D.int).length:Nat),m)=_
  rw[List.length_map]
 by_cases h:k<ns.length
 ·have h1:ixD (.scr ns) (.int k) m=some (.int (cellv ns k)):=by
   show (atI ns (k:Int)).map D.int=_
   rw[J7,cellv,List.getD_eq_getElem?_getD,List.getElem?_eq_getElem h];rfl
  exact FP (GP (p:=(k:Int)<(ns.length:Int)) (GJ (G9 rfl (G3 rfl e) rfl) rfl) (by lia)) (CP (HJ rfl rfl h1))
 ·rw[show cellv ns k=0 by rw[cellv,List.getD_eq_getElem?_getD,List.getElem?_eq_none (by lia)];rfl]
  exact DQ (G7 (p:=(k:Int)<(ns.length:Int)) (GJ (G9 rfl (G3 rfl e) rfl) rfl) (by lia)) (CP rfl)
end
end T
end
section
namespace T
open PySem L2 WL WW
theorem letters:(Str.ofString "abcdefghijklmnopqrstuvwxyz").cps.toList=(List.range 26).map (97+·):=by decide +kernel
theorem YL:(Str.ofString "abcdefghijklmnopqrstuvwxyz").length=26:=by decide +kernel
theorem SQ{m:Mem}{i:Int}(h0:0≤i)(h1:i<26):ixD (.str (Str.ofString "abcdefghijklmnopqrstuvwxyz")) (.int i) m=some (.str ⟨#[97+i.toNat]⟩):=by
 show (if (Str.ofString "abcdefghijklmnopqrstuvwxyz").length≤1000 then (atI (Str.ofString "abcdefghijklmnopqrstuvwxyz").cps.toList i).map (fun c=>D.str ⟨#[c]⟩) else none)=_
 rw[if_pos (by rw[YL];lia),letters]
 obtain⟨k,rfl⟩:=Int.eq_ofNat_of_zero_le h0
 rw[J7]
 have:k<26:=by lia
 simp[this]
theorem yO{l:List Nat}(h:l.length≤2):Txt.join (Str.ofString "") (l.map fun c=>⟨#[c]⟩)=⟨l.toArray⟩:=by
 match l,h with
 | [],_=>decide
 | [a],_=>rfl
 | [a,b],_=>rfl
theorem bR(l:List Str):strsOf (l.map .str)=some l:=by
 induction l with
 | nil=>rfl
 | cons a r ih=>simp[strsOf,ih]
theorem iH(l:List Nat):strsOf (l.map fun q=>.str ⟨#[q]⟩)=some (l.map fun q=>⟨#[q]⟩):=by
 have:=bR (l.map fun q=>⟨#[q]⟩)
 rw[List.map_map]at this
 exact this
theorem len_str{z:Str}{m:Mem}(h:z.length≤1000):b1D .len (.str z) m=some (.int z.length,m):=if_pos h
theorem xM{z:Str}{j:Int}(h:z.length≤1000)(h0:0≤j)(h1:j≤z.cps.toList.length):slD (.str z) none (some j)=some (.str ⟨(z.cps.toList.take j.toNat).toArray⟩):=by
 show (if z.length≤1000 then some (D.str (StrLaws.sliceText z none (some j))) else none)=_
 rw[if_pos h,StrLaws.sliceText_to ⟨h0,h1⟩,List.drop_zero,Int.sub_zero]
theorem oN{z:Str}{j:Int}(h:z.length≤1000)(h0:0≤j)(h1:j≤z.cps.toList.length):slD (.str z) (some j) none=some (.str ⟨(z.cps.toList.drop j.toNat).toArray⟩):=by
 show (if z.length≤1000 then some (D.str (StrLaws.sliceText z (some j) none)) else none)=_
 rw[if_pos h,StrLaws.sliceText_from ⟨h0,h1⟩,List.take_of_length_le (by simp only[List.length_drop];omega)]
noncomputable def tailL(c:Int):List Nat:=(List.range (mixv c 9931 3).toNat).map fun(j:Nat)=>97+(mixv (c+3*j) 9941 26).toNat
noncomputable def atL(c:Int):Int:=mixv c 9929 ((tailL c).length+1)
noncomputable def signL(c:Int)(k:Nat):Nat:=97+((mixv c 9949 26+5*k) % 26).toNat
noncomputable def nameL(c:Int)(k:Nat):Str:=⟨((tailL c).take (atL c).toNat++[signL c k]++(tailL c).drop (atL c).toNat).toArray⟩
theorem iC(c:Int):(tailL c).length≤2:=by
 have:=FT c 9931 (k:=3) (by lia)
 simp only[tailL,List.length_map,List.length_range]
 lia
theorem tX(c:Int):0≤atL c∧atL c≤(tailL c).length:=by
 have:=FT c 9929 (k:=(tailL c).length+1) (by lia)
 unfold atL
 lia
section
variable{W:Nat}{Γ:String→Option Fn}{n:Nat}{m:Mem}
theorem wO(Hm:Γ "_law_mix" = some F_qmix)(Hc:Γ "_law_cell" = some F_qcell)(H:Γ "_law_name" = some F_qname){ns:List Int}{k:Nat}:callI W Γ (n+2) "_law_name" [.scr ns,.int k] m=some (.str (nameL (cellv ns 0) k),m):=by
 refine CW H rfl rfl ?_
 have hc:=MN (W:=W) (n:=n) (m:=m) Hc (ns:=ns) (k:=0)
 rw[Int.natCast_zero]at hc
 generalize cellv ns 0=c at hc ⊢
 have r1:=FT c 9931 (k:=3) (by lia)
 have r2:=iC c
 have r3:=tX c
 have comp:∀x y z,ev (callI W Γ (n+1)) (.comp false 1 (.nm 7) (.rng (.call "_law_mix" (.cons (.var 3) (.cons (.con (.int 9931)) (.cons (.con (.int 3)) .nil))))) .tt (.ix (.var 2) (.call "_law_mix" (.cons (.bin .add (.var 3) (.bin .mul (.con (.int 3)) (.var 7))) (.cons (.con (.int 9941)) (.cons (.con (.int 26)) .nil)))))) [some (.scr ns),some (.int k),some (.str (Str.ofString "abcdefghijklmnopqrstuvwxyz")),some (.int c),x,y,z] m=some (.lst ((tailL c).map fun q=>.str ⟨#[q]⟩),m):=by
  intro x y z
  rw[IK (xs:=(List.range (mixv c 9931 3).toNat).map fun(i:Nat)=>.int i) (fun d=>match d with | .int j=>.str ⟨#[97+(mixv (c+3*j) 9941 26).toNat]⟩ | _=>.non) rfl (lX (BX (IV Hm (by decide) (by decide)) rfl) (by lia)) (by rw[List.length_map,List.length_range];lia)]
  ·simp[tailL,Function.comp_def]
  ·intro d hd
   obtain⟨j,hj,rfl⟩:=List.mem_map.mp hd
   have r4:=FT (c+3*j) 9941 (k:=26) (by lia)
   refine⟨[some (.scr ns),some (.int k),some (.str (Str.ofString "abcdefghijklmnopqrstuvwxyz")),some (.int c),x,y,z,some (.int j)],rfl,rfl,HJ rfl (BX (IV Hm (by decide) (by decide)) (BW (DN rfl (DN rfl rfl (JK (by decide))) rfl) rfl)) (SQ r4.1 r4.2)⟩
 have r5:0≤(mixv c 9949 26+5*k) % 26∧(mixv c 9949 26+5*k) % 26<26:=by lia
 have join:=yO r2
 have hs:(((tailL c).map fun q=>(⟨#[q]⟩:Str)).map (·.length)).sum+((tailL c).map fun q=>(⟨#[q]⟩:Str)).length*(Str.ofString "").length≤100000:=by
  have:(Str.ofString "").length=0:=by decide
  rw[this]
  match tailL c,r2 with
  | [],_=>simp
  | [a],_=>simp[Str.length]
  | [a,b],_=>simp[Str.length]
 have l0:(⟨(tailL c).toArray⟩:Str).length≤1000:=by
  show (tailL c).toArray.size≤1000
  simp;lia
 have l1:(⟨(tailL c).toArray⟩:Str).length=(tailL c).length:=by show (tailL c).toArray.size=_;simp
 have e1:mixv c 9929 ((tailL c).length+1)=atL c:=rfl
 have s1:=xM l0 r3.1 (by simpa using r3.2)
 have s2:=oN l0 r3.1 (by simpa using r3.2)
 simp only[]at s1 s2
 have a1:(⟨((tailL c).take (atL c).toNat).toArray⟩:Str).length≤2:=by show ((tailL c).take (atL c).toNat).toArray.size≤2;simp;lia
 have a2:(⟨((tailL c).drop (atL c).toNat).toArray⟩:Str).length≤2:=by show ((tailL c).drop (atL c).toNat).toArray.size≤2;simp;lia
 have mx:callI W Γ (n+1) "_law_mix" [.int c,.int 9929,.int ((⟨(tailL c).toArray⟩:Str).length+1)] m=some (.int (atL c),m):=by
  rw[IV Hm (by lia) (by lia),l1];rfl
 have p1:∀(a b:List Nat),(⟨a.toArray⟩:Str)++(⟨b.toArray⟩:Str)=⟨(a++b).toArray⟩:=fun a b=>by
  show (⟨a.toArray++b.toArray⟩:Str)=_
  simp
 have b1:(⟨#[97+((mixv c 9949 26+5*k) % 26).toNat]⟩:Str).length=1:=rfl
 have p2:=p1 ((tailL c).take (atL c).toNat) [97+((mixv c 9949 26+5*k) % 26).toNat]
 have b2:((⟨((tailL c).take (atL c).toNat).toArray⟩:Str)++(⟨#[97+((mixv c 9949 26+5*k) % 26).toNat]⟩:Str)).length≤3:=by
  rw[show (#[97+((mixv c 9949 26+5*k) % 26).toNat]:Array Nat)=[97+((mixv c 9949 26+5*k) % 26).toNat].toArray from rfl,p2]
  show ((tailL c).take (atL c).toNat++[97+((mixv c 9949 26+5*k) % 26).toNat]).toArray.size≤3
  simp;lia
 have fin:(⟨((tailL c).take (atL c).toNat).toArray⟩:Str)++(⟨#[97+((mixv c 9949 26+5*k) % 26).toNat]⟩:Str)++(⟨((tailL c).drop (atL c).toNat).toArray⟩:Str)=nameL c k:=by
  rw[show (#[97+((mixv c 9949 26+5*k) % 26).toNat]:Array Nat)=[97+((mixv c 9949 26+5*k) % 26).toNat].toArray from rfl,p2,p1]
  rfl
 rw[←fin]
 exact CK rfl (CK (d:=.int c) (BX hc rfl) (CK (HJ rfl (DN (DN (BX (IV Hm (by decide) (by decide)) rfl) (DN rfl rfl (JK (by decide))) rfl) rfl (JR (by decide))) (SQ r5.1 r5.2)) (CK (d:=.str ⟨(tailL c).toArray⟩) (by rw[←join];exact rW rfl (comp _ _ _) (iH _) hs) (CK (BX mx (BW rfl (BW rfl (BW (DN (G3 rfl (len_str l0)) rfl rfl) rfl)))) (CP (DN (DN (lN rfl rfl (lW rfl) s1) rfl (dU (by rw[b1];lia))) (lN rfl (lW rfl) rfl s2) (dU (by lia))))))))
end
theorem cI(c:Int)(k:Nat):(nameL c k).cps.toList[(atL c).toNat]?=some (signL c k):=by
 have r:=tX c
 have:((tailL c).take (atL c).toNat).length=(atL c).toNat:=by simp;lia
 show ((tailL c).take (atL c).toNat++[signL c k]++(tailL c).drop (atL c).toNat)[(atL c).toNat]?=_
 rw[List.append_assoc,List.getElem?_append_right (by lia),this,Nat.sub_self]
 rfl
theorem YD{c:Int}{i j:Nat}(hi:i<4)(hj:j<4)(h:nameL c i=nameL c j):i=j:=by
 have h1:=cI c i
 rw[h,cI c j]at h1
 have h2:signL c j=signL c i:=Option.some.inj h1
 unfold signL at h2
 have:=FT c 9949 (k:=26) (by lia)
 lia
noncomputable def namesL(c:Int):List Str:=[nameL c 0,nameL c 1,nameL c 2,nameL c 3]
theorem names_nodup(c:Int):(namesL c).Nodup:=by
 have h:∀{i j:Nat},i<4→j<4→i≠j→nameL c i≠nameL c j:=fun hi hj hn e=>hn (YD hi hj e)
 simp only[namesL,List.nodup_cons,List.mem_cons,List.not_mem_nil,or_false,not_or,not_false_eq_true,List.nodup_nil,and_true]
 exact⟨⟨h (by decide) (by decide) (by decide),h (by decide) (by decide) (by decide),h (by decide) (by decide) (by decide)⟩,⟨h (by decide) (by decide) (by decide),h (by decide) (by decide) (by decide)⟩,h (by decide) (by decide) (by decide)⟩
theorem qX(c:Int)(k:Nat):∀q∈(nameL c k).cps.toList,97≤q∧q<123:=by
 intro q hq
 have hq:q∈(tailL c).take (atL c).toNat++[signL c k]++(tailL c).drop (atL c).toNat:=hq
 have ht:∀q∈tailL c,97≤q∧q<123:=fun q hq=>by
  obtain⟨j,_,rfl⟩:=List.mem_map.mp hq
  have:=FT (c+3*j) 9941 (k:=26) (by lia)
  lia
 simp only[List.mem_append,List.mem_singleton]at hq
 rcases hq with (hq | hq) | hq
 ·exact ht q (List.mem_of_mem_take hq)
 ·subst hq
  unfold signL
  lia
 ·exact ht q (List.mem_of_mem_drop hq)
section
variable{W:Nat}{Γ:String→Option Fn}{n:Nat}{m:Mem}
theorem QL(Hm:Γ "_law_mix" = some F_qmix)(Hc:Γ "_law_cell" = some F_qcell)(Hn:Γ "_law_name" = some F_qname)(H:Γ "_law_names" = some F_qnames){ns:List Int}:callI W Γ (n+3) "_law_names" [.scr ns] m=some (.lst ((namesL (cellv ns 0)).map .str),m):=by
 refine CW H rfl rfl ?_
 have comp:ev (callI W Γ (n+2)) (.comp false 1 (.nm 1) (.rng (.con (.int 4))) .tt (.call "_law_name" (.cons (.var 0) (.cons (.var 1) .nil)))) [some (.scr ns)] m=some (.lst ((namesL (cellv ns 0)).map .str),m):=by
  rw[IK (xs:=(List.range 4).map fun(i:Nat)=>.int i) (fun d=>match d with | .int j=>.str (nameL (cellv ns 0) j.toNat) | _=>.non) rfl rfl (Nat.le_of_ble_eq_true rfl)]
  ·simp[namesL,List.range,List.range.loop]
  ·intro d hd
   obtain⟨j,hj,rfl⟩:=List.mem_map.mp hd
   exact⟨[some (.scr ns),some (.int j)],rfl,rfl,BX (wO Hm Hc Hn) rfl⟩
 exact CP comp
noncomputable def levelsL(c:Int):List Int:=[0,2,mixv c 9923 3,mixv c 9907 3]
theorem YK(c:Int):∀x∈levelsL c,0≤x∧x<3:=by
 have:=FT c 9923 (k:=3) (by omega)
 have:=FT c 9907 (k:=3) (by omega)
 intro x hx
 simp only[levelsL,List.mem_cons,List.not_mem_nil,or_false]at hx
 rcases hx with rfl | rfl | rfl | rfl<;>omega
theorem Z9(Hm:Γ "_law_mix" = some F_qmix)(Hc:Γ "_law_cell" = some F_qcell)(H:Γ "_law_levels" = some F_qlevels){ns:List Int}:callI W Γ (n+2) "_law_levels" [.scr ns] m=some (.lst ((levelsL (cellv ns 1)).map .int),m):=by
 refine CW H rfl rfl ?_
 have hc:=MN (W:=W) (n:=n) (m:=m) Hc (ns:=ns) (k:=1)
 rw[Int.natCast_one]at hc
 exact CP (wH (BW rfl (BW rfl (BW (BX (IV Hm (by decide) (by decide)) (BW (BX hc rfl) rfl)) (BW (BX (IV Hm (by decide) (by decide)) (BW (BX hc rfl) rfl)) rfl)))) (Nat.le_of_ble_eq_true rfl))
end
end T
end
section
namespace T
open PySem L2 WL WW
noncomputable def opS:Op→String
 | .sum=>"sum"
 | .times=>"times"
 | .less=>"less"
noncomputable def dT:Tm Str→D
 | .num n=>.tup [.str (Str.ofString "number"),.int n]
 | .nam x=>.tup [.str (Str.ofString "name"),.str x]
 | .bin o a b=>.tup [.str (Str.ofString (opS o)),dT a,dT b]
theorem J0:∀t:Tm Str,(dT t).clean=true
 | .num n=>rfl
 | .nam x=>rfl
 | .bin o a b=>by simp[dT,J0 a,J0 b]
theorem wV{α β:Type}(f:α→β)(l:List α)(i:Int):atI (l.map f) i=(atI l i).map f:=by
 unfold atI
 rw[List.length_map]
 cases ixN l.length i with
 | none=>rfl
 | some j=>simp
theorem JT{α β:Type}{f:α→β}{l:List α}{i:Int}{x:α}(h:atI l i=some x):atI (l.map f) i=some (f x):=by rw[wV,h];rfl
theorem PJ{α:Type}{l:List α}{i:Int}(h0:0≤i)(h1:i<l.length):∃x∈l,atI l i=some x:=by
 obtain⟨k,rfl⟩:=Int.eq_ofNat_of_zero_le h0
 have hk:k<l.length:=by lia
 exact⟨l[k],List.getElem_mem hk,by rw[J7];exact List.getElem?_eq_getElem hk⟩
section
variable{W:Nat}{Γ:String→Option Fn}
theorem wM(Hm:Γ "_law_mix" = some F_qmix)(H:Γ "_law_term" = some F_qterm){nm:List Str}(hl:nm.length=4):∀(left:Nat) (seed:Int),∃t:Tm Str,t.Ok (·∈nm)∧t.dep≤left∧∀n m,callI W Γ (n+(left+2)) "_law_term" [.lst (nm.map .str),.int seed,.int left] m=some (dT t,m):=by
 intro left
 induction left with
 | zero=>
  intro seed
  have r1:=FT seed 9887 (k:=997) (by lia)
  have r2:=FT seed 9883 (k:=4) (by lia)
  obtain⟨x,hx,ex⟩:=PJ (l:=nm) r2.1 (by lia)
  by_cases h:mixv seed 9901 9 % 3=0
  ·exact⟨.num (mixv seed 9887 997),r1,Nat.le_refl _,fun n m=>CW H rfl rfl (CK (BX (IV Hm (by decide) (by decide)) rfl) (FP (lV (GP (p:=((0:Nat):Int)=0) rfl rfl)) (FP (GP rfl h) (CP (FZ (BW rfl (BW (BX (IV Hm (by decide) (by decide)) rfl) rfl)) (Nat.le_of_ble_eq_true rfl))))))⟩
  ·exact⟨.nam x,hx,Nat.le_refl _,fun n m=>CW H rfl rfl (CK (BX (IV Hm (by decide) (by decide)) rfl) (FP (lV (GP (p:=((0:Nat):Int)=0) rfl rfl)) (DQ (G7 rfl h) (CP (FZ (BW rfl (BW (HJ rfl (BX (IV Hm (by decide) (by decide)) rfl) (JT ex)) rfl)) (Nat.le_of_ble_eq_true rfl))))))⟩
 | succ left ih=>
  intro seed
  have r1:=FT seed 9887 (k:=997) (by lia)
  have r2:=FT seed 9883 (k:=4) (by lia)
  have r3:=FT seed 9901 (k:=9) (by lia)
  obtain⟨x,hx,ex⟩:=PJ (l:=nm) r2.1 (by lia)
  obtain⟨a,ha,da,ea⟩:=ih (seed*3+1)
  obtain⟨b,hb,db,eb⟩:=ih (seed*5+2)
  have hz:¬(((left+1:Nat):Int)=0):=by lia
  have e0:∀(n:Nat) (m:Mem) {c p k:Int},0<p→0<k→callI W Γ (n+(left+2)) "_law_mix" [.int c,.int p,.int k] m=some (.int (mixv c p k),m):=fun n m _ _ _ hp hk=>IV (n:=n+(left+1)) Hm hp hk
  have hs:((left+1:Nat):Int)-1=left:=by lia
  rw[←hs]at ea eb
  by_cases h3:mixv seed 9901 9<3
  ·by_cases h:mixv seed 9901 9 % 3=0
   ·exact⟨.num (mixv seed 9887 997),r1,Nat.zero_le _,fun n m=>CW (n:=n+(left+2)) H rfl rfl (CK (BX (e0 n m (by decide) (by decide)) rfl) (FP (cX (G7 rfl hz) (GP rfl h3)) (FP (GP rfl h) (CP (FZ (BW rfl (BW (BX (e0 n m (by decide) (by decide)) rfl) rfl)) (Nat.le_of_ble_eq_true rfl))))))⟩
   ·exact⟨.nam x,hx,Nat.zero_le _,fun n m=>CW (n:=n+(left+2)) H rfl rfl (CK (BX (e0 n m (by decide) (by decide)) rfl) (FP (cX (G7 rfl hz) (GP rfl h3)) (DQ (G7 rfl h) (CP (FZ (BW rfl (BW (HJ rfl (BX (e0 n m (by decide) (by decide)) rfl) (JT ex)) rfl)) (Nat.le_of_ble_eq_true rfl))))))⟩
  ·have hq:∃o:Op,atI [D.str (Str.ofString "sum"),.str (Str.ofString "times"),.str (Str.ofString "less")] (mixv seed 9901 9 % 3)=some (.str (Str.ofString (opS o))):=by
    have:mixv seed 9901 9 % 3=0∨mixv seed 9901 9 % 3=1∨mixv seed 9901 9 % 3=2:=by lia
    rcases this with e | e | e
    ·exact⟨.sum,by rw[e];rfl⟩
    ·exact⟨.times,by rw[e];rfl⟩
    ·exact⟨.less,by rw[e];rfl⟩
   obtain⟨o,eo⟩:=hq
   refine⟨.bin o a b,⟨ha,hb⟩,?_,fun n m=>CW (n:=n+(left+2)) H rfl (J0 (.bin o a b)) (CK (BX (e0 n m (by decide) (by decide)) rfl) (DQ (cX (G7 rfl hz) (G7 rfl h3)) (CK (BX (ea n m) (jW (by decide) rfl rfl rfl)) (CP (FZ (BW (HJ rfl rfl eo) (BW rfl (BW (BX (eb n m) (jW (by decide) rfl rfl rfl)) rfl))) (Nat.le_of_ble_eq_true rfl))))))⟩
   simp only[Tm.dep];omega
theorem HW(H:Γ "_law_names_in" = some F_qnames_in):∀{t:Tm Str} {n:Nat} {m:Mem},t.dep<n→t.dep≤8→t.names.length≤2 ^ t.dep∧callI W Γ n "_law_names_in" [dT t] m=some (.lst (t.names.map .str),m)
 | .num k,n+1,m,h,_=>⟨Nat.zero_le _,CW H rfl rfl (DQ (G7 (p:=Str.ofString "number" = Str.ofString "name") rfl (sne (by decide))) (FP (GP (p:=Str.ofString "number" = Str.ofString "number") rfl rfl) (CP rfl)))⟩
 | .nam x,n+1,m,h,_=>⟨Nat.le_refl _,CW H rfl rfl (FP (GP (p:=Str.ofString "name" = Str.ofString "name") rfl rfl) (CP rfl))⟩
 | .bin o a b,n+1,m,h,h8=>by
  simp only[Tm.dep]at h h8
  obtain⟨la,ea⟩:=HW H (t:=a) (n:=n) (m:=m) (by lia) (by lia)
  obtain⟨lb,eb⟩:=HW H (t:=b) (n:=n) (m:=m) (by lia) (by lia)
  have p1:2 ^ a.dep≤2 ^ (max a.dep b.dep):=Nat.pow_le_pow_right (by lia) (by lia)
  have p2:2 ^ b.dep≤2 ^ (max a.dep b.dep):=Nat.pow_le_pow_right (by lia) (by lia)
  have p3:2 ^ (max a.dep b.dep)≤2 ^ 7:=Nat.pow_le_pow_right (by lia) (by lia)
  have hl:(Tm.bin o a b).names.length≤2 ^ (max a.dep b.dep+1):=by
   simp only[Tm.names,List.length_append,Nat.pow_succ];lia
  have cl:∀l:List Str,D.clean.cleans (l.map .str)=true:=fun l=>by
   induction l with
   | nil=>rfl
   | cons a r ih=>exact ih
  have o1:opS o≠"name":=by cases o<;>decide
  have o2:opS o≠"number":=by cases o<;>decide
  refine⟨hl,CW H rfl (cl _) (DQ (G7 rfl (sne o1)) (DQ (G7 rfl (sne o2)) (CP ?_)))⟩
  rw[show (Tm.bin o a b).names=a.names++b.names from rfl,List.map_append]
  exact VN (BX ea rfl) (BX eb rfl) (by rw[List.length_map,List.length_map];lia)
noncomputable def ksOf(sn:List Str):List Key:=sn.map .inr
noncomputable def vsOf(sn:List Str)(f:Str→Int):List D:=sn.map fun x=>.int (f x)
theorem cM{f:Str→Int}{x:Str}:∀{sn:List Str},x∈sn→lookD (ksOf sn) (vsOf sn f) (.inr x)=some (.int (f x))
 | y::r,h=>by
  show (if (Sum.inr y:Key)=.inr x then some (D.int (f y)) else lookD (ksOf r) (vsOf r f) (.inr x))=_
  by_cases e:y=x
  ·subst e;rw[if_pos rfl]
  ·rw[if_neg (fun q=>e (Sum.inr.inj q))]
   exact cM ((List.mem_cons.mp h).resolve_left (fun q=>e q.symm))
end
end T
end
section
namespace WW
section
variable{N:Type}[DecidableEq N]
variable(g:N→Int)(l:Int)
mutual
def HiD:Dd N→Prop
 | .put x _=>l<g x
 | .sho k _=>l<k
 | .ite _ b c=>HiB b∧HiB c
 | .whl _ _=>False
def HiB:Bl N→Prop
 | .nil=>True
 | .cons d b=>HiD d∧HiB b
end
noncomputable def stayD:Dd N→Bool
 | .put x _=>decide (g x≤l)
 | .sho k _=>decide (k≤l)
 | .ite e _ _=>e.names.all fun x=>decide (g x≤l)
 | .whl _ _=>true
mutual
noncomputable def cutD:Dd N→Dd N
 | .put x e=>.put x e
 | .sho k e=>.sho k e
 | .ite e b c=>.ite e (cutB b) (cutB c)
 | .whl e b=>.whl e (cutB b)
noncomputable def cutB:Bl N→Bl N
 | .nil=>.nil
 | .cons d b=>bif stayD g l d then .cons (cutD d) (cutB b) else cutB b
end
mutual
def LoD:Dd N→Prop
 | .put x e=>g x≤l→∀y∈e.names,g y≤l
 | .sho k e=>k≤l→∀y∈e.names,g y≤l
 | .ite e b c=>((∀y∈e.names,g y≤l)∧LoB b∧LoB c)∨((¬∀y∈e.names,g y≤l)∧HiB g l b∧HiB g l c)
 | .whl e b=>(∀y∈e.names,g y≤l)∧LoB b
def LoB:Bl N→Prop
 | .nil=>True
 | .cons d b=>LoD d∧LoB b
end
inductive Rel:List (Dd N)→List (Dd N)→Prop where
 | nil:Rel [] []
 | same {d:Dd N} {a b:List (Dd N)}:stayD g l d=true→LoD g l d→Rel a b→Rel (d::a) (cutD g l d::b)
 | drop {d:Dd N} {a b:List (Dd N)}:HiD g l d→Rel a b→Rel (d::a) b
variable{g l}
end
end WW
end
section
namespace WW
section
variable{N:Type}[DecidableEq N]{g:N→Int}{l:Int}
mutual
def FlD(g:N→Int):List N→Dd N→Prop
 | cs,.put x e=>∀y∈cs++e.names,g y≤g x
 | cs,.sho k e=>∀y∈cs++e.names,g y≤k
 | cs,.ite e b c=>FlB g (cs++e.names) b∧FlB g (cs++e.names) c
 | cs,.whl e b=>(∀y∈cs++e.names,g y≤0)∧FlB g cs b
def FlB(g:N→Int):List N→Bl N→Prop
 | _,.nil=>True
 | cs,.cons d b=>FlD g cs d∧FlB g cs b
end
end
end WW
end
section
namespace T
open PySem L2 WL WW
mutual
noncomputable def dD:Dd Str→D
 | .put x t=>.tup [.str (Str.ofString "put"),.str x,dT t]
 | .sho l t=>.tup [.str (Str.ofString "show"),.int l,dT t]
 | .ite t b c=>.tup [.str (Str.ofString "if"),dT t,.tup (dB b),.tup (dB c)]
 | .whl t b=>.tup [.str (Str.ofString "while"),dT t,.tup (dB b)]
noncomputable def dB:Bl Str→List D
 | .nil=>[]
 | .cons d b=>dD d::dB b
end
theorem J6:∀b:Bl Str,dB b=b.list.map dD
 | .nil=>rfl
 | .cons d b=>by simp[dB,Bl.list,J6 b]
theorem tU(l:List (Dd Str)):dB (Bl.of l)=l.map dD:=by rw[J6,Bl.list_of]
theorem wJ(a b:Bl Str):dB (a.app b)=dB a++dB b:=by rw[J6,J6,J6,Bl.list_app,List.map_append]
mutual
theorem QK:∀d:Dd Str,(dD d).clean=true
 | .put x t=>by simp[dD,J0]
 | .sho l t=>by simp[dD,J0]
 | .ite t b c=>by simp[dD,J0,KQ b,KQ c]
 | .whl t b=>by simp[dD,J0,KQ b]
theorem KQ:∀b:Bl Str,D.clean.cleans (dB b)=true
 | .nil=>rfl
 | .cons d b=>by simp[dB,QK d,KQ b]
end
theorem RN{P:Str→Prop}:∀{l:List (Dd Str)},(∀d∈l,d.Ok P)→(Bl.of l).Ok P
 | [],_=>trivial
 | d::r,h=>⟨h d List.mem_cons_self,RN fun x hx=>h x (List.mem_cons_of_mem _ hx)⟩
theorem PK{k:Nat}:∀{l:List (Dd Str)},(∀d∈l,d.dep≤k)→(Bl.of l).dep≤k
 | [],_=>Nat.zero_le _
 | d::r,h=>by
  have h1:=h d List.mem_cons_self
  have h2:=PK (k:=k) (l:=r) fun x hx=>h x (List.mem_cons_of_mem _ hx)
  simp only[Bl.of,Bl.dep];omega
theorem MP{k:Nat}:∀{l:List (Dd Str)},(∀d∈l,d.size≤k)→(Bl.of l).size≤l.length*k
 | [],_=>Nat.zero_le _
 | d::r,h=>by
  have h1:=h d List.mem_cons_self
  have h2:=MP (k:=k) (l:=r) fun x hx=>h x (List.mem_cons_of_mem _ hx)
  simp only[Bl.of,Bl.size,List.length_cons,Nat.add_mul];lia
theorem U5{P:Str→Prop}:∀{a b:Bl Str},a.Ok P→b.Ok P→(a.app b).Ok P
 | .nil,_,_,h=>h
 | .cons d a,b,h,g=>⟨h.1,U5 h.2 g⟩
theorem RP:∀{a b:Bl Str},(a.app b).dep=max a.dep b.dep
 | .nil,b=>by simp[Bl.app,Bl.dep]
 | .cons d a,b=>by simp only[Bl.app,Bl.dep,RP (a:=a)];exact(Nat.max_assoc _ _ _).symm
theorem Q6:∀{a b:Bl Str},(a.app b).size=a.size+b.size
 | .nil,b=>by simp[Bl.app,Bl.size]
 | .cons d a,b=>by simp only[Bl.app,Bl.size,Q6 (a:=a)];lia
noncomputable def sz:Nat→Nat
 | 0=>1
 | d+1=>4*sz d+1
theorem iG(d:Nat):1≤sz d:=by cases d<;>simp[sz]
theorem NK{x:Str}:∀{nm:List Str} {j:Nat},x∈nm→∃k,j≤k∧k<j+nm.length∧findD (.str x) (nm.map .str) j=some k
 | y::r,j,h=>by
  by_cases e:x=y
  ·exact⟨j,Nat.le_refl _,by simp,by simp[findD,inD,e]⟩
  ·obtain⟨k,h1,h2,h3⟩:=NK (nm:=r) (j:=j+1) ((List.mem_cons.mp h).resolve_left e)
   exact⟨k,by lia,by simp only[List.length_cons];lia,by simp[findD,inD,e,h3]⟩
theorem jY:∀{l:List Int} {a:Int},∃h,maxL (a::l)=some h∧h∈a::l
 | [],a=>⟨a,rfl,List.mem_cons_self⟩
 | b::r,a=>by
  obtain⟨h,e,hm⟩:=jY (l:=r) (a:=if b > a then b else a)
  refine⟨h,e,?_⟩
  rcases List.mem_cons.mp hm with q | q
  ·rw[q]
   split<;>simp
  ·simp[q]
theorem yI{l:List Int}(hl:l≠[])(h:∀x∈l,0≤x∧x<3):∃q,maxL l=some q∧0≤q∧q<3:=by
 cases l with
 | nil=>exact absurd rfl hl
 | cons a r=>
  obtain⟨q,e,hm⟩:=jY (l:=r) (a:=a)
  exact⟨q,e,h q hm⟩
theorem ints_of(l:List Int):intsOf (l.map .int)=some l:=by
 induction l with
 | nil=>rfl
 | cons a r ih=>simp[intsOf,ih]
noncomputable def levOf(nm:List Str)(lv:List Int)(x:Str):Int:=(atI lv ((findD (.str x) (nm.map .str) 0).getD 0:Nat)).getD 0
noncomputable def planD(nm:List Str)(lv:List Int)(honest:Bool):D:=.tup [.lst (nm.map .str),.lst (lv.map .int),.bl honest]
theorem T5(nm:List Str):(nm.map D.str).all D.flat=true:=by
 induction nm with
 | nil=>rfl
 | cons a r ih=>simp[D.flat]
noncomputable def restS:Nat→Sms→Sms
 | 0,s=>s
 | _+1,.nil=>.nil
 | n+1,.cons _ r=>restS n r
section
variable{W:Nat}{Γ:String→Option Fn}
structure Plan(nm:List Str)(lv:List Int):Prop where
 n4:nm.length=4
 l4:lv.length=4
 lr:∀x∈lv,0≤x∧x<3
 nd:nm.Nodup
 z0:lv.getD 0 0=0
theorem cV{x:Str}:∀{nm:List Str} {i j:Nat},nm.Nodup→nm[j]?=some x→findD (.str x) (nm.map .str) i=some (i+j)
 | y::r,i,0,_,e=>by
  cases e
  simp[findD,inD]
 | y::r,i,j+1,hn,e=>by
  have hn:=List.nodup_cons.mp hn
  have e:r[j]?=some x:=by simpa using e
  have hne:¬x=y:=fun q=>hn.1 (q▸List.mem_of_getElem? e)
  rw[List.map_cons,findD,if_neg (by simp[inD,hne]),cV hn.2 e]
  congr 1;lia
theorem aU{nm:List Str}{lv:List Int}(hp:Plan nm lv){x:Str}{j:Nat}(h:nm[j]?=some x):levOf nm lv x=lv.getD j 0:=by
 have hj:=(List.getElem?_eq_some_iff.mp h).1
 have h4:=hp.n4
 have h5:=hp.l4
 unfold levOf
 rw[cV hp.nd h,Nat.zero_add,Option.getD_some,J7,List.getD_eq_getElem?_getD]
theorem jZ:∀{r:List Int} {a q:Int},maxL (a::r)=some q→a≤q∧∀x∈r,x≤q
 | [],a,q,h=>by cases h;exact⟨Int.le_refl _,fun x hx=>nomatch hx⟩
 | b::r,a,q,h=>by
  obtain⟨h1,h2⟩:=jZ (r:=r) (a:=if b > a then b else a) h
  refine⟨by split at h1<;>lia,fun x hx=>?_⟩
  rcases List.mem_cons.mp hx with rfl | hx
  ·split at h1<;>lia
  ·exact h2 x hx
theorem cJ{l:List Int}{q:Int}(h:maxL l=some q):∀x∈l,x≤q:=by
 cases l with
 | nil=>cases h
 | cons a r=>
  obtain⟨h1,h2⟩:=jZ h
  intro x hx
  rcases List.mem_cons.mp hx with rfl | hx
  ·exact h1
  ·exact h2 x hx
theorem eE{g:Str→Int}{cs:List Str}:∀{a b:Bl Str},FlB g cs a→FlB g cs b→FlB g cs (a.app b)
 | .nil,_,_,h=>h
 | .cons _ _,_,h,h'=>⟨h.1,eE h.2 h'⟩
theorem bK{g:Str→Int}{cs:List Str}:∀{l:List (Dd Str)},(∀d∈l,FlD g cs d)→FlB g cs (Bl.of l)
 | [],_=>trivial
 | d::r,h=>⟨h d List.mem_cons_self,bK fun e he=>h e (List.mem_cons_of_mem _ he)⟩
def HonD(nm:List Str)(lv:List Int)(honest:Bool)(need:Int)(d:Dd Str):Prop:=honest=true→∀cs:List Str,(∀y∈cs,levOf nm lv y≤need)→FlD (levOf nm lv) cs d
def HonB(nm:List Str)(lv:List Int)(honest:Bool)(need:Int)(b:Bl Str):Prop:=honest=true→∀cs:List Str,(∀y∈cs,levOf nm lv y≤need)→FlB (levOf nm lv) cs b
theorem kJ{nm:List Str}{lv:List Int}(hp:Plan nm lv){x:Str}(hx:x∈nm):∃k:Nat,findD (.str x) (nm.map .str) 0=some k∧atI lv k=some (levOf nm lv x)∧0≤levOf nm lv x∧levOf nm lv x<3:=by
 obtain⟨k,_,h2,h3⟩:=NK (x:=x) (j:=0) hx
 have h4:=hp.n4
 have h5:=hp.l4
 obtain⟨l,hl,el⟩:=PJ (l:=lv) (i:=k) (by lia) (by lia)
 have:levOf nm lv x=l:=by simp only[levOf,h3,Option.getD_some,el]
 exact⟨k,h3,by rw[el,this],by rw[this];exact hp.lr l hl⟩
theorem gG{C:String→List D→Mem→Option (D×Mem)}{m:Mem}{nm:List Str}{lv:List Int}(hp:Plan nm lv){t:Tm Str}(ht:t.Ok (·∈nm))(hl:t.names.length≤1000)(hn:C "_law_names_in" [dT t] m=some (.lst (t.names.map .str),m)){x0 x1 x2 x3 x6 x8 x9 x10 x11 x12 x13:Option D}:
  ev C (.comp false 1 (.nm 14) (.seq (.call "_law_names_in" (.cons (.var 7) .nil))) .tt (.ix (.var 5) (.index (.var 4) (.var 14)))) [x0,x1,x2,x3,some (.lst (nm.map .str)),some (.lst (lv.map .int)),x6,some (dT t),x8,x9,x10,x11,x12,x13] m=some (.lst ((t.names.map (levOf nm lv)).map .int),m):=by
 rw[IK (xs:=t.names.map .str) (fun d=>match d with | .str x=>.int (levOf nm lv x) | _=>.non) rfl (W0 (BX hn rfl)) (by rw[List.length_map];exact hl)]
 ·rw[List.map_map,List.map_map];rfl
 ·intro d hd
  obtain⟨x,hx,rfl⟩:=List.mem_map.mp hd
  obtain⟨k,e1,e2,_⟩:=kJ hp (ht.names x hx)
  refine⟨[x0,x1,x2,x3,some (.lst (nm.map .str)),some (.lst (lv.map .int)),x6,some (dT t),x8,x9,x10,x11,x12,x13,some (.str x)],rfl,rfl,HJ rfl (lO rfl rfl rfl ?_ e1) (JT e2)⟩
  rw[T5,List.length_map,hp.n4];rfl
noncomputable def someL(lv:List Int)(high:Int)(honest:Bool):List Nat:=(List.range 4).filter fun j=>decide (high≤lv.getD j 0)||!honest
theorem rT{C:String→List D→Mem→Option (D×Mem)}{m:Mem}{lv:List Int}(hl:lv.length=4){high:Int}{honest:Bool}{x0 x1 x2 x3 x4 x7 x9 x10 x11 x12 x13:Option D}:
  ev C (.comp false 1 (.nm 14) (.rng (.con (.int 4))) (.or (.val (.cmp .ge (.ix (.var 5) (.var 14)) (.var 8))) (.not (.val (.var 6)))) (.var 14)) [x0,x1,x2,x3,x4,some (.lst (lv.map .int)),some (.bl honest),x7,some (.int high),x9,x10,x11,x12,x13] m=some (.lst ((someL lv high honest).map fun(j:Nat)=>.int j),m):=by
 rw[cW (xs:=(List.range 4).map fun(i:Nat)=>.int i) (h:=fun d=>match d with | .int j=>if decide (high≤lv.getD j.toNat 0)||!honest then some (.int j) else none | _=>none) rfl rfl (Nat.le_of_ble_eq_true rfl)]
 ·simp only[someL,List.filterMap_map,Function.comp_def,Int.toNat_natCast]
  rw[←List.filterMap_eq_map',List.filterMap_filter]
 ·intro d hd
  obtain⟨j,hj,rfl⟩:=List.mem_map.mp hd
  have hj:j<lv.length:=by have:=List.mem_range.mp hj;lia
  have ha:atI lv (j:Int)=some (lv.getD j 0):=by rw[J7,List.getD_eq_getElem?_getD,List.getElem?_eq_getElem hj];rfl
  refine⟨[x0,x1,x2,x3,x4,some (.lst (lv.map .int)),some (.bl honest),x7,some (.int high),x9,x10,x11,x12,x13,some (.int j)],decide (high≤lv.getD j 0)||!honest,rfl,aY (GJ (G9 (HJ rfl rfl (JT ha)) rfl rfl) rfl) rfl,?_⟩
  show if (decide (high≤lv.getD j 0)||!honest)=true then ((if (decide (high≤lv.getD j 0)||!honest)=true then some (D.int j) else none).isSome=true∧_=some ((if (decide (high≤lv.getD j 0)||!honest)=true then some (D.int j) else none).getD .non,m)) else (if (decide (high≤lv.getD j 0)||!honest)=true then some (D.int j) else none)=none
  cases (decide (high≤lv.getD j 0)||!honest)
  ·exact rfl
  ·exact⟨rfl,rfl⟩
def DeedAt(Γ:String→Option Fn)(W:Nat)(nm:List Str)(lv:List Int)(honest:Bool)(deep:Nat):Prop:=∀(cell need:Int),0≤need→need<3→∃d:Dd Str,d.Ok (·∈nm)∧d.dep≤deep+2∧d.size≤sz deep∧(∀n m,callI W Γ (n+(2*deep+5)) "_law_deed" [planD nm lv honest,.int cell,.int deep,.int need] m=some (dD d,m))∧HonD nm lv honest need d
def BlockAt(Γ:String→Option Fn)(W:Nat)(nm:List Str)(lv:List Int)(honest:Bool)(deep:Nat):Prop:=∀(cell need:Int),0≤need→need<3→∃b:Bl Str,b.Ok (·∈nm)∧b.dep≤deep+2∧b.size≤2*sz deep∧b.list.length≤2∧(∀n m,callI W Γ (n+(2*deep+6)) "_law_block" [planD nm lv honest,.int cell,.int deep,.int need] m=some (.tup (dB b),m))∧HonB nm lv honest need b
theorem tG(Hm:Γ "_law_mix" = some F_qmix)(H:Γ "_law_block" = some F_qblock){nm:List Str}{lv:List Int}{honest:Bool}{deep:Nat}(hd:DeedAt Γ W nm lv honest deep):BlockAt Γ W nm lv honest deep:=by
 intro cell need n0 n3
 have hd':=fun c=>hd c need n0 n3
 let g:Int→Dd Str:=fun c=>Classical.choose (hd' c)
 have hg:∀c,(g c).Ok (·∈nm)∧(g c).dep≤deep+2∧(g c).size≤sz deep∧(∀n m,callI W Γ (n+(2*deep+5)) "_law_deed" [planD nm lv honest,.int c,.int deep,.int need] m=some (dD (g c),m))∧HonD nm lv honest need (g c):=fun c=>Classical.choose_spec (hd' c)
 have r1:=FT cell 9839 (k:=2) (by omega)
 have r2:0<1+mixv cell 9839 2∧1+mixv cell 9839 2<3:=by omega
 refine⟨Bl.of ((List.range (1+mixv cell 9839 2).toNat).map fun(j:Nat)=>g (cell*7+11*j)),?_,?_,?_,by rw[Bl.list_of];simp;omega,fun n m=>?_,fun hh cs hc=>bK fun d h=>?_⟩
 ·refine RN fun d h=>?_
  obtain⟨j,_,rfl⟩:=List.mem_map.mp h
  exact(hg _).1
 ·refine PK fun d h=>?_
  obtain⟨j,_,rfl⟩:=List.mem_map.mp h
  exact(hg _).2.1
 ·refine Nat.le_trans (MP (k:=sz deep) fun d h=>?_) (Nat.mul_le_mul_right _ (by simp;omega))
  obtain⟨j,_,rfl⟩:=List.mem_map.mp h
  exact(hg _).2.2.1
 ·refine CW (n:=n+(2*deep+5)) H rfl (KQ _) ?_
  have e0:∀{c p k:Int},0<p→0<k→callI W Γ (n+(2*deep+5)) "_law_mix" [.int c,.int p,.int k] m=some (.int (mixv c p k),m):=fun hp hk=>IV (n:=n+(2*deep+4)) Hm hp hk
  have comp:ev (callI W Γ (n+(2*deep+5))) (.comp false 1 (.nm 5) (.rng (.var 4)) .tt (.call "_law_deed" (.cons (.var 0) (.cons (.bin .add (.bin .mul (.var 1) (.con (.int 7))) (.bin .mul (.con (.int 11)) (.var 5))) (.cons (.var 2) (.cons (.var 3) .nil)))))) [some (planD nm lv honest),some (.int cell),some (.int deep),some (.int need),some (.int (1+mixv cell 9839 2))] m=some (.lst (dB (Bl.of ((List.range (1+mixv cell 9839 2).toNat).map fun(j:Nat)=>g (cell*7+11*j)))),m):=by
   rw[IK (xs:=(List.range (1+mixv cell 9839 2).toNat).map fun(i:Nat)=>.int i) (fun d=>match d with | .int j=>dD (g (cell*7+11*j)) | _=>.non) rfl (lX rfl (by omega)) (by rw[List.length_map,List.length_range];omega)]
   ·simp[tU,Function.comp_def]
   ·intro d hd
    obtain⟨j,hj,rfl⟩:=List.mem_map.mp hd
    exact⟨[some (planD nm lv honest),some (.int cell),some (.int deep),some (.int need),some (.int (1+mixv cell 9839 2)),some (.int j)],rfl,rfl,BX ((hg _).2.2.2.1 n m) (BW rfl (BW (DN (DN rfl rfl (RM (by decide))) (DN rfl rfl (JK (by decide))) rfl) rfl))⟩
  exact CK (DN rfl (BX (e0 (by decide) (by decide)) rfl) rfl) (CP (G3 comp rfl))
 ·obtain⟨j,_,rfl⟩:=List.mem_map.mp h
  exact(hg _).2.2.2.2 hh cs hc
theorem rA{l:List Int}{q:Int}{m:Mem}(h:maxL l=some q):b1D .max (.lst (l.map .int)) m=some (.int q,m):=by
 show ((intsOf (l.map D.int)).bind fun ns=>(maxL ns).map fun x=>(D.int x,m))=_
 rw[ints_of,Option.bind_some,h]
 rfl
noncomputable def stD(nm:List Str)(lv:List Int)(honest:Bool)(cell:Int)(deep:Nat)(need:Int)(t:Tm Str)(high:Int):DS:=[some (planD nm lv honest),some (.int cell),some (.int deep),some (.int need),some (.lst (nm.map .str)),some (.lst (lv.map .int)),some (.bl honest),some (dT t),some (.int high),some (.int (mixv cell 9871 9)),none,none,none,none]
theorem dN(Hm:Γ "_law_mix" = some F_qmix)(Ht:Γ "_law_term" = some F_qterm)(Hi:Γ "_law_names_in" = some F_qnames_in)(H:Γ "_law_deed" = some F_qdeed){nm:List Str}{lv:List Int}(hp:Plan nm lv){honest:Bool}{deep:Nat}(hblk:∀d,deep=d+1→BlockAt Γ W nm lv honest d):DeedAt Γ W nm lv honest deep:=by
 intro cell need n0 n3
 have hleft:1+cell % 2=((1+(cell % 2).toNat:Nat):Int):=by lia
 obtain⟨t,ht,dt,et⟩:=wM (W:=W) Hm Ht (nm:=nm) hp.n4 (1+(cell % 2).toNat) cell
 rw[←hleft]at et
 have dt2:t.dep≤2:=by lia
 obtain⟨high,eh,h0,h3⟩:=yI (l:=t.names.map (levOf nm lv)++[need]) (by simp) (fun x hx=>by
  rcases List.mem_append.mp hx with hx | hx
  ·obtain⟨y,hy,rfl⟩:=List.mem_map.mp hx
   obtain⟨_,_,_,q⟩:=kJ hp (ht.names y hy)
   exact q
  ·rw[List.mem_singleton.mp hx];exact⟨n0,n3⟩)
 have hneed:need≤high:=cJ eh need (by simp)
 have hnam:∀y∈t.names,levOf nm lv y≤high:=fun y hy=>cJ eh _ (List.mem_append_left _ (List.mem_map_of_mem hy))
 have hall:∀cs:List Str,(∀y∈cs,levOf nm lv y≤need)→∀y∈cs++t.names,levOf nm lv y≤high:=fun cs hc y hy=>(List.mem_append.mp hy).elim (fun h=>Int.le_trans (hc y h) hneed) (hnam y)
 have e0:∀(n:Nat) (m:Mem) {c p k:Int},0<p→0<k→callI W Γ (n+(2*deep+4)) "_law_mix" [.int c,.int p,.int k] m=some (.int (mixv c p k),m):=fun n m _ _ _ hp hk=>IV (n:=n+(2*deep+3)) Hm hp hk
 have e1:∀(n:Nat) (m:Mem),callI W Γ (n+(2*deep+4)) "_law_term" [.lst (nm.map .str),.int cell,.int (1+cell % 2)] m=some (dT t,m):=fun n m=>by
  have:=et (n+(2*deep+4)-(1+(cell % 2).toNat+2)) m
  rw[show n+(2*deep+4)-(1+(cell % 2).toNat+2)+(1+(cell % 2).toNat+2)=n+(2*deep+4) from by lia]at this
  exact this
 have e2:∀(n:Nat) (m:Mem),callI W Γ (n+(2*deep+4)) "_law_names_in" [dT t] m=some (.lst (t.names.map .str),m):=fun n m=>(HW Hi (by lia) (by lia)).2
 have l0:t.names.length≤9:=by
  have:=(HW (W:=W) (n:=20) (m:=[]) Hi (t:=t) (by lia) (by lia)).1
  have:2 ^ t.dep≤2 ^ 2:=Nat.pow_le_pow_right (by lia) dt2
  lia
 have e3:=fun n m=>@gG (callI W Γ (n+(2*deep+4))) m nm lv hp t ht (by lia) (e2 n m)
 have e4:∀m,b1D .max (.lst ((t.names.map (levOf nm lv)).map .int++[.int need])) m=some (.int high,m):=fun m=>by
  have:=rA (m:=m) eh
  rw[List.map_append]at this
  exact this
 have l1:((t.names.map (levOf nm lv)).map D.int).length≤9:=by simpa using l0
 generalize (t.names.map (levOf nm lv)).map D.int=L at e3 e4 l1
 have l2:L.length≤9999:=by lia
 have e5:=fun n m=>@rT (callI W Γ (n+(2*deep+4))) m lv hp.l4 high honest
 have r0:=FT cell 9871 (k:=9) (by lia)
 have r1:=FT cell 9851 (k:=3) (by lia)
 have cD:∀(n:Nat) (m:Mem) (d:Dd Str),exs (callI W Γ (n+(2*deep+4))) W b_qdeed [some (planD nm lv honest),some (.int cell),some (.int deep),some (.int need),none,none,none,none,none,none,none,none,none,none] m=some (.rt (dD d),m)→callI W Γ (n+(2*deep+5)) "_law_deed" [planD nm lv honest,.int cell,.int deep,.int need] m=some (dD d,m):=fun n m d h=>CW (n:=n+(2*deep+4)) H rfl (QK d) h
 have pre:∀(n:Nat) (m:Mem) {X},exs (callI W Γ (n+(2*deep+4))) W (restS 4 b_qdeed) (stD nm lv honest cell deep need t high) m=X→exs (callI W Γ (n+(2*deep+4))) W b_qdeed [some (planD nm lv honest),some (.int cell),some (.int deep),some (.int need),none,none,none,none,none,none,none,none,none,none] m=X:=fun n m _ k=>
  u5 (d:=planD nm lv honest) (σ':=[some (planD nm lv honest),some (.int cell),some (.int deep),some (.int need),some (.lst (nm.map .str)),some (.lst (lv.map .int)),some (.bl honest),none,none,none,none,none,none,none]) rfl rfl (CK (BX (e1 n m) rfl) (CK (G3 (VN (e3 n m) rfl (Nat.succ_le_succ l2)) (e4 m)) (CK (BX (e0 n m (by decide) (by decide)) rfl) k)))
 have cd:(∀(n:Nat) (m:Mem) {X},exs (callI W Γ (n+(2*deep+4))) W (restS 6 b_qdeed) (stD nm lv honest cell deep need t high) m=X→exs (callI W Γ (n+(2*deep+4))) W (restS 4 b_qdeed) (stD nm lv honest cell deep need t high) m=X)→∃d:Dd Str,d.Ok (·∈nm)∧d.dep≤deep+2∧d.size≤sz deep∧(∀n m,callI W Γ (n+(2*deep+5)) "_law_deed" [planD nm lv honest,.int cell,.int deep,.int need] m=some (dD d,m))∧HonD nm lv honest need d:=by
  intro hskip
  have hpos:=iG deep
  by_cases hc:mixv cell 9871 9<7∧someL lv high honest≠[]
  ·obtain⟨h7,hne⟩:=hc
   have hl0:=List.length_pos_iff.mpr hne
   have hlen:0<((someL lv high honest).length:Int):=by lia
   have r2:=FT cell 9857 hlen
   obtain⟨j,hj,ej⟩:=PJ (l:=someL lv high honest) r2.1 r2.2
   have hj4:j<4:=List.mem_range.mp (List.mem_filter.mp hj).1
   have hn4:=hp.n4
   obtain⟨x,hx,ex⟩:=PJ (l:=nm) (i:=j) (by lia) (by lia)
   refine⟨.put x t,⟨hx,ht⟩,Nat.le_add_left_of_le dt2,hpos,fun n m=>cD n m _ (pre n m (hskip n m (CK (e5 n m) (FP (JN (GP (p:=mixv cell 9871 9<7) rfl h7) (GJ (d:=.lst ((someL lv high honest).map fun(j:Nat)=>.int j)) rfl (uD fun h=>hne (List.map_eq_nil_iff.mp h)))) (CP (FZ (xs:=[.str (Str.ofString "put"),.str x,dT t]) (BW rfl (BW (HJ rfl (HJ rfl (BX (e0 n m (c:=cell) (p:=9857) (by decide) hlen) (by rw[←List.length_map (f:=fun(j:Nat)=>D.int j)];rfl)) (JT ej)) (JT ex)) rfl)) (Nat.le_of_ble_eq_true rfl))))))),fun hh cs hc y hy=>?_⟩
   have e1:levOf nm lv x=lv.getD j 0:=aU hp (by rw[←J7];exact ex)
   have e2:=(List.mem_filter.mp hj).2
   rw[hh]at e2
   have e2:high≤lv.getD j 0:=by simpa using e2
   rw[e1]
   exact Int.le_trans (hall cs hc y hy) e2
  ·refine⟨.sho (if high*(if honest then 1 else 0) > mixv cell 9851 3 then high*(if honest then 1 else 0) else mixv cell 9851 3) t,⟨?_,ht⟩,Nat.le_add_left_of_le dt2,hpos,fun n m=>cD n m _ (pre n m (hskip n m (CK (e5 n m) (DQ ?_ (CP (FZ (BW rfl (BW (rU (BX (e0 n m (by decide) (by decide)) rfl) (DN rfl rfl (JK (by lia)))) rfl)) (Nat.le_of_ble_eq_true rfl))))))),fun hh cs hc y hy=>Int.le_trans (hall cs hc y hy) ?_⟩
   ·cases honest<;>simp<;>split<;>lia
   ·by_cases h7:mixv cell 9871 9<7
    ·have he:someL lv high honest=[]:=Classical.byContradiction fun q=>hc ⟨h7,q⟩
     exact JN (GP (p:=mixv cell 9871 9<7) rfl h7) (GJ (d:=.lst ((someL lv high honest).map fun(j:Nat)=>.int j)) rfl (by rw[he];rfl))
    ·exact QJ (G7 (p:=mixv cell 9871 9<7) rfl h7)
   ·rw[hh]
    simp only[if_true,Int.mul_one]
    split<;>lia
 cases deep with
 | zero=>exact cd fun n m _ k=>DQ (QJ (G7 (p:=(0:Int)<0) rfl (by decide))) (DQ (QJ (G7 (p:=(0:Int)<0) rfl (by decide))) k)
 | succ d=>
  have hb:=hblk d rfl
  have hs:((d+1:Nat):Int)-1=d:=by lia
  have hz:(0:Int)<((d+1:Nat):Int):=by lia
  have hszp:=iG d
  by_cases h2:mixv cell 9871 9<2
  ·obtain⟨b,ob,db,sb,lb,eb,hob⟩:=hb (cell*3+1) high h0 h3
   obtain⟨c,oc,dc,sc,lc,ec,hoc⟩:=hb (cell*5+2) high h0 h3
   rw[←hs]at eb ec
   refine⟨.ite t b c,⟨ht,ob,oc⟩,by simp only[Dd.dep];omega,by simp only[Dd.size,sz];omega,fun n m=>cD n m _ (pre n m (FP (JN (GP rfl hz) (GP rfl h2)) (CK (BX (eb n m) (jW (by decide) rfl rfl rfl)) (CP (FZ (BW rfl (BW rfl (BW rfl (BW (BX (ec n m) (jW (by decide) rfl rfl rfl)) rfl)))) (Nat.le_of_ble_eq_true rfl)))))),fun hh cs hc=>⟨hob hh _ (hall cs hc),hoc hh _ (hall cs hc)⟩⟩
  ·by_cases h4:mixv cell 9871 9<4∧(need=0∨honest=false)
   ·obtain⟨h4,hor⟩:=h4
    obtain⟨b,ob,db,sb,lb,eb,hob⟩:=hb (cell*3+1) need n0 n3
    rw[←hs]at eb
    have hn4:=hp.n4
    obtain⟨x,hx,ex⟩:=PJ (l:=nm) (i:=0) (by lia) (by lia)
    have r2:=FT cell 9859 (k:=6) (by lia)
    have ex1:atI (nm.map D.str) 0=some (.str x):=JT ex
    have hD:∀u:Tm Str,dD (.whl u (b.app (.cons (.put x (.bin .sum (.nam x) (.num 1))) .nil)))=.tup [.str (Str.ofString "while"),dT u,.tup (dB b++[dD (.put x (.bin .sum (.nam x) (.num 1)))])]:=fun u=>by
     show D.tup [_,_,.tup (dB _)]=_
     rw[wJ];rfl
    have hl:(dB b).length+1≤10000:=by rw[J6,List.length_map];lia
    have hor2:(decide (need=0)||!honest)=true:=by rcases hor with h | h<;>simp[h]
    refine⟨.whl (if honest then .bin .less (.nam x) (.num (mixv cell 9859 6)) else t) (b.app (.cons (.put x (.bin .sum (.nam x) (.num 1))) .nil)),⟨?_,?_⟩,?_,?_,fun n m=>cD n m _ (pre n m (DQ (JN (GP rfl hz) (G7 rfl h2)) (FP (JN (GP rfl hz) (JN (GP rfl h4) (yQ (aY rfl rfl) hor2))) (CK (d:=dD (.put x (.bin .sum (.nam x) (.num 1)))) (FZ (BW rfl (BW (HJ rfl rfl ex1) (BW (FZ (BW rfl (BW (FZ (BW rfl (BW (HJ rfl rfl ex1) rfl)) (Nat.le_of_ble_eq_true rfl)) rfl)) (Nat.le_of_ble_eq_true rfl)) rfl))) (Nat.le_of_ble_eq_true rfl)) (CK (BX (eb n m) (jW (by decide) rfl rfl rfl)) ?_))))),fun hh cs hc=>?_⟩
    ·cases honest
     ·exact ht
     ·exact⟨hx,by constructor<;>lia⟩
    ·exact U5 ob ⟨⟨hx,hx,by constructor<;>lia⟩,trivial⟩
    ·simp only[Dd.dep,RP,Bl.dep,Tm.dep]
     cases honest<;>simp[Tm.dep]<;>omega
    ·simp only[Dd.size,Q6,Bl.size,sz]
     lia
    ·rw[hD]
     cases honest
     ·exact DQ rfl (CP (FZ (BW rfl (BW rfl (BW (DN (d2:=.tup [dD (.put x (.bin .sum (.nam x) (.num 1)))]) rfl rfl (J1 hl)) rfl))) (Nat.le_of_ble_eq_true rfl)))
     ·exact GQ rfl (CK (FZ (BW rfl (BW (FZ (BW rfl (BW (HJ rfl rfl ex1) rfl)) (Nat.le_of_ble_eq_true rfl)) (BW (FZ (BW rfl (BW (BX (e0 n m (by decide) (by decide)) rfl) rfl)) (Nat.le_of_ble_eq_true rfl)) rfl))) (Nat.le_of_ble_eq_true rfl)) rfl) (CP (FZ (BW rfl (BW rfl (BW (DN (d2:=.tup [dD (.put x (.bin .sum (.nam x) (.num 1)))]) rfl rfl (J1 hl)) rfl))) (Nat.le_of_ble_eq_true rfl)))
    ·have hn0:need=0:=hor.elim id fun q=>by rw[hh]at q;cases q
     have hx0:levOf nm lv x=0:=by rw[aU hp (j:=0) (by rw[←J7];exact ex)];exact hp.z0
     subst hh
     subst hn0
     have hlow:∀y∈cs++[x],levOf nm lv y≤0:=fun y hy=>(List.mem_append.mp hy).elim (hc y) fun q=>by rw[List.mem_singleton.mp q,hx0];exact Int.le_refl _
     exact⟨hlow,eE (hob rfl cs hc) ⟨fun y hy=>by rw[hx0];exact hlow y hy,trivial⟩⟩
   ·refine cd fun n m _ k=>DQ (JN (GP rfl hz) (G7 rfl h2)) (DQ (JN (GP rfl hz) ?_) k)
    by_cases h4':mixv cell 9871 9<4
    ·have hn:¬need=0:=fun q=>h4 ⟨h4',Or.inl q⟩
     have hh:honest=true:=by
      cases honest with
      | true=>rfl
      | false=>exact absurd ⟨h4',Or.inr rfl⟩ h4
     exact JN (GP rfl h4') (yQ (aY rfl rfl) (by rw[hh,decide_eq_false hn];rfl))
    ·exact QJ (G7 rfl h4')
theorem wR(Hm:Γ "_law_mix" = some F_qmix)(Ht:Γ "_law_term" = some F_qterm)(Hi:Γ "_law_names_in" = some F_qnames_in)(Hb:Γ "_law_block" = some F_qblock)(H:Γ "_law_deed" = some F_qdeed){nm:List Str}{lv:List Int}(hp:Plan nm lv){honest:Bool}:∀deep:Nat,DeedAt Γ W nm lv honest deep:=by
 intro deep
 induction deep with
 | zero=>exact dN Hm Ht Hi H hp fun d h=>by cases h
 | succ d ih=>exact dN Hm Ht Hi H hp fun e h=>by cases h;exact tG Hm Hb ih
end
end T
end
section
namespace T
open PySem L2 WL WW
noncomputable def shD(p:Int×Int):D:=.tup [.int p.1,.int p.2]
noncomputable def whlS:Sms→Sms
 | .cons (.whl _ b) _=>b
 | s=>s
noncomputable def sg(prog:D)(most t:Int)(x6 x7 x8:Option D):DS:=[some prog,some (.mref 0),some (.mref 1),some (.int most),some (.int t),some (.mref 2),x6,x7,x8]
noncomputable def mm(sn:List Str)(s:S Str):Mem:=[.dct (ksOf sn) (vsOf sn s.f),.lst (s.sh.map shD),.lst ((s.st.map dD).reverse)]
theorem nC{x:Str}:∀{sn:List Str},x∈sn→((ksOf sn).any fun k=>decide (k=.inr x))=true
 | y::r,h=>by
  show (decide ((Sum.inr y:Key)=.inr x)||(ksOf r).any fun k=>decide (k=.inr x))=true
  rcases List.mem_cons.mp h with e | e
  ·subst e;simp
  ·rw[nC e];simp
theorem SN:∀l:List (Dd Str),l.length≤sizes l
 | []=>Nat.le_refl _
 | d::r=>by
  have:=SN r
  have:=d.size_pos
  simp only[List.length_cons,sizes];lia
section
variable{W:Nat}{Γ:String→Option Fn}{n:Nat}
end
end T
end
section
namespace T
open PySem L2 WL WW
section
variable{W:Nat}{Γ:String→Option Fn}{n:Nat}
end
end T
end
section
namespace T
open PySem L2 WL WW
section
variable{W:Nat}{Γ:String→Option Fn}{n:Nat}
theorem cB:∀{r:List Key} {q:List D} {ks:List Key} {vs:List D},r.length=q.length→r.Nodup→(∀k∈r,k∉ks)→putsD ks vs r q=(ks++r,vs++q)
 | [],[],ks,vs,_,_,_=>by simp[putsD]
 | k::r,v::q,ks,vs,hl,hn,hd=>by
  have hk:(ks.any fun x=>decide (x=k))=false:=by
   rw[List.any_eq_false]
   intro x hx e
   exact hd k List.mem_cons_self (by simpa using (of_decide_eq_true e)▸hx)
  have e:putD ks vs k v=(ks++[k],vs++[v]):=by rw[putD,hk];rfl
  rw[putsD,e]
  rw[cB (by simpa using hl) (List.nodup_cons.mp hn).2 (fun x hx q=>by
   rcases List.mem_append.mp q with q | q
   ·exact hd x (List.mem_cons_of_mem _ hx) q
   ·rw[List.mem_singleton.mp q]at hx
    exact(List.nodup_cons.mp hn).1 hx)]
  simp
noncomputable def pairsD(sn:List Str)(f:Str→Int):List D:=sn.map fun x=>.tup [.str x,.int (f x)]
theorem K4{f:Str→Int}:∀sn:List Str,pairsOf (pairsD sn f)=some (ksOf sn,vsOf sn f)
 | []=>rfl
 | x::r=>by
  have ih:=K4 (f:=f) r
  simp only[pairsD,List.map_cons]at ih ⊢
  simp only[pairsOf,keyD,ih]
  rfl
theorem JQ(l:List Str)(f:Str→Int):D.clean.cleans (l.map fun x=>.tup [.str x,.int (f x)])=true:=by
 induction l with
 | nil=>rfl
 | cons a r ih=>simp[ih]
end
end T
end
section
namespace T
open PySem L2 WL WW
section
variable{W:Nat}{Γ:String→Option Fn}{n:Nat}
structure HasP(Γ:String→Option Fn):Prop where
 cell:Γ "_law_cell" = some F_qcell
 mix:Γ "_law_mix" = some F_qmix
 name:Γ "_law_name" = some F_qname
 names:Γ "_law_names" = some F_qnames
 levels:Γ "_law_levels" = some F_qlevels
 term:Γ "_law_term" = some F_qterm
 names_in:Γ "_law_names_in" = some F_qnames_in
 deed:Γ "_law_deed" = some F_qdeed
 block:Γ "_law_block" = some F_qblock
 program:Γ "_law_program" = some F_qprogram
structure HasG(Γ:String→Option Fn):Prop extends HasP Γ where
 store:Γ "_law_store" = some F_qstore
noncomputable def cutI(ns:List Int)(lo hi:Option Int):List Int:=(ns.drop (HT.sIx ns.length 0 lo)).take (HT.sIx ns.length ns.length hi-HT.sIx ns.length 0 lo)
theorem sU(ns:List Int)(lo hi:Option Int):cutD (ns.map .int) lo hi=(cutI ns lo hi).map .int:=by
 simp only[WL.cutD,cutI,List.length_map,List.map_take,List.map_drop]
theorem sW(ns:List Int){a b:Int}(ha:0≤a)(hb:a≤b):(cutI ns (some a) (some b)).length≤(b-a).toNat:=by
 obtain⟨i,rfl⟩:=Int.eq_ofNat_of_zero_le ha
 obtain⟨j,rfl⟩:=Int.eq_ofNat_of_zero_le (show 0≤b by omega)
 simp only[cutI,HT.sIx_nat,List.length_take,List.length_drop]
 omega
theorem jA(c d:Int):Plan (namesL c) (levelsL d):=⟨rfl,rfl,YK d,names_nodup c,rfl⟩
theorem bD(H:HasP Γ){ns:List Int}{k:Nat}:∃pg:Bl Str,pg.Ok (·∈namesL (cellv ns 0))∧pg.dep≤4∧pg.size≤63∧(∀n m,callI W Γ (n+10) "_law_program" [.scr ns,.int k] m=some (.tup (dB pg),m))∧(0<mixv (cellv ns 0) 9833 4→FlB (levOf (namesL (cellv ns 0)) (levelsL (cellv ns 1))) [] pg):=by
 have hd0:=wR (W:=W) H.mix H.term H.names_in H.block H.deed (jA (cellv ns 0) (cellv ns 1)) (honest:=decide (0<mixv (cellv ns 0) 9833 4)) 2
 have hd':=fun c=>hd0 c 0 (by lia) (by lia)
 let g:Int→Dd Str:=fun c=>Classical.choose (hd' c)
 have hg:=fun c=>Classical.choose_spec (hd' c)
 have hcl:=sW ns (a:=k) (b:=k+1+cellv ns 0 % 3) (by lia) (by lia)
 have hcl3:(cutI ns (some k) (some (k+1+cellv ns 0 % 3))).length≤3:=by lia
 refine⟨Bl.of ((cutI ns (some k) (some (k+1+cellv ns 0 % 3))).map g),?_,?_,?_,fun n m=>?_,fun hh=>bK fun d h=>?_⟩
 ·refine RN fun d h=>?_
  obtain⟨j,_,rfl⟩:=List.mem_map.mp h
  exact(hg j).1
 ·refine PK fun d h=>?_
  obtain⟨j,_,rfl⟩:=List.mem_map.mp h
  exact(hg j).2.1
 ·refine Nat.le_trans (MP (k:=21) fun d h=>?_) ?_
  ·obtain⟨j,_,rfl⟩:=List.mem_map.mp h
   exact(hg j).2.2.1
  ·rw[List.length_map];lia
 ·refine CW (n:=n+9) H.program rfl (KQ _) ?_
  have hc:=MN (W:=W) (n:=n+8) (m:=m) H.cell (ns:=ns) (k:=0)
  rw[Int.natCast_zero]at hc
  have hm:∀{c p k:Int},0<p→0<k→callI W Γ (n+9) "_law_mix" [.int c,.int p,.int k] m=some (.int (mixv c p k),m):=fun hp hk=>IV (n:=n+8) H.mix hp hk
  have hn:=QL (W:=W) (n:=n+6) (m:=m) H.mix H.cell H.name H.names (ns:=ns)
  have hl:=Z9 (W:=W) (n:=n+7) (m:=m) H.mix H.cell H.levels (ns:=ns)
  have hsl:slD (.scr ns) (some k) (some (k+1+cellv ns 0 % 3))=some (.lst ((cutI ns (some k) (some (k+1+cellv ns 0 % 3))).map .int)):=by
   show some (D.lst (cutD (ns.map .int) _ _))=_
   rw[sU]
  have comp:∀x,ev (callI W Γ (n+9)) (.comp false 1 (.nm 5) (.seq (.var 4)) .tt (.call "_law_deed" (.cons (.var 3) (.cons (.var 5) (.cons (.con (.int 2)) (.cons (.con (.int 0)) .nil)))))) [some (.scr ns),some (.int k),x,some (planD (namesL (cellv ns 0)) (levelsL (cellv ns 1)) (decide (0<mixv (cellv ns 0) 9833 4))),some (.lst ((cutI ns (some k) (some (k+1+cellv ns 0 % 3))).map .int))] m=some (.lst (dB (Bl.of ((cutI ns (some k) (some (k+1+cellv ns 0 % 3))).map g))),m):=by
   intro x
   rw[IK (xs:=(cutI ns (some k) (some (k+1+cellv ns 0 % 3))).map .int) (fun d=>match d with | .int j=>dD (g j) | _=>.non) rfl rfl (by rw[List.length_map];lia)]
   ·rw[tU,List.map_map,List.map_map];rfl
   ·intro d hd
    obtain⟨j,hj,rfl⟩:=List.mem_map.mp hd
    refine⟨[some (.scr ns),some (.int k),x,some (planD (namesL (cellv ns 0)) (levelsL (cellv ns 1)) (decide (0<mixv (cellv ns 0) 9833 4))),some (.lst ((cutI ns (some k) (some (k+1+cellv ns 0 % 3))).map .int)),some (.int j)],rfl,rfl,BX ((hg j).2.2.2.1 n m) rfl⟩
  exact CK (G9 (BX (hm (by decide) (by decide)) (BW (BX hc rfl) rfl)) rfl rfl) (CK (FZ (BW (BX hn rfl) (BW (BX hl rfl) rfl)) (Nat.le_of_ble_eq_true rfl)) (CK (lN rfl rfl (lW (DN rfl (DN (BX hc rfl) rfl (JR (by decide))) rfl)) hsl) (CP (G3 (comp _) rfl))))
 ·obtain⟨j,_,rfl⟩:=List.mem_map.mp h
  exact(hg j).2.2.2.2 (decide_eq_true hh) [] (fun y hy=>nomatch hy)
noncomputable def numL(c:Int)(j:Nat):Int:=if c % 4=0 then mixv (c+13*j) 9829 997 % 3 else mixv (c+13*j) 9829 997
noncomputable def gL(q c:Int)(x:Str):Int:=if x=nameL q 0 then numL c 0 else if x=nameL q 1 then numL c 1 else if x=nameL q 2 then numL c 2 else numL c 3
noncomputable def snL(q c:Int):List Str:=(sortSI [(nameL q 0,numL c 0),(nameL q 1,numL c 1),(nameL q 2,numL c 2),(nameL q 3,numL c 3)]).map (·.1)
theorem oM(q c:Int):(snL q c).Perm (namesL q):=List.Perm.map (fun p:Str×Int=>p.1) (List.mergeSort_perm [(nameL q 0,numL c 0),(nameL q 1,numL c 1),(nameL q 2,numL c 2),(nameL q 3,numL c 3)] fun p q=>strLe p.1 q.1)
theorem iV(q c:Int):(sortSI [(nameL q 0,numL c 0),(nameL q 1,numL c 1),(nameL q 2,numL c 2),(nameL q 3,numL c 3)]).map unSI=pairsD (snL q c) (gL q c):=by
 unfold pairsD snL
 rw[List.map_map]
 refine List.map_congr_left fun p hp=>?_
 have hp:p∈[(nameL q 0,numL c 0),(nameL q 1,numL c 1),(nameL q 2,numL c 2),(nameL q 3,numL c 3)]:=(List.mergeSort_perm _ _).mem_iff.mp hp
 have ne:∀{i j:Nat},i<4→j<4→i≠j→¬nameL q i=nameL q j:=fun hi hj hn e=>hn (YD hi hj e)
 have n10:=ne (i:=1) (j:=0) (by decide) (by decide) (by decide)
 have n20:=ne (i:=2) (j:=0) (by decide) (by decide) (by decide)
 have n21:=ne (i:=2) (j:=1) (by decide) (by decide) (by decide)
 have n30:=ne (i:=3) (j:=0) (by decide) (by decide) (by decide)
 have n31:=ne (i:=3) (j:=1) (by decide) (by decide) (by decide)
 have n32:=ne (i:=3) (j:=2) (by decide) (by decide) (by decide)
 simp only[List.mem_cons,List.not_mem_nil,or_false]at hp
 rcases hp with rfl | rfl | rfl | rfl<;>simp[unSI,gL,n10,n20,n21,n30,n31,n32]
theorem sY(H:HasG Γ){ns:List Int}{k:Nat}:callI W Γ (n+10) "_law_store" [.scr ns,.int k] []=some (.tup (pairsD (snL (cellv ns 0) (cellv ns k)) (gL (cellv ns 0) (cellv ns k))),[]):=by
 have hc:∀m,callI W Γ (n+9) "_law_cell" [.scr ns,.int k] m=some (.int (cellv ns k),m):=fun m=>MN (W:=W) (n:=n+8) (m:=m) H.cell (ns:=ns) (k:=k)
 have hm:∀m {c p k:Int},0<p→0<k→callI W Γ (n+9) "_law_mix" [.int c,.int p,.int k] m=some (.int (mixv c p k),m):=fun m _ _ _ hp hk=>IV (n:=n+8) H.mix hp hk
 have hn:∀m,callI W Γ (n+9) "_law_names" [.scr ns] m=_:=fun m=>QL (W:=W) (n:=n+6) (m:=m) H.mix H.cell H.name H.names (ns:=ns)
 generalize cellv ns k=c at hc ⊢
 generalize cellv ns 0=q at hn ⊢
 have hs:∀m,m[0]?=some (.lst [.tup [.str (nameL q 0),.int (numL c 0)],.tup [.str (nameL q 1),.int (numL c 1)],.tup [.str (nameL q 2),.int (numL c 2)],.tup [.str (nameL q 3),.int (numL c 3)]])→b1D (.sorted false) (.mref 0) m=some (.lst (pairsD (snL q c) (gL q c)),m):=fun m e=>by
  have nd:=names_nodup q
  have e1:lstOf (.mref 0) m=some [.tup [.str (nameL q 0),.int (numL c 0)],.tup [.str (nameL q 1),.int (numL c 1)],.tup [.str (nameL q 2),.int (numL c 2)],.tup [.str (nameL q 3),.int (numL c 3)]]:=by
   show (match m[0]? with | some (.lst xs)=>some xs | _=>none)=_
   rw[e]
  show ((lstOf (.mref 0) m).bind fun xs=>(pairSIs xs).bind fun ps=>if xs.length≤4∧(ps.map (·.1)).Nodup then some (mkL false ((sortSI ps).map unSI) m) else none)=_
  rw[e1,Option.bind_some,show pairSIs [.tup [.str (nameL q 0),.int (numL c 0)],.tup [.str (nameL q 1),.int (numL c 1)],.tup [.str (nameL q 2),.int (numL c 2)],.tup [.str (nameL q 3),.int (numL c 3)]]=some [(nameL q 0,numL c 0),(nameL q 1,numL c 1),(nameL q 2,numL c 2),(nameL q 3,numL c 3)] from rfl,Option.bind_some,if_pos ⟨by simp,by simpa[namesL] using nd⟩,←iV]
  rfl
 have e0:=JQ (snL q c) (gL q c)
 have hst:∀(i:Nat) (x:Str) (acc:List D) (x5:Option D),acc.length<100000→exs (callI W Γ (n+9)) W (frX (restS 1 b_qstore)) [some (.scr ns),some (.int k),some (.mref 0),some (.int i),some (.str x),x5] [.lst acc]=some (.nx [some (.scr ns),some (.int k),some (.mref 0),some (.int i),some (.str x),some (.int (numL c i))],[.lst (acc++[.tup [.str x,.int (numL c i)]])]):=fun i x acc x5 hl=>by
  refine CK (d:=.int (mixv (c+13*i) 9829 997)) (BX (hm _ (by decide) (by decide)) (BW (DN (BX (hc _) rfl) (DN rfl rfl (JK (by decide))) rfl) rfl)) ?_
  have t4:=fun(σ:DS) (h:evs (callI W Γ (n+9)) (.cons (.var 0) (.cons (.var 1) .nil)) σ [.lst acc]=some ([.scr ns,.int k],[.lst acc]))=>GJ (C:=callI W Γ (n+9)) (σ:=σ) (m:=[.lst acc]) (G9 (o:=.eq) (e2:=.con (.int 0)) (d2:=.int 0) (DN (e2:=.con (.int 4)) (BX (hc _) h) rfl (JR (b:=4) (by decide))) rfl rfl) (uE _)
  by_cases h4:c % 4=0
  ·rw[numL,if_pos h4]
   exact GQ (GP (t4 _ rfl) h4) (CK (DN rfl rfl (JR (by decide))) rfl) (G6 (lU rfl rfl rfl rfl hl) rfl)
  ·rw[numL,if_neg h4]
   exact DQ (G7 (t4 _ rfl) h4) (G6 (lU rfl rfl rfl rfl hl) rfl)
 have le:∀{a b:Nat},Nat.ble a b=true→a≤b:=Nat.le_of_ble_eq_true
 exact KY (q:=[.lst [.tup [.str (nameL q 0),.int (numL c 0)],.tup [.str (nameL q 1),.int (numL c 1)],.tup [.str (nameL q 2),.int (numL c 2)],.tup [.str (nameL q 3),.int (numL c 3)]]]) (n:=n+9) H.store rfl e0 (CK (d:=.mref 0) (m1:=[MO.lst []]) rfl (NT (sI (BX (hn _) rfl)) (FW rfl rfl (hst 0 _ _ _ (le rfl)) (FW rfl rfl (hst 1 _ _ _ (le rfl)) (FW rfl rfl (hst 2 _ _ _ (le rfl)) (FW rfl rfl (hst 3 _ _ _ (le rfl)) (R8 rfl))))) (CP (G3 (G3 rfl (hs _ rfl)) rfl))))
end
end T
end
section
namespace T
open PySem L2 WL WW
noncomputable def okD:Nat→D→Bool
 | _,.non=>true
 | _,.bl _=>true
 | _,.int _=>true
 | _,.str x=>(PyData.str x).canLay0
 | k+1,.tup xs=>xs.all (okD k)
 | _,_=>false
theorem xT:∀{k:Nat} {d:D},okD k d=true→∃p,pyD d=some p∧p.canLay0=true∧p.depth≤k:=by
 intro k
 induction k with
 | zero=>
  intro d h
  cases d with
  | non=>exact⟨_,rfl,rfl,Nat.le_refl _⟩
  | bl b=>exact⟨_,rfl,rfl,Nat.le_refl _⟩
  | int i=>exact⟨_,rfl,rfl,Nat.le_refl _⟩
  | str x=>exact⟨_,rfl,h,Nat.le_refl _⟩
  | _=>cases h
 | succ k ih=>
  intro d h
  cases d with
  | non=>exact⟨_,rfl,rfl,Nat.zero_le _⟩
  | bl b=>exact⟨_,rfl,rfl,Nat.zero_le _⟩
  | int i=>exact⟨_,rfl,rfl,Nat.zero_le _⟩
  | str x=>exact⟨_,rfl,h,Nat.zero_le _⟩
  | tup xs=>
   have key:∀xs:List D,(xs.all (okD k))=true→∃ps,pyDs xs=some ps∧PyData.canLayAll0 ps=true∧PyData.depthAll ps≤k:=by
    intro xs
    induction xs with
    | nil=>exact fun _=>⟨[],rfl,rfl,Nat.zero_le _⟩
    | cons a r ihr=>
     intro h
     simp only[List.all_cons,Bool.and_eq_true]at h
     obtain⟨p,e1,e2,e3⟩:=ih h.1
     obtain⟨ps,q1,q2,q3⟩:=ihr h.2
     exact⟨p::ps,by
      show (pyD a).bind _=_
      rw[e1];show (pyDs r).map _=_
      rw[q1];rfl,by simp[PyData.canLayAll0,e2,q2],by simp only[PyData.depthAll];lia⟩
   obtain⟨ps,q1,q2,q3⟩:=key xs h
   exact⟨.tuple ps,by
    show (pyDs xs).map _=_
    rw[q1];rfl,by simpa[PyData.canLay0] using q2,by simp only[PyData.depth];lia⟩
  | _=>cases h
theorem eq_self{d:D}(h:okD 60 d=true):eqDeep d d=some true:=by
 obtain⟨p,e1,e2,e3⟩:=xT h
 unfold eqDeep
 rw[e1,Option.bind_some,Option.bind_some,if_pos (by simp[e2];omega),SeqAt.eqv_refl p e2]
theorem rZ{xs ys:List D}:eqD (.tup xs) (.tup ys)=eqDeep (.tup xs) (.tup ys):=rfl
theorem kW(q:Int)(k:Nat):(PyData.str (nameL q k)).canLay0=true:=by
 have h:=qX q k
 simp only[PyData.canLay0,PyData.strOk,Array.all_eq_true_iff_forall_mem]
 intro x hx
 have:=h x (by simpa using hx)
 simp;lia
noncomputable def frS:Sms→Sms
 | .cons (.fr _ _ b) _=>b
 | s=>s
end T
end
section
namespace T
open PySem L2 WL WW
structure Stand(nm ks:List Str)(f:Str→Int):Prop where
 nd:ks.Nodup
 sub:∀x∈ks,x∈nm
 zero:∀x,x∉ks→f x=0
noncomputable def mg(ks:List Str)(s:S Str):Mem:=[.dct (ksOf ks) (vsOf ks s.f),.lst (s.sh.map shD),.lst ((s.st.map dD).reverse)]
theorem cN{f:Str→Int}{x:Str}:∀{ks:List Str},x∉ks→lookD (ksOf ks) (vsOf ks f) (.inr x)=none
 | [],_=>rfl
 | y::r,h=>by
  show (if (Sum.inr y:Key)=.inr x then some (D.int (f y)) else lookD (ksOf r) (vsOf r f) (.inr x))=_
  rw[if_neg (fun q=>h (by rw[Sum.inr.inj q];exact List.mem_cons_self))]
  exact cN fun q=>h (List.mem_cons_of_mem _ q)
theorem kI{nm ks:List Str}{f:Str→Int}(h:Stand nm ks f)(x:Str):(lookD (ksOf ks) (vsOf ks f) (.inr x)).getD (.int 0)=.int (f x):=by
 by_cases e:x∈ks
 ·rw[cM e];rfl
 ·rw[cN e,h.zero x e];rfl
theorem nF{x:Str}:∀{ks:List Str},x∉ks→((ksOf ks).any fun k=>decide (k=.inr x))=false
 | [],_=>rfl
 | y::r,h=>by
  show (decide ((Sum.inr y:Key)=.inr x)||(ksOf r).any fun k=>decide (k=.inr x))=false
  rw[nF fun q=>h (List.mem_cons_of_mem _ q)]
  have:¬(Sum.inr y:Key)=.inr x:=fun q=>h (by rw[Sum.inr.inj q];exact List.mem_cons_self)
  simp[this]
section
variable{W:Nat}{Γ:String→Option Fn}{n:Nat}
end
end T
end
section
namespace T
open PySem L2 WL WW
theorem eV(a b:Str):(strLe a b||strLe b a)=true:=by
 unfold strLe
 by_cases h:b.cps.toList<a.cps.toList
 ·have:¬a.cps.toList<b.cps.toList:=fun q=>List.lt_irrefl _ (List.lt_trans h q)
  simp[this]
 ·simp[h]
theorem LR{a b:Str}(h:strLe a b=true)(h':strLe b a=true):a=b:=by
 unfold strLe at h h'
 simp at h h'
 have:a.cps.toList=b.cps.toList:=List.le_antisymm h h'
 cases a;cases b
 simp at this
 rw[this]
theorem iI{a b c:Str}(h:strLe a b=true)(h':strLe b c=true):strLe a c=true:=by
 unfold strLe at h h' ⊢
 simp at h h' ⊢
 exact List.le_trans h h'
section
variable{W:Nat}{Γ:String→Option Fn}{n:Nat}
end
end T
end
section
namespace T
open PySem L2 WL WW
section
variable{m0:Mem}{ks ks':List Str}{st st':List (Dd Str)}{f f':Str→Int}{sh sh':List (Int×Int)}{t t':Int}{s:S Str}
end
section
variable{W:Nat}{Γ:String→Option Fn}{n:Nat}{m0:Mem}{prog:D}{most t:Int}{x6 x7 x8:Option D}{ks:List Str}{k:List (Dd Str)}{f:Str→Int}{sh:List (Int×Int)}{d:Dd Str}
variable{sn:List Str}
end
end T
end
section
namespace T
open PySem L2 WL WW
section
variable{W:Nat}{Γ:String→Option Fn}{n:Nat}{m0:Mem}
end
end T
end
section
namespace T
open PySem L2 WL WW
section
variable{W:Nat}{Γ:String→Option Fn}{n:Nat}{m0:Mem}
theorem W3{ks:List Str}{f:Str→Int}(hnd:ks.Nodup)(h64:ks.length≤1000)(mu:Bool)(m:Mem):b1D (.dict mu) (.tup (pairsD ks f)) m=some (mkD mu (ksOf ks) (vsOf ks f) m):=by
 have e1:=cB (r:=ksOf ks) (q:=vsOf ks f) (ks:=[]) (vs:=[]) (by simp[ksOf,vsOf]) (by
  unfold ksOf
  exact List.Pairwise.map _ (fun a b (h:a≠b) q=>h (Sum.inr.inj q)) hnd) (by simp)
 have e2:(ksOf ks).length≤1000:=by simpa only [ksOf,List.length_map] using h64
 show ((pairsOf (pairsD ks f)).bind fun(ks,vs)=>if ks.length≤1000 then some (mkD mu (putsD [] [] ks vs).1 (putsD [] [] ks vs).2 m) else none)=_
 rw[K4,Option.bind_some]
 show (if (ksOf ks).length≤1000 then some (mkD mu (putsD [] [] (ksOf ks) (vsOf ks f)).1 (putsD [] [] (ksOf ks) (vsOf ks f)).2 m) else none)=_
 rw[if_pos e2,e1]
 rfl
end
end T
end
section
namespace T
open PySem L2 WL WW
inductive Pt where
 | tm (t:Tm Str) | dd (d:Dd Str)
noncomputable def dP:Pt→D
 | .tm t=>dT t
 | .dd d=>dD d
noncomputable def Pt.own:Pt→List Str
 | .tm (.nam x)=>[x]
 | .dd (.put x _)=>[x]
 | _=>[]
noncomputable def Pt.parts:Pt→List Pt
 | .tm (.bin _ a b)=>[.tm a,.tm b]
 | .dd (.put _ e)=>[.tm e]
 | .dd (.sho _ e)=>[.tm e]
 | .dd (.ite e b c)=>.tm e::(b.list.map Pt.dd++c.list.map Pt.dd)
 | .dd (.whl e b)=>.tm e::b.list.map Pt.dd
 | _=>[]
noncomputable def tmW:Tm Str→Nat
 | .bin _ a b=>tmW a+tmW b+1
 | _=>1
mutual
noncomputable def ddW:Dd Str→Nat
 | .put _ e=>tmW e+1
 | .sho _ e=>tmW e+1
 | .ite e b c=>tmW e+blW b+blW c+1
 | .whl e b=>tmW e+blW b+1
noncomputable def blW:Bl Str→Nat
 | .nil=>0
 | .cons d b=>ddW d+blW b
end
noncomputable def Pt.w:Pt→Nat
 | .tm t=>tmW t
 | .dd d=>ddW d
noncomputable def ptsW:List Pt→Nat
 | []=>0
 | p::r=>p.w+ptsW r
theorem J3:∀a b:List Pt,ptsW (a++b)=ptsW a+ptsW b
 | [],b=>by simp[ptsW]
 | p::a,b=>by simp only[List.cons_append,ptsW,J3 a b];lia
theorem cC:∀b:Bl Str,ptsW (b.list.map Pt.dd)=blW b
 | .nil=>rfl
 | .cons d b=>by simp only[Bl.list,List.map_cons,ptsW,Pt.w,blW,cC b]
theorem M9(p:Pt):ptsW p.parts+1=p.w:=by
 cases p with
 | tm t=>cases t<;>simp only[Pt.parts,ptsW,Pt.w,tmW]<;>lia
 | dd d=>cases d<;>simp only[Pt.parts,ptsW,Pt.w,ddW,J3,cC]<;>lia
mutual
noncomputable def ddN:Dd Str→List Str
 | .put x e=>x::e.names
 | .sho _ e=>e.names
 | .ite e b c=>e.names++blN b++blN c
 | .whl e b=>e.names++blN b
noncomputable def blN:Bl Str→List Str
 | .nil=>[]
 | .cons d b=>ddN d++blN b
end
noncomputable def Pt.N:Pt→List Str
 | .tm t=>t.names
 | .dd d=>ddN d
theorem bG{x:Str}:∀b:Bl Str,x∈blN b↔∃p∈b.list.map Pt.dd,x∈p.N
 | .nil=>by simp[blN,Bl.list]
 | .cons d b=>by simp only[blN,List.mem_append,Bl.list,List.map_cons,List.mem_cons,exists_eq_or_imp,bG b,Pt.N]
theorem V5(p:Pt)(x:Str):x∈p.N↔x∈p.own∨∃q∈p.parts,x∈q.N:=by
 cases p with
 | tm t=>cases t<;>simp[Pt.N,Pt.own,Pt.parts,Tm.names]
 | dd d=>
  cases d with
  | put y e=>simp[Pt.N,Pt.own,Pt.parts,ddN]
  | sho l e=>simp[Pt.N,Pt.own,Pt.parts,ddN]
  | ite e b c=>
   simp only[Pt.N,Pt.own,Pt.parts,ddN,List.mem_append,List.not_mem_nil,false_or,List.mem_cons,exists_eq_or_imp,bG]
   constructor
   ·rintro ((h | ⟨p,h1,h2⟩) | ⟨p,h1,h2⟩)
    ·exact .inl h
    ·exact .inr ⟨p,.inl h1,h2⟩
    ·exact .inr ⟨p,.inr h1,h2⟩
   ·rintro (h | ⟨p,h1 | h1,h2⟩)
    ·exact .inl (.inl h)
    ·exact .inl (.inr ⟨p,h1,h2⟩)
    ·exact .inr ⟨p,h1,h2⟩
  | whl e b=>simp only[Pt.N,Pt.own,Pt.parts,ddN,List.mem_append,List.not_mem_nil,false_or,List.mem_cons,exists_eq_or_imp,bG]
section
variable{W:Nat}{Γ:String→Option Fn}{n:Nat}{m:Mem}
theorem sS(d:Dd Str):1≤ddW d:=by cases d<;>simp only[ddW]<;>lia
theorem W6:∀b:Bl Str,(dB b).length≤blW b
 | .nil=>Nat.le_refl _
 | .cons d b=>by
  have:=W6 b
  have:=sS d
  simp only[dB,List.length_cons,blW];lia
theorem sl1{a b c:D}:slD (.tup [a,b,c]) (some 1) none=some (.tup [b,c]):=rfl
theorem sl2{a b c:D}:slD (.tup [a,b,c]) (some 2) none=some (.tup [c]):=rfl
theorem YQ{x:Str}{ys:List Str}:cmpD .isin (.str x) (.tup (ys.map .str))=some (ys.any fun y=>decide (x=y)):=by
 have h1:D.flat (.str x)=true:=rfl
 have h2:=T5 ys
 have h3:inD (.str x) (ys.map .str)=ys.any fun y=>decide (x=y):=by
  simp only[inD,List.any_map]
  rfl
 show (if D.flat (.str x)&&(ys.map D.str).all D.flat then some (inD (.str x) (ys.map .str)) else none)=_
 rw[h1,h2,h3];rfl
theorem yM{x a b:Str}:cmpD .isin (.str x) (.tup [.str a,.str b])=some (decide (x=a)||decide (x=b)):=by
 have:=YQ (x:=x) (ys:=[a,b])
 simpa using this
theorem yL{x a b c:Str}:cmpD .isin (.str x) (.tup [.str a,.str b,.str c])=some (decide (x=a)||(decide (x=b)||decide (x=c))):=by
 have:=YQ (x:=x) (ys:=[a,b,c])
 simpa using this
theorem in2{a b c:String}{v:Bool}(h:(decide (a=b)||decide (a=c))=v):cmpD .isin (.str (Str.ofString a)) (.tup [.str (Str.ofString b),.str (Str.ofString c)])=some v:=by rw[yM];simp only[ofString_eq,h]
theorem in3{a b c d:String}{v:Bool}(h:(decide (a=b)||(decide (a=c)||decide (a=d)))=v):cmpD .isin (.str (Str.ofString a)) (.tup [.str (Str.ofString b),.str (Str.ofString c),.str (Str.ofString d)])=some v:=by rw[yL];simp only[ofString_eq,h]
theorem sZ(H:Γ "parts_of" = some F_parts_of)(p:Pt)(hl:p.w≤4000):callI W Γ (n+1) "parts_of" [dP p] m=some (.tup (p.parts.map dP),m):=by
 have cl:∀ps:List Pt,D.clean.cleans (ps.map dP)=true:=fun ps=>by
  induction ps with
  | nil=>rfl
  | cons q r ih=>
   have:(dP q).clean=true:=by
    cases q with
    | tm t=>exact J0 t
    | dd d=>exact QK d
   simp[this,ih]
 have t1:∀(a:String) (v:Bool) (σ:DS),(decide (a = "number")||decide (a = "name"))=v→σ[1]?=some (some (.str (Str.ofString a)))→et (callI W Γ n) (.val (.cmp .isin (.var 1) (.tup (.cons (.con (.str (Str.ofString "number"))) (.cons (.con (.str (Str.ofString "name"))) .nil))))) σ m=some (v,m):=fun a v σ h hσ=>GJ (G9 (d:=.str (Str.ofString a)) (by rw[S7,hσ]) rfl (in2 h)) rfl
 have t2:∀(a:String) (v:Bool) (σ:DS),(decide (a = "sum")||(decide (a = "times")||decide (a = "less")))=v→σ[1]?=some (some (.str (Str.ofString a)))→et (callI W Γ n) (.val (.cmp .isin (.var 1) (.con g_PAIRING))) σ m=some (v,m):=fun a v σ h hσ=>GJ (G9 (d:=.str (Str.ofString a)) (by rw[S7,hσ]) rfl (in3 h)) rfl
 have t3:∀(a:String) (v:Bool) (σ:DS),(decide (a = "put")||decide (a = "show"))=v→σ[1]?=some (some (.str (Str.ofString a)))→et (callI W Γ n) (.val (.cmp .isin (.var 1) (.tup (.cons (.con (.str (Str.ofString "put"))) (.cons (.con (.str (Str.ofString "show"))) .nil))))) σ m=some (v,m):=fun a v σ h hσ=>GJ (G9 (d:=.str (Str.ofString a)) (by rw[S7,hσ]) rfl (in2 h)) rfl
 refine CW H rfl (cl _) ?_
 cases p with
 | tm t=>
  cases t with
  | num k=>exact CK rfl (FP (t1 "number" true _ (by decide) rfl) (CP rfl))
  | nam x=>exact CK rfl (FP (t1 "name" true _ (by decide) rfl) (CP rfl))
  | bin o a b=>exact CK rfl (DQ (t1 (opS o) false _ (by cases o<;>decide) rfl) (FP (t2 (opS o) true _ (by cases o<;>decide) rfl) (CP rfl)))
 | dd d=>
  cases d with
  | put x e=>exact CK rfl (DQ (t1 "put" false _ (by decide) rfl) (DQ (t2 "put" false _ (by decide) rfl) (FP (t3 "put" true _ (by decide) rfl) (CP rfl))))
  | sho l e=>exact CK rfl (DQ (t1 "show" false _ (by decide) rfl) (DQ (t2 "show" false _ (by decide) rfl) (FP (t3 "show" true _ (by decide) rfl) (CP rfl))))
  | ite e b c=>
   have h1:=W6 b
   have h2:=W6 c
   simp only[Pt.w,ddW]at hl
   rw[show (Pt.parts (.dd (.ite e b c))).map dP=[dT e]++dB b++dB c by
    rw[J6,J6]
    show dT e::_=_
    rw[List.map_append,List.map_map,List.map_map];rfl]
   exact CK rfl (DQ (t1 "if" false _ (by decide) rfl) (DQ (t2 "if" false _ (by decide) rfl) (DQ (t3 "if" false _ (by decide) rfl) (FP (GP (p:=Str.ofString "if" = Str.ofString "if") rfl rfl) (CP (DN (DN rfl rfl (J1 (by rw[List.length_singleton];lia))) rfl (J1 (by rw[List.length_append,List.length_singleton];lia))))))))
  | whl e b=>
   have h1:=W6 b
   simp only[Pt.w,ddW]at hl
   rw[show (Pt.parts (.dd (.whl e b))).map dP=[dT e]++dB b by
    rw[J6]
    show dT e::_=_
    rw[List.map_map];rfl]
   exact CK rfl (DQ (t1 "while" false _ (by decide) rfl) (DQ (t2 "while" false _ (by decide) rfl) (DQ (t3 "while" false _ (by decide) rfl) (DQ (G7 (p:=Str.ofString "while" = Str.ofString "if") rfl (sne (by decide))) (CP (DN rfl rfl (J1 (by rw[List.length_singleton];lia))))))))
end
end T
end
section
namespace T
open PySem L2 WL WW
noncomputable def tru(ks:List Str):List D:=ks.map fun _=>.bl true
noncomputable def addN(ks:List Str):List Str→List Str
 | []=>ks
 | x::r=>addN (if x∈ks then ks else ks++[x]) r
noncomputable def mn(m0:Mem)(ks:List Str)(ps:List Pt):Mem:=m0++[.dct (ksOf ks) (tru ks),.lst (ps.map dP)]
noncomputable def sN(b:Nat)(prog:D)(x3:Option D):DS:=[some prog,some (.mref b),some (.mref (b+1)),x3]
noncomputable def bodyN:Sms:=whlS (restS 2 b_names_of)
section
variable{m0:Mem}{ks ks':List Str}{ps ps':List Pt}
theorem mn0:(mn m0 ks ps)[m0.length]?=some (.dct (ksOf ks) (tru ks)):=by simp[mn]
theorem mn1:(mn m0 ks ps)[m0.length+1]?=some (.lst (ps.map dP)):=by simp[mn]
theorem zL:(mn m0 ks ps).set m0.length (.dct (ksOf ks') (tru ks'))=mn m0 ks' ps:=by simp[mn]
theorem yH:(mn m0 ks ps).set (m0.length+1) (.lst (ps'.map dP))=mn m0 ks ps':=by simp[mn]
end
theorem cA{x:Str}:∀{ks:List Str},repD (ksOf ks) (tru ks) (.inr x) (.bl true)=tru ks
 | []=>rfl
 | y::r=>by
  show (if (Sum.inr y:Key)=.inr x then D.bl true else .bl true)::repD (ksOf r) (tru r) (.inr x) (.bl true)=_
  rw[cA,ite_self];rfl
theorem pH{x:Str}{ks:List Str}:putD (ksOf ks) (tru ks) (.inr x) (.bl true)=(ksOf (addN ks [x]),tru (addN ks [x])):=by
 by_cases h:x∈ks
 ·rw[putD,if_pos (nC h),cA]
  simp[addN,h]
 ·rw[putD,nF h]
  simp[addN,h,ksOf,tru]
theorem addN_mem{x:Str}:∀{l ks:List Str},x∈addN ks l↔x∈ks∨x∈l
 | [],ks=>by simp[addN]
 | y::r,ks=>by
  rw[addN,addN_mem]
  by_cases h:y∈ks
  ·rw[if_pos h]
   simp only[List.mem_cons]
   constructor
   ·rintro (q | q)
    ·exact .inl q
    ·exact .inr (.inr q)
   ·rintro (q | rfl | q)
    ·exact .inl q
    ·exact .inl h
    ·exact .inr q
  ·rw[if_neg h]
   simp[List.mem_append,or_assoc]
theorem WY:∀{l ks:List Str},ks.Nodup→(addN ks l).Nodup
 | [],ks,h=>h
 | y::r,ks,h=>by
  rw[addN]
  by_cases q:y∈ks
  ·rw[if_pos q];exact WY h
  ·rw[if_neg q]
   exact WY (List.nodup_append.mpr ⟨h,by simp,fun a ha b hb e=>q (by rw[←List.mem_singleton.mp hb,←e];exact ha)⟩)
theorem YZ:∀ps:List Pt,D.clean.cleans (ps.map dP)=true
 | []=>rfl
 | q::r=>by
  have:(dP q).clean=true:=by
   cases q with
   | tm t=>exact J0 t
   | dd d=>exact QK d
  simp[this,YZ r]
theorem uZ(p:Pt):1≤p.w:=by have:=M9 p;lia
theorem V4:∀ps:List Pt,ps.length≤ptsW ps
 | []=>Nat.le_refl _
 | p::r=>by
  have:=V4 r
  have:=uZ p
  simp only[List.length_cons,ptsW];lia
section
variable{W:Nat}{Γ:String→Option Fn}{n:Nat}{m0:Mem}{prog:D}
theorem vM(p:Pt):∃k:String,(∀m,ixD (dP p) (.int 0) m=some (.str (Str.ofString k)))∧(((k = "name"∨k = "put")∧∃x,p.own=[x]∧∀m,ixD (dP p) (.int 1) m=some (.str x))∨(k≠"name"∧k≠"put"∧p.own=[])):=by
 cases p with
 | tm t=>
  cases t with
  | num k=>exact⟨"number",fun _=>rfl,.inr ⟨by decide,by decide,rfl⟩⟩
  | nam x=>exact⟨"name",fun _=>rfl,.inl ⟨.inl rfl,x,rfl,fun _=>rfl⟩⟩
  | bin o a b=>cases o<;>exact⟨_,fun _=>rfl,.inr ⟨by decide,by decide,rfl⟩⟩
 | dd d=>
  cases d with
  | put x e=>exact⟨"put",fun _=>rfl,.inl ⟨.inr rfl,x,rfl,fun _=>rfl⟩⟩
  | sho l e=>exact⟨"show",fun _=>rfl,.inr ⟨by decide,by decide,rfl⟩⟩
  | ite e b c=>exact⟨"if",fun _=>rfl,.inr ⟨by decide,by decide,rfl⟩⟩
  | whl e b=>exact⟨"while",fun _=>rfl,.inr ⟨by decide,by decide,rfl⟩⟩
theorem vQ(H:Γ "parts_of" = some F_parts_of){ks:List Str}{r:List Pt}{p:Pt}{x3:Option D}(hp:ptsW (r++[p])≤4000)(hk:ks.length<64):exs (callI W Γ (n+1)) W bodyN (sN m0.length prog x3) (mn m0 ks (r++[p]))=some (.nx (sN m0.length prog (some (dP p))),mn m0 (addN ks p.own) (r++p.parts)):=by
 have hb:bodyN=.cons (.set 3 (.pop (.var 2))) (.cons (.ite (.val (.cmp .isin (.ix (.var 3) (.con (.int 0))) (.tup (.cons (.con (.str (Str.ofString "name"))) (.cons (.con (.str (Str.ofString "put"))) .nil))))) (.cons (.put (.var 1) (.ix (.var 3) (.con (.int 1))) (.con (.bl true))) .nil) .nil) (.cons (.drop (.ext (.var 2) (.call "parts_of" (.cons (.var 3) .nil)))) .nil)):=rfl
 rw[J3]at hp
 have hpw:p.w≤4000:=by simp only[ptsW]at hp;lia
 have hl1:((r++[p]).map dP)[((r++[p]).map dP).length-1]?=some (dP p):=by simp
 have hl2:((r++[p]).map dP).dropLast=r.map dP:=by simp
 have p1:ev (callI W Γ (n+1)) (.pop (.var 2)) (sN m0.length prog x3) (mn m0 ks (r++[p]))=some (dP p,mn m0 ks r):=by
  rw[wG rfl mn1 hl1,hl2,yH]
 have hpt:=M9 p
 have hlen:=V4 p.parts
 have hlr:=V4 r
 have rest:exs (callI W Γ (n+1)) W (.cons (.drop (.ext (.var 2) (.call "parts_of" (.cons (.var 3) .nil)))) .nil) (sN m0.length prog (some (dP p))) (mn m0 (addN ks p.own) r)=some (.nx (sN m0.length prog (some (dP p))),mn m0 (addN ks p.own) (r++p.parts)):=by
  have hc:=sZ (W:=W) (n:=n) (m:=mn m0 (addN ks p.own) r) H p hpw
  have s1:(mn m0 (addN ks p.own) r).set (m0.length+1) (.lst (r.map dP++p.parts.map dP))=mn m0 (addN ks p.own) (r++p.parts):=by rw[←List.map_append,yH]
  exact G6 (rY rfl (BX hc rfl) mn1 (YZ p.parts) (by rw[List.length_map,List.length_map];simp only[ptsW]at hp;lia)) (NZ s1)
 rw[hb]
 refine CK p1 ?_
 obtain⟨k,hk0,h | ⟨h1,h2,h3⟩⟩:=vM p
 ·obtain⟨hk1,x,hx,hx1⟩:=h
  have hin:cmpD .isin (.str (Str.ofString k)) (.tup [.str (Str.ofString "name"),.str (Str.ofString "put")])=some true:=in2 (by rcases hk1 with rfl | rfl<;>decide)
  rw[hx]at rest ⊢
  exact GQ (GJ (G9 (HJ (d:=dP p) rfl rfl (hk0 _)) rfl hin) rfl) (u0 (z:=.bl true) rfl rfl (HJ (d:=dP p) rfl rfl (hx1 _)) mn0 rfl rfl (by rw[ksOf,List.length_map];lia) (NZ (by rw[pH];exact zL))) rest
 ·have hin:cmpD .isin (.str (Str.ofString k)) (.tup [.str (Str.ofString "name"),.str (Str.ofString "put")])=some false:=in2 (by rw[decide_eq_false h1,decide_eq_false h2];rfl)
  have hz:addN ks p.own=ks:=by rw[h3];rfl
  rw[hz]at rest ⊢
  exact DQ (GJ (G9 (HJ (d:=dP p) rfl rfl (hk0 _)) rfl hin) rfl) rest
theorem vR(H:Γ "parts_of" = some F_parts_of){nm:List Str}(hnm:nm.length<64):∀(w:Nat) (ps:List Pt) (ks:List Str) (x3:Option D),ptsW ps<w→ptsW ps≤4000→ks.Nodup→(∀x∈ks,x∈nm)→(∀p∈ps,∀x∈p.N,x∈nm)→∃ks' x3',ks'.Nodup∧(∀x,x∈ks'↔x∈ks∨∃p∈ps,x∈p.N)∧
  whlL (et (callI W Γ (n+1)) (.val (.var 2))) (fun σ m=>exs (callI W Γ (n+1)) W bodyN σ m) w (sN m0.length prog x3) (mn m0 ks ps)=some (.nx (sN m0.length prog x3'),mn m0 ks' []):=by
 intro w
 induction w with
 | zero=>intro ps ks x3 h;lia
 | succ w ih=>
  intro ps ks x3 hw hb hnd hks hps
  have tst:et (callI W Γ (n+1)) (.val (.var 2)) (sN m0.length prog x3) (mn m0 ks ps)=some (!ps.isEmpty,mn m0 ks ps):=by
   have h2:(sN m0.length prog x3)[2]?=some (some (.mref (m0.length+1))):=rfl
   have he:(ps.map dP).isEmpty=ps.isEmpty:=by simp
   exact GJ (d:=.mref (m0.length+1)) rfl ((iB mn1).trans (by rw[he]))
  rcases List.eq_nil_or_concat ps with rfl | ⟨r,p,rfl⟩
  ·refine⟨ks,x3,hnd,fun x=>by simp,?_⟩
   rw[whlL,tst]
   rfl
  ·rw[List.concat_eq_append]at *
   have hl:ks.length<64:=Nat.lt_of_le_of_lt (hnd.length_le_of_subset hks) hnm
   have hown:∀x∈p.own,x∈p.N:=fun x hx=>(V5 p x).mpr (.inl hx)
   have hpt:=M9 p
   rw[J3]at hw hb
   simp only[ptsW]at hw hb
   obtain⟨ks',x3',q1,q2,q3⟩:=ih (r++p.parts) (addN ks p.own) (some (dP p)) (by rw[J3];lia) (by rw[J3];lia) (WY hnd)
    (fun x hx=>(addN_mem.mp hx).elim (hks x) fun q=>hps p (by simp) x (hown x q))
    (fun q hq x hx=>by
     rcases List.mem_append.mp hq with h | h
     ·exact hps q (by simp[h]) x hx
     ·exact hps p (by simp) x ((V5 p x).mpr (.inr ⟨q,h,hx⟩)))
   refine⟨ks',x3',q1,fun x=>?_,?_⟩
   ·rw[q2,addN_mem]
    constructor
    ·rintro ((h | h) | ⟨q,hq,h⟩)
     ·exact .inl h
     ·exact .inr ⟨p,by simp,hown x h⟩
     ·rcases List.mem_append.mp hq with hq | hq
      ·exact .inr ⟨q,by simp[hq],h⟩
      ·exact .inr ⟨p,by simp,(V5 p x).mpr (.inr ⟨q,hq,h⟩)⟩
    ·rintro (h | ⟨q,hq,h⟩)
     ·exact .inl (.inl h)
     ·rcases List.mem_append.mp hq with hq | hq
      ·exact .inr ⟨q,by simp[hq],h⟩
      ·rw[List.mem_singleton.mp hq]at h
       rcases(V5 p x).mp h with h | ⟨q',h1,h2⟩
       ·exact .inl (.inr h)
       ·exact .inr ⟨q',by simp[h1],h2⟩
   ·have ne:(r++[p]).isEmpty=false:=by simp
    rw[whlL,tst,ne]
    simp only[Option.bind_some,Bool.not_false,if_true]
    rw[vQ H (by rw[J3];simp only[ptsW];lia) hl]
    exact q3
theorem bF(Hp:Γ "parts_of" = some F_parts_of)(H:Γ "names_of" = some F_names_of){nm:List Str}(hnm:nm.length<64){ps:List Pt}(hw:ptsW ps<W)(hb:ptsW ps≤4000)(hps:∀p∈ps,∀x∈p.N,x∈nm):∃ks,ks.Nodup∧(∀x,x∈ks↔∃p∈ps,x∈p.N)∧callI W Γ (n+2) "names_of" [.tup (ps.map dP)] m0=some (.tup ((sortStr ks).map .str),m0):=by
 obtain⟨ks,x3,q1,q2,q3⟩:=vR (W:=W) (n:=n) (m0:=m0) (prog:=.tup (ps.map dP)) Hp hnm W ps [] none hw hb List.nodup_nil (by simp) hps
 refine⟨ks,q1,fun x=>by rw[q2];simp,?_⟩
 have hl:ks.length<64:=Nat.lt_of_le_of_lt (q1.length_le_of_subset fun x hx=>by
  obtain h | ⟨p,hp,hx⟩:=(q2 x).mp hx
  ·simp at h
  ·exact hps p hp x hx) hnm
 have hs:∀m,m[m0.length]?=some (.dct (ksOf ks) (tru ks))→b1D (.sortedD false) (.mref m0.length) m=some (.lst ((sortStr ks).map .str),m):=fun m hm=>by
  have e1:(ksOf ks).map b1D.kD=ks.map .str:=by simp[ksOf,b1D.kD]
  have e2:(ksOf ks).length<64:=by simpa[ksOf] using hl
  have hd:dctOf (.mref m0.length) m=some (ksOf ks,tru ks):=by simp only[dctOf,hm]
  show ((dctOf (.mref m0.length) m).bind fun(ks,_)=>if ks.length<64 then (strsOf (ks.map b1D.kD)).map fun ss=>mkL false ((sortStr ss).map .str) m else none)=_
  rw[hd,Option.bind_some]
  show (if (ksOf ks).length<64 then (strsOf ((ksOf ks).map b1D.kD)).map fun ss=>mkL false ((sortStr ss).map .str) m else none)=_
  rw[if_pos e2,e1,bR]
  rfl
 have hm:m0++[.dct [] []]++[.lst (ps.map dP)]=mn m0 [] ps:=by simp[mn,ksOf,tru]
 have hk2:b1D (.list true) (.tup (ps.map dP)) (m0++[.dct [] []])=some (.mref (m0.length+1),mn m0 [] ps):=by
  show some (mkL true (ps.map dP) (m0++[.dct [] []]))=_
  rw[←hm]
  simp[mkL]
 have hcl:D.clean.cleans ((sortStr ks).map .str)=true:=by
  generalize sortStr ks=l
  induction l with
  | nil=>rfl
  | cons a r ih=>simp[ih]
 exact KY (q:=[.dct (ksOf ks) (tru ks),.lst []]) (n:=n+1) H rfl hcl (CK (d:=.mref m0.length) (m1:=m0++[MO.dct [] []]) rfl (CK (d:=.mref (m0.length+1)) (m1:=mn m0 [] ps) (G3 rfl hk2) (tZ (b:=bodyN) q3 (CP (G3 (G3 rfl (hs _ mn0)) rfl)))))
end
end T
end
section
namespace T
open PySem L2 WL WW
noncomputable def keepD(g:Str→Int)(l:Int):Dd Str→Bool
 | .put x _=>decide (g x≤l)
 | .sho k _=>decide (k≤l)
 | .ite e _ _=>e.names.all fun x=>decide (g x≤l)
 | .whl _ _=>true
theorem J5{C:String→List D→Mem→Option (D×Mem)}{α:Type}{k:Nat}{g:Tg}{i:Ie}{t:Te}{e:Ex}{σ:DS}{m:Mem}{xs:List α}{dd:α→D}{h:α→Option D}(ho:outT σ.length g=true)(hi:ei C i σ m=some (⟨xs.map dd,none⟩,m))(hl:xs.length≤1000)
  (hf:∀a∈xs,∃σ1 c,bindT g (dd a) (σ++List.replicate k none)=some σ1∧et C t σ1 m=some (c,m)∧(if c=true then (h a).isSome=true∧ev C e σ1 m=some ((h a).getD .non,m) else h a=none)):ev C (.comp false k g i t e) σ m=some (.lst (xs.filterMap h),m):=by
 have key:∀(ys:List α) (w:List D),(∀a∈ys,a∈xs)→compL ⟨w,none⟩ (fun d m=>(bindT g d (σ++List.replicate k none)).bind fun σ1=>(et C t σ1 m).bind fun(c,m2)=>if c then (ev C e σ1 m2).map fun(y,m3)=>(some y,m3) else some (none,m2)) (ys.map dd) m=some (ys.filterMap h,m):=by
  intro ys w
  induction ys with
  | nil=>exact fun _=>rfl
  | cons a r ih=>
   intro hs
   obtain⟨σ1,c,e1,e2,e3⟩:=hf a (hs a List.mem_cons_self)
   have ih:=ih fun b hb=>hs b (List.mem_cons_of_mem _ hb)
   rw[List.map_cons,compL,if_pos (show Walk.ok ⟨w,none⟩ m=true from rfl)]
   cases c with
   | true=>
    rw[if_pos rfl]at e3
    obtain⟨e3,e4⟩:=e3
    simp only[e1,e2,Option.bind_some,if_true,e4,Option.map_some,ih]
    cases hh:h a with
    | none=>rw[hh]at e3;cases e3
    | some y=>simp[List.filterMap_cons,hh]
   | false=>
    rw[if_neg (by decide)]at e3
    simp only[e1,e2,Option.bind_some,Bool.false_eq_true,if_false,ih]
    simp[List.filterMap_cons,e3]
 show (if outT σ.length g=true then (ei C i σ m).bind _ else none)=_
 rw[if_pos ho,hi]
 simp only[Option.bind_some]
 rw[key xs _ fun a h=>h]
 have:=List.length_filterMap_le h xs
 simp only[Option.bind_some]
 rw[if_pos (by lia)]
 rfl
theorem mY{α:Type}(f:α→Bool):∀l:List α,blsOf (l.map fun x=>.bl (f x))=some (l.map f)
 | []=>rfl
 | a::r=>by
  have:=mY f r
  simp only[List.map_cons,blsOf,this,Option.map_some]
theorem dX{α:Type}(f:α→Bool)(l:List α)(m:Mem):b1D .all (.lst (l.map fun x=>.bl (f x))) m=some (.bl (l.all f),m):=by
 show ((blsOf (l.map fun x=>D.bl (f x))).map fun bs=>(D.bl (bs.all id),m))=_
 rw[mY]
 simp[List.all_map,Function.comp_def]
section
variable{W:Nat}{Γ:String→Option Fn}{n:Nat}{m:Mem}
variable{nm hk:List Str}{g:Str→Int}{l:Int}
theorem ZW:∀t:Tm Str,tmW t+1≤2 ^ (t.dep+1)
 | .num _=>by simp[tmW,Tm.dep]
 | .nam _=>by simp[tmW,Tm.dep]
 | .bin _ a b=>by
  have h1:=ZW a
  have h2:=ZW b
  have h3:2 ^ (a.dep+1)≤2 ^ (max a.dep b.dep+1):=Nat.pow_le_pow_right (by lia) (by lia)
  have h4:2 ^ (b.dep+1)≤2 ^ (max a.dep b.dep+1):=Nat.pow_le_pow_right (by lia) (by lia)
  simp only[tmW,Tm.dep]
  rw[Nat.pow_succ]
  lia
noncomputable def lvD(hk:List Str)(g:Str→Int):D:=.dct (ksOf hk) (vsOf hk g)
theorem OD{C:String→List D→Mem→Option (D×Mem)}(hS:Stand nm hk g){d k z:Ex}{σ:DS}{x:Str}(h1:ev C d σ m=some (lvD hk g,m))(h2:ev C k σ m=some (.str x,m))(h3:ev C z σ m=some (.int 0,m)):ev C (.get d k z) σ m=some (.int (g x),m):=by
 have:dctOf (lvD hk g) m=some (ksOf hk,vsOf hk g):=rfl
 simp only[uM,h1,Option.bind_some,this,h2,h3,keyD,Option.map_some,kI hS]
end
end T
end
section
namespace T
open PySem L2 WL WW
section
variable{W:Nat}{Γ:String→Option Fn}{nm hk:List Str}{g:Str→Int}{l:Int}
end
end T
end
section
namespace T
open PySem L2 WL WW
section
variable{W:Nat}{Γ:String→Option Fn}{nm hk:List Str}{g:Str→Int}{l:Int}
end
noncomputable def lkp(qs:List (Str×Int))(x:Str):Int:=(qs.lookup x).getD 0
theorem V9:∀{qs:List (Str×Int)},(qs.map (·.1)).Nodup→∀p∈qs,lkp qs p.1=p.2
 | (a,b)::r,h,p,hp=>by
  have h':=List.nodup_cons.mp (show (a::r.map (·.1)).Nodup from h)
  rcases List.mem_cons.mp hp with rfl | hp
  ·simp[lkp,List.lookup_cons]
  ·have hne:(p.1==a)=false:=by
    rw[beq_eq_false_iff_ne]
    intro e
    exact h'.1 (e▸List.mem_map_of_mem hp)
   have:=V9 h'.2 p hp
   simp only[lkp,List.lookup_cons,hne]at this ⊢
   exact this
theorem aR:∀{qs:List (Str×Int)} {x:Str},x∉qs.map (·.1)→lkp qs x=0
 | [],x,_=>rfl
 | (a,b)::r,x,h=>by
  have hne:(x==a)=false:=by
   rw[beq_eq_false_iff_ne]
   exact fun e=>h (by simp[e])
  have:=aR (qs:=r) (x:=x) fun q=>h (List.mem_cons_of_mem _ q)
  simp only[lkp,List.lookup_cons,hne]at this ⊢
  exact this
theorem yJ{P:Int→Prop}(h0:P 0){qs:List (Str×Int)}(hn:(qs.map (·.1)).Nodup)(h:∀p∈qs,P p.2)(x:Str):P (lkp qs x):=by
 by_cases hx:x∈qs.map (·.1)
 ·obtain⟨p,hp,rfl⟩:=List.mem_map.mp hx
  rw[V9 hn p hp];exact h p hp
 ·rw[aR hx];exact h0
end T
end
section
namespace T
open PySem L2 WL WW
def Rise(l:List Str):Prop:=l.Nodup∧l.Pairwise (fun a b=>strLe a b=true)
theorem X5(ps:List (Str×Int)):((sortSI ps).map (·.1)).Pairwise (fun a b=>strLe a b=true):=by
 rw[List.pairwise_map]
 exact List.pairwise_mergeSort (le:=fun p q:Str×Int=>strLe p.1 q.1) (fun a b c h h'=>iI h h') (fun a b=>eV a.1 b.1) ps
theorem T3{nm:List Str}{ps:List (Str×Int)}(hn:(ps.map (·.1)).Nodup)(hs:∀p∈ps,p.1∈nm)(h4:ps.length≤4)(hl:∀p∈ps,0≤p.2∧p.2≤2){xs:List D}(hx:xs=ps.map unSI)(m:Mem):∃(hk:List Str) (g:Str→Int),Rise hk∧Stand nm hk g∧(∀x,0≤g x∧g x≤2)∧b1D (.sorted false) (.lst xs) m=some (.lst (pairsD hk g),m)∧(∀p∈ps,g p.1=p.2)∧∀x∈hk,x∈ps.map (·.1):=by
 have hp:(sortSI ps).Perm ps:=List.mergeSort_perm ps _
 have hn':((sortSI ps).map (·.1)).Nodup:=(hp.map (·.1)).nodup_iff.mpr hn
 refine⟨(sortSI ps).map (·.1),lkp (sortSI ps),⟨hn',X5 ps⟩,⟨hn',fun x hx=>?_,fun x hx=>aR hx⟩,yJ (P:=fun i=>0≤i∧i≤2) (by lia) hn' (fun p q=>hl p (hp.mem_iff.mp q)),?_,fun p q=>V9 hn' p (hp.mem_iff.mpr q),fun x hx=>(hp.map (·.1)).mem_iff.mp hx⟩
 ·obtain⟨p,q,rfl⟩:=List.mem_map.mp hx
  exact hs p (hp.mem_iff.mp q)
 ·have e1:∀qs:List (Str×Int),pairSIs (qs.map unSI)=some qs:=fun qs=>by
   induction qs with
   | nil=>rfl
   | cons a r ih=>
    show (pairSIs (r.map unSI)).map _=_
    rw[ih];rfl
  have e2:(sortSI ps).map unSI=pairsD ((sortSI ps).map (·.1)) (lkp (sortSI ps)):=by
   unfold pairsD
   rw[List.map_map]
   exact List.map_congr_left fun p q=>by
    show unSI p=D.tup [.str p.1,.int (lkp (sortSI ps) p.1)]
    rw[V9 hn' p q];rfl
  subst hx
  show ((pairSIs (ps.map unSI)).bind fun qs=>if (ps.map unSI).length≤4∧(qs.map (·.1)).Nodup then some (mkL false ((sortSI qs).map unSI) m) else none)=_
  rw[e1,Option.bind_some,if_pos ⟨by simpa using h4,hn⟩,e2]
  rfl
section
variable{W:Nat}{Γ:String→Option Fn}{n:Nat}
theorem gU:∀(a:List Str) (b:List Int),zipD (a.map .str) (b.map .int)=(a.zip b).map unSI
 | [],_=>by simp[zipD]
 | _::_,[]=>by simp[zipD]
 | x::a,y::b=>by simp[zipD,gU a b,unSI]
theorem mU(H:HasP Γ)(Hh:Γ "_law_house" = some F_qhouse){ns:List Int}(m:Mem):∃(hk:List Str) (g:Str→Int),Rise hk∧Stand (namesL (cellv ns 0)) hk g∧(∀x,0≤g x∧g x≤2)∧callI W Γ (n+10) "_law_house" [.scr ns] m=some (.tup (pairsD hk g),m)∧∀x∈namesL (cellv ns 0),g x=levOf (namesL (cellv ns 0)) (levelsL (cellv ns 1)) x:=by
 have hpl:=jA (cellv ns 0) (cellv ns 1)
 have hc:=MN (W:=W) (n:=n+8) (m:=m) H.cell (ns:=ns) (k:=1)
 have hn:=QL (W:=W) (n:=n+6) (m:=m) H.mix H.cell H.name H.names (ns:=ns)
 have hl:=Z9 (W:=W) (n:=n+7) (m:=m) H.mix H.cell H.levels (ns:=ns)
 have hnd:=names_nodup (cellv ns 0)
 have hlr:=YK (cellv ns 1)
 have hnl:(namesL (cellv ns 0)).length=4:=rfl
 have hll:(levelsL (cellv ns 1)).length=4:=rfl
 generalize namesL (cellv ns 0)=nm at *
 generalize levelsL (cellv ns 1)=lv at *
 generalize cellv ns 1=c at *
 have hz:=gU nm lv
 have hzl:(nm.zip lv).length=4:=by rw[List.length_zip];lia
 have hkeys:(nm.zip lv).map (·.1)=nm:=List.map_fst_zip (by lia)
 obtain⟨ps,hps,hsub⟩:∃ps:List (Str×Int),ps=(if c % 3=0 then (nm.zip lv).filter (fun p=>decide (0<p.2)) else nm.zip lv)∧ps.Sublist (nm.zip lv):=by
  refine⟨_,rfl,?_⟩
  split
  ·exact List.filter_sublist
  ·exact List.Sublist.refl _
 have hmem:∀p∈ps,p∈nm.zip lv:=fun p hp=>hsub.subset hp
 obtain⟨hk,g,hR,hS,hr,hs,hgp,hkp⟩:=T3 (nm:=nm) (ps:=ps) ((hsub.map (·.1)).nodup (by rw[hkeys];exact hnd)) (fun p hp=>by
   rw[←hkeys];exact List.mem_map_of_mem (hmem p hp)) (by have:=hsub.length_le;lia) (fun p hp=>by
   have:=hlr p.2 (List.of_mem_zip (hmem p hp)).2
   lia) rfl m
 have hlev:∀x∈nm,g x=levOf nm lv x:=fun x hx=>by
  obtain⟨j,hj,ej⟩:=List.getElem_of_mem hx
  have hj2:j<lv.length:=by lia
  have e1:levOf nm lv x=lv[j]:=by
   rw[aU hpl (j:=j) (by rw[List.getElem?_eq_getElem hj,ej]),List.getD_eq_getElem?_getD,List.getElem?_eq_getElem hj2];rfl
  have hzm:(x,lv[j])∈nm.zip lv:=by
   have:(nm.zip lv)[j]'(by rw[List.length_zip];lia)=(x,lv[j]):=by rw[List.getElem_zip,ej]
   rw[←this];exact List.getElem_mem _
  rw[e1]
  by_cases hm:(x,lv[j])∈ps
  ·exact hgp _ hm
  ·have h0:=hlr lv[j] (List.getElem_mem hj2)
   have hz0:lv[j]=0:=by
    rw[hps]at hm
    split at hm
    ·have:¬0<lv[j]:=fun q=>hm (List.mem_filter.mpr ⟨hzm,decide_eq_true q⟩)
     lia
    ·exact absurd hzm hm
   rw[hz0]
   refine hS.zero x fun q=>?_
   obtain⟨p,hp,ep⟩:=List.mem_map.mp (hkp x q)
   have hp':=hmem p hp
   obtain⟨i,hi,ei⟩:=List.getElem_of_mem hp'
   rw[List.getElem_zip]at ei
   rw[List.length_zip]at hi
   have hij:i=j:=(List.getElem_inj (h₀:=by lia) (h₁:=hj) hnd).mp (by rw[ej,←ep,←ei])
   subst hij
   exact hm (by rw[←ep,show lv[i]=p.2 by rw[←ei]];exact hp)
 refine⟨hk,g,hR,hS,hr,?_,hlev⟩
 have hcl:=JQ hk g
 refine CW (n:=n+9) Hh rfl (by exact hcl) ?_
 have comp:ev (callI W Γ (n+9)) (.comp false 1 (.nm 2) (.seq (.var 1)) (.val (.cmp .gt (.ix (.var 2) (.con (.int 1))) (.con (.int 0)))) (.var 2)) [some (.scr ns),some (.lst ((nm.zip lv).map unSI))] m=some (.lst (((nm.zip lv).filter (fun p=>decide (0<p.2))).map unSI),m):=by
  rw[J5 (xs:=nm.zip lv) (dd:=unSI) (h:=fun p=>if 0<p.2 then some (unSI p) else none) rfl rfl (by lia)]
  ·congr 2
   rw[←List.filterMap_eq_map',List.filterMap_filter]
   simp only[decide_eq_true_eq]
  ·intro p _
   refine⟨[some (.scr ns),some (.lst ((nm.zip lv).map unSI)),some (unSI p)],decide (0<p.2),rfl,rfl,?_⟩
   by_cases h:0<p.2
   ·rw[decide_eq_true h,if_pos rfl,if_pos h];exact⟨rfl,rfl⟩
   ·rw[decide_eq_false h,if_neg (by decide),if_neg h]
 have hlen:nm.length≤1000:=by lia
 have hmk:∀xs:List D,mkL false xs m=(.lst xs,m):=fun _=>rfl
 have lz:∀{σ:DS},σ[0]?=some (some (.scr ns))→ev (callI W Γ (n+9)) (.lzip false (.call "_law_names" (.cons (.var 0) .nil)) (.call "_law_levels" (.cons (.var 0) .nil))) σ m=some (.lst ((nm.zip lv).map unSI),m):=fun {σ} h0=>by
  show (ev (callI W Γ (n+9)) (.call "_law_names" _) σ m).bind _=_
  rw[BX hn (BW (by rw[S7,h0]) rfl)]
  show (ev (callI W Γ (n+9)) (.call "_law_levels" _) σ m).bind _=_
  rw[BX hl (BW (by rw[S7,h0]) rfl),←hz]
  exact if_pos (by rw[List.length_map];exact hlen)
 have t3:∀{σ:DS},σ[0]?=some (some (.scr ns))→et (callI W Γ (n+9)) (.val (.cmp .eq (.bin .mod (.call "_law_cell" (.cons (.var 0) (.cons (.con (.int 1)) .nil))) (.con (.int 3))) (.con (.int 0)))) σ m=some (decide (c % 3=0),m):=fun h0=>GJ (G9 (d2:=.int 0) (DN (BX hc (BW (by rw[S7,h0]) rfl)) rfl (JR (b:=3) (by decide))) rfl rfl) rfl
 by_cases h3:c % 3=0
 ·rw[if_pos h3]at hps
  subst hps
  exact CK (lz rfl) (GQ (GP (t3 rfl) h3) (CK comp rfl) (CP (G3 (G3 rfl hs) rfl)))
 ·rw[if_neg h3]at hps
  subst hps
  exact CK (lz rfl) (DQ (G7 (t3 rfl) h3) (CP (G3 (G3 rfl hs) rfl)))
end
end T
end
section
namespace T
open PySem L2 WL WW
structure HasW(Γ:String→Option Fn):Prop where
 parts:Γ "parts_of" = some F_parts_of
 names:Γ "names_of" = some F_names_of
 term:Γ "names_in_term" = some F_names_in_term
 flows:Γ "flows" = some F_flows
 gather:Γ "gather_flows" = some F_gather_flows
 add:Γ "add_flows" = some F_add_flows
structure HasF(Γ:String→Option Fn):Prop extends HasW Γ where
 lets:Γ "lets" = some F_lets
 level:Γ "level_of" = some F_level_of
noncomputable def sPage:Str:=Str.ofString "page"
noncomputable def sName:Str:=Str.ofString "name"
mutual
noncomputable def flD:List Str→Dd Str→List FK
 | cs,.put x e=>(cs++e.names).map fun y=>(y,sName,.inr x)
 | cs,.sho k e=>(cs++e.names).map fun y=>(y,sPage,.inl k)
 | cs,.ite e b c=>flB (cs++e.names) b++flB (cs++e.names) c
 | cs,.whl e b=>((cs++e.names).map fun y=>(y,sPage,.inl 0))++flB cs b
noncomputable def flB:List Str→Bl Str→List FK
 | _,.nil=>[]
 | cs,.cons d b=>flD cs d++flB cs b
end
def MemEq(a b:List Str):Prop:=∀x,x∈a↔x∈b
theorem MemEq.app{a b c d:List Str}(h:MemEq a b)(h':MemEq c d):MemEq (a++c) (b++d):=fun x=>by simp[h x,h' x]
theorem KH{a b:List Str}(h:MemEq a b){kd:Str}{z:Key}{k:FK}:k∈a.map (fun y=>(y,kd,z))↔k∈b.map (fun y=>(y,kd,z)):=by
 simp only[List.mem_map]
 exact⟨fun⟨y,hy,e⟩=>⟨y,(h y).mp hy,e⟩,fun⟨y,hy,e⟩=>⟨y,(h y).mpr hy,e⟩⟩
mutual
theorem wF:∀{d:Dd Str} {a b:List Str},MemEq a b→∀k,k∈flD a d↔k∈flD b d
 | .put x e,a,b,h,k=>by simp only[flD];exact KH (h.app fun _=>Iff.rfl)
 | .sho j e,a,b,h,k=>by simp only[flD];exact KH (h.app fun _=>Iff.rfl)
 | .ite e x y,a,b,h,k=>by
  have h':MemEq (a++e.names) (b++e.names):=h.app fun _=>Iff.rfl
  simp only[flD,List.mem_append,RD h' k]
 | .whl e x,a,b,h,k=>by
  simp only[flD,List.mem_append,RD h k]
  rw[KH (h.app (c:=e.names) fun _=>Iff.rfl)]
theorem RD:∀{x:Bl Str} {a b:List Str},MemEq a b→∀k,k∈flB a x↔k∈flB b x
 | .nil,_,_,_,k=>by simp only[flB]
 | .cons d x,a,b,h,k=>by simp only[flB,List.mem_append,wF h k,RD h k]
end
noncomputable def univ(nm:List Str):List FK:=nm.flatMap fun y=>[(y,sPage,Sum.inl 0),(y,sPage,Sum.inl 1),(y,sPage,Sum.inl 2)]++nm.map fun x=>(y,sName,Sum.inr x)
theorem JF{nm:List Str}{y:Str}{j:Int}(hy:y∈nm)(hj:0≤j∧j<3):(y,sPage,(Sum.inl j:Key))∈univ nm:=by
 refine List.mem_flatMap.mpr ⟨y,hy,List.mem_append_left _ ?_⟩
 rcases(show j=0∨j=1∨j=2 by lia) with rfl | rfl | rfl<;>simp
theorem RZ{nm:List Str}{y x:Str}(hy:y∈nm)(hx:x∈nm):(y,sName,(Sum.inr x:Key))∈univ nm:=List.mem_flatMap.mpr ⟨y,hy,List.mem_append_right _ (List.mem_map_of_mem hx)⟩
theorem Q9{nm:List Str}:∀k∈univ nm,okFK k=true:=fun k hk=>by
 obtain⟨y,_,h⟩:=List.mem_flatMap.mp hk
 rcases List.mem_append.mp h with h | h
 ·simp only[List.mem_cons,List.not_mem_nil,or_false]at h
  rcases h with rfl | rfl | rfl<;>exact decide_eq_true (show sPage=Str.ofString "page" from rfl)
 ·obtain⟨x,_,rfl⟩:=List.mem_map.mp h
  show (!decide (sName=Str.ofString "page"))=true
  decide +kernel
theorem QM{nm:List Str}(h:nm.length=4):(univ nm).length=28:=by
 match nm,h with
 | [a,b,c,d],_=>rfl
mutual
theorem cU{nm:List Str}:∀{d:Dd Str} {cs:List Str},d.Ok (·∈nm)→(∀y∈cs,y∈nm)→∀k∈flD cs d,k∈univ nm
 | .put x e,cs,ho,hc,k,hk=>by
  obtain⟨y,hy,rfl⟩:=List.mem_map.mp hk
  exact RZ ((List.mem_append.mp hy).elim (hc y) (ho.2.names y)) ho.1
 | .sho j e,cs,ho,hc,k,hk=>by
  obtain⟨y,hy,rfl⟩:=List.mem_map.mp hk
  exact JF ((List.mem_append.mp hy).elim (hc y) (ho.2.names y)) ho.1
 | .ite e b c,cs,ho,hc,k,hk=>by
  have hc':∀y∈cs++e.names,y∈nm:=fun y hy=>(List.mem_append.mp hy).elim (hc y) (ho.1.names y)
  rcases List.mem_append.mp hk with hk | hk
  ·exact HX ho.2.1 hc' k hk
  ·exact HX ho.2.2 hc' k hk
 | .whl e b,cs,ho,hc,k,hk=>by
  rcases List.mem_append.mp hk with hk | hk
  ·obtain⟨y,hy,rfl⟩:=List.mem_map.mp hk
   exact JF ((List.mem_append.mp hy).elim (hc y) (ho.1.names y)) (by lia)
  ·exact HX ho.2 hc k hk
theorem HX{nm:List Str}:∀{b:Bl Str} {cs:List Str},b.Ok (·∈nm)→(∀y∈cs,y∈nm)→∀k∈flB cs b,k∈univ nm
 | .nil,_,_,_,k,hk=>nomatch hk
 | .cons d b,cs,ho,hc,k,hk=>by
  rcases List.mem_append.mp hk with hk | hk
  ·exact cU ho.1 hc k hk
  ·exact HX ho.2 hc k hk
end
noncomputable def tgt(g:Str→Int)(k:FK):Int:=match k.2.2 with
 | .inl j=>j
 | .inr x=>g x
theorem addF_mem{ks:List FK}{q k:FK}:k∈addF ks q↔k∈ks∨k=q:=by
 unfold addF
 by_cases h:ks.any (fun x=>decide (x=q))=true
 ·rw[if_pos h]
  obtain⟨x,hx,e⟩:=List.any_eq_true.mp h
  have e:=of_decide_eq_true e
  subst e
  exact⟨.inl,fun z=>z.elim id fun e=>e▸hx⟩
 ·rw[if_neg h];simp
theorem dZ{ks:List FK}{q:FK}(hn:ks.Nodup):(addF ks q).Nodup:=by
 unfold addF
 by_cases h:ks.any (fun x=>decide (x=q))=true
 ·rw[if_pos h];exact hn
 ·rw[if_neg h]
  refine List.nodup_append.mpr ⟨hn,by simp,fun a ha b hb e=>h ?_⟩
  rw[List.mem_singleton.mp hb]at e
  exact List.any_eq_true.mpr ⟨a,ha,decide_eq_true e⟩
noncomputable def addsF(kd:Str)(z:Key):List FK→List Str→List FK
 | ks,[]=>ks
 | ks,c::r=>addsF kd z (addF ks (c,kd,z)) r
theorem addsF_mem{kd:Str}{z:Key}{k:FK}:∀{cs:List Str} {ks:List FK},k∈addsF kd z ks cs↔k∈ks∨k∈cs.map fun y=>(y,kd,z)
 | [],ks=>by simp[addsF]
 | c::r,ks=>by
  rw[addsF,addsF_mem,addF_mem,List.map_cons,List.mem_cons]
  constructor
  ·rintro ((h | h) | h)
   ·exact .inl h
   ·exact .inr (.inl h)
   ·exact .inr (.inr h)
  ·rintro (h | h | h)
   ·exact .inl (.inl h)
   ·exact .inl (.inr h)
   ·exact .inr h
theorem NQ{kd:Str}{z:Key}:∀{cs:List Str} {ks:List FK},ks.Nodup→(addsF kd z ks cs).Nodup
 | [],_,h=>h
 | c::r,ks,h=>by rw[addsF];exact NQ (dZ h)
theorem lM(k:FK):fkD (fD k)=some k:=by
 obtain⟨a,b,c | c⟩:=k<;>rfl
section
variable{W:Nat}{Γ:String→Option Fn}{n:Nat}
noncomputable def frB:Sms→Sms
 | .cons (.fr _ _ b) _=>b
 | s=>s
theorem ZM{C:String→List D→Mem→Option (D×Mem)}{nm:List Str}(hU:(univ nm).length<10000){kd:Str}{z:Key}{ys:List D}{na:D}{i:Nat}:∀(cs:List Str) (ks:List FK) (m:Mem) (x3:Option D),m[i]?=some (.fd ks)→ks.Nodup→(∀k∈ks,k∈univ nm)→(∀y∈cs,(y,kd,z)∈univ nm)→∃y3,forL ⟨ys,none⟩ (.nm 3) (fun σ m=>exs C W (frB b_add_flows) σ m) (cs.map .str) [some na,some (.tup [.str kd,keyV z]),some (.mref i),x3] m=some (.nx [some na,some (.tup [.str kd,keyV z]),some (.mref i),y3],m.set i (.fd (addsF kd z ks cs)))
 | [],ks,m,x3,hm,_,_,_=>by
  have:m.set i (.fd ks)=m:=List.ext_getElem? fun j=>by
   by_cases hj:i=j
   ·subst hj
    rw[List.getElem?_set_self (List.getElem?_eq_some_iff.mp hm).1,hm]
   ·rw[List.getElem?_set_ne hj]
  exact⟨x3,by simp[forL,Walk.ok,addsF,this]⟩
 | c::r,ks,m,x3,hm,hnd,hs,hc=>by
  have hi:=(List.getElem?_eq_some_iff.mp hm).1
  have hl:ks.length<10000:=Nat.lt_of_le_of_lt (hnd.length_le_of_subset hs) hU
  obtain⟨y3,e1⟩:=ZM (C:=C) (ys:=ys) (na:=na) hU r (addF ks (c,kd,z)) (m.set i (.fd (addF ks (c,kd,z)))) (some (.str c)) (List.getElem?_set_self hi) (dZ hnd) (fun k hk=>(addF_mem.mp hk).elim (hs k) fun e=>e▸hc c List.mem_cons_self) (fun y hy=>hc y (List.mem_cons_of_mem _ hy))
  refine⟨y3,?_⟩
  rw[List.set_set]at e1
  have hk:fkD (.tup [.str c,.tup [.str kd,keyV z]])=some (c,kd,z):=lM (c,kd,z)
  have hb:bindT (.nm 3) (.str c) [some na,some (.tup [.str kd,keyV z]),some (.mref i),x3]=some [some na,some (.tup [.str kd,keyV z]),some (.mref i),some (.str c)]:=rfl
  have e0:exs C W (frB b_add_flows) [some na,some (.tup [.str kd,keyV z]),some (.mref i),some (.str c)] m=some (.nx [some na,some (.tup [.str kd,keyV z]),some (.mref i),some (.str c)],m.set i (.fd (addF ks (c,kd,z)))):=by
   exact nU rfl rfl hm hk hl rfl
  rw[List.map_cons,forL,if_pos (show Walk.ok ⟨ys,none⟩ m=true from rfl),hb,Option.bind_some,e0,Option.bind_some]
  exact e1
theorem mW(H:HasW Γ){nm:List Str}(hU:(univ nm).length<10000){kd:Str}{z:Key}{cs:List Str}{ks:List FK}{m:Mem}{i:Nat}(hm:m[i]?=some (.fd ks))(hnd:ks.Nodup)(hs:∀k∈ks,k∈univ nm)(hc:∀y∈cs,(y,kd,z)∈univ nm):callI W Γ (n+1) "add_flows" [.tup (cs.map .str),.tup [.str kd,keyV z],.mref i] m=some (.non,m.set i (.fd (addsF kd z ks cs))):=by
 obtain⟨y3,e⟩:=ZM (W:=W) (C:=callI W Γ n) (ys:=cs.map .str) (na:=.tup (cs.map .str)) hU cs ks m none hm hnd hs hc
 rw[KR H.add rfl]
 have E:exs (callI W Γ n) W F_add_flows.body ([D.tup (cs.map .str),.tup [.str kd,keyV z],.mref i].map some++List.replicate (F_add_flows.ns-F_add_flows.ps) none) m=some (.nx [some (.tup (cs.map .str)),some (.tup [.str kd,keyV z]),some (.mref i),y3],m.set i (.fd (addsF kd z ks cs))):=NT (b:=frB b_add_flows) (w:=⟨cs.map .str,none⟩) rfl e rfl
 rw[E]
 show some (D.non,List.take m.length (m.set i _))=_
 rw[List.take_of_length_le (by simp)]
end
end T
end
section
namespace T
open PySem L2 WL WW
section
variable{W:Nat}{Γ:String→Option Fn}{n:Nat}
theorem KN(H:HasW Γ){nm:List Str}(hnm:nm.length<64){t:Tm Str}(ht:t.Ok (·∈nm))(hd:t.dep≤8)(hW:1000<W){m:Mem}:∃ts:List Str,MemEq ts t.names∧ts.length<64∧callI W Γ (n+3) "names_in_term" [dT t] m=some (.tup (ts.map .str),m):=by
 have hw:=ZW t
 have h2:2 ^ (t.dep+1)≤2 ^ 9:=Nat.pow_le_pow_right (by lia) (by lia)
 have h3:(2:Nat) ^ 9=512:=by decide
 obtain⟨ks,q1,q2,q3⟩:=bF (W:=W) (n:=n) (m0:=m) H.parts H.names hnm (ps:=[.tm t]) (by simp only[ptsW,Pt.w];lia) (by simp only[ptsW,Pt.w];lia) (fun p hp x hx=>by
  rw[List.mem_singleton.mp hp]at hx
  exact ht.names x hx)
 have hk:∀x,x∈ks↔x∈t.names:=fun x=>by rw[q2];simp[Pt.N]
 refine⟨sortStr ks,fun x=>?_,?_,?_⟩
 ·rw[←hk];exact(List.mergeSort_perm ks strLe).mem_iff
 ·rw[show (sortStr ks).length=ks.length from (List.mergeSort_perm ks strLe).length_eq]
  exact Nat.lt_of_le_of_lt (q1.length_le_of_subset fun x hx=>ht.names x ((hk x).mp hx)) hnm
 ·have hcl:D.clean.cleans ((sortStr ks).map .str)=true:=by
   generalize sortStr ks=l
   induction l with
   | nil=>rfl
   | cons a r ih=>simp[ih]
  refine CW H.term rfl hcl ?_
  simp only[List.map_cons,List.map_nil,dP]at q3
  exact CP (BX q3 rfl)
def Gat(W:Nat)(Γ:String→Option Fn)(nm:List Str)(n:Nat)(b:Bl Str):Prop:=∀(cs:List Str) (ks:List FK) (m:Mem) (i:Nat),m[i]?=some (.fd ks)→ks.Nodup→(∀k∈ks,k∈univ nm)→(∀y∈cs,y∈nm)→cs.length+64*b.dep≤5000→∃ks',ks'.Nodup∧(∀k,k∈ks'↔k∈ks∨k∈flB cs b)∧callI W Γ n "gather_flows" [.tup (dB b),.tup (cs.map .str),.mref i] m=some (.non,m.set i (.fd ks'))
def GSub(W:Nat)(Γ:String→Option Fn)(nm:List Str)(n:Nat):Dd Str→Prop
 | .put _ _=>True
 | .sho _ _=>True
 | .ite _ b c=>Gat W Γ nm n b∧Gat W Γ nm n c
 | .whl _ b=>Gat W Γ nm n b
noncomputable def bodyG:Sms:=frB b_gather_flows
noncomputable def sG(blk cs:D)(i:Nat)(x3 x4 x5:Option D):DS:=[some blk,some cs,some (.mref i),x3,x4,x5]
theorem wB(H:HasW Γ){nm:List Str}(hnm:nm.length<64)(hU:(univ nm).length<10000)(hW:1000<W){d:Dd Str}(ho:d.Ok (·∈nm))(hd:d.dep≤8)(hsub:GSub W Γ nm (n+3) d){blk:D}{cs:List Str}{ks:List FK}{m:Mem}{i:Nat}(hm:m[i]?=some (.fd ks))(hnd:ks.Nodup)(hs:∀k∈ks,k∈univ nm)(hc:∀y∈cs,y∈nm)(hl:cs.length+64*d.dep≤5000)(x4 x5:Option D):∃ks' y4 y5,ks'.Nodup∧(∀k,k∈ks'↔k∈ks∨k∈flD cs d)∧exs (callI W Γ (n+3)) W bodyG (sG blk (.tup (cs.map .str)) i (some (dD d)) x4 x5) m=some (.nx (sG blk (.tup (cs.map .str)) i (some (dD d)) y4 y5),m.set i (.fd ks')):=by
 have hi:=(List.getElem?_eq_some_iff.mp hm).1
 cases d with
 | put x e=>
  simp only[Dd.dep]at hd hl
  obtain⟨ts,t1,t2,t3⟩:=KN (W:=W) (n:=n) (m:=m) H hnm ho.2 hd hW
  have hcc:∀y∈cs++ts,y∈nm:=fun y hy=>(List.mem_append.mp hy).elim (hc y) fun h=>ho.2.names y ((t1 y).mp h)
  have ea:=mW (W:=W) (n:=n+2) H hU (kd:=sName) (z:=.inr x) (cs:=cs++ts) hm hnd hs (fun y hy=>RZ (hcc y hy) ho.1)
  refine⟨addsF sName (.inr x) ks (cs++ts),some (.str (Str.ofString "put")),x5,NQ hnd,fun k=>?_,?_⟩
  ·rw[addsF_mem]
   simp only[flD]
   rw[KH ((show MemEq cs cs from fun _=>Iff.rfl).app t1)]
  ·have hb:(cs.map D.str).length+(ts.map D.str).length≤10000:=by simp;lia
   rw[List.map_append]at ea
   simp only[sName,keyV]at ea
   exact CK rfl (K9 (G7 (p:=Str.ofString "put" = Str.ofString "if") rfl (sne (by decide))) (K9 (G7 (p:=Str.ofString "put" = Str.ofString "while") rfl (sne (by decide))) (GQ (GP (p:=Str.ofString "put" = Str.ofString "put") rfl rfl) (G6 (BX ea (BW (DN rfl (BX t3 rfl) (J1 hb)) rfl)) rfl) rfl) rfl) rfl)
 | sho j e=>
  simp only[Dd.dep]at hd hl
  obtain⟨ts,t1,t2,t3⟩:=KN (W:=W) (n:=n) (m:=m) H hnm ho.2 hd hW
  have hcc:∀y∈cs++ts,y∈nm:=fun y hy=>(List.mem_append.mp hy).elim (hc y) fun h=>ho.2.names y ((t1 y).mp h)
  have ea:=mW (W:=W) (n:=n+2) H hU (kd:=sPage) (z:=.inl j) (cs:=cs++ts) hm hnd hs (fun y hy=>JF (hcc y hy) ho.1)
  refine⟨addsF sPage (.inl j) ks (cs++ts),some (.str (Str.ofString "show")),x5,NQ hnd,fun k=>?_,?_⟩
  ·rw[addsF_mem]
   simp only[flD]
   rw[KH ((show MemEq cs cs from fun _=>Iff.rfl).app t1)]
  ·have hb:(cs.map D.str).length+(ts.map D.str).length≤10000:=by simp;lia
   rw[List.map_append]at ea
   simp only[sPage,keyV]at ea
   exact CK rfl (K9 (G7 (p:=Str.ofString "show" = Str.ofString "if") rfl (sne (by decide))) (K9 (G7 (p:=Str.ofString "show" = Str.ofString "while") rfl (sne (by decide))) (K9 (G7 (p:=Str.ofString "show" = Str.ofString "put") rfl (sne (by decide))) (G6 (BX ea (BW (DN rfl (BX t3 rfl) (J1 hb)) rfl)) rfl) rfl) rfl) rfl)
 | whl e b=>
  simp only[Dd.dep]at hd hl
  obtain⟨ts,t1,t2,t3⟩:=KN (W:=W) (n:=n) (m:=m) H hnm ho.1 (by lia) hW
  have hcc:∀y∈cs++ts,y∈nm:=fun y hy=>(List.mem_append.mp hy).elim (hc y) fun h=>ho.1.names y ((t1 y).mp h)
  have ea:=mW (W:=W) (n:=n+2) H hU (kd:=sPage) (z:=.inl 0) (cs:=cs++ts) hm hnd hs (fun y hy=>JF (hcc y hy) (by lia))
  obtain⟨ks2,q1,q2,q3⟩:=hsub cs (addsF sPage (.inl 0) ks (cs++ts)) (m.set i (.fd (addsF sPage (.inl 0) ks (cs++ts)))) i (List.getElem?_set_self hi) (NQ hnd) (fun k hk=>(addsF_mem.mp hk).elim (hs k) fun h=>by
    obtain⟨y,hy,rfl⟩:=List.mem_map.mp h
    exact JF (hcc y hy) (by lia)) hc (by lia)
  rw[List.set_set]at q3
  refine⟨ks2,some (.str (Str.ofString "while")),x5,q1,fun k=>?_,?_⟩
  ·rw[q2,addsF_mem]
   simp only[flD,List.mem_append]
   rw[KH ((show MemEq cs cs from fun _=>Iff.rfl).app t1)]
   exact or_assoc
  ·have hb:(cs.map D.str).length+(ts.map D.str).length≤10000:=by simp;lia
   rw[List.map_append]at ea
   simp only[sPage,keyV]at ea q3
   exact CK rfl (K9 (G7 (p:=Str.ofString "while" = Str.ofString "if") rfl (sne (by decide))) (GQ (GP (p:=Str.ofString "while" = Str.ofString "while") rfl rfl) (G6 (BX ea (BW (DN rfl (BX t3 rfl) (J1 hb)) rfl)) (G6 (BX q3 rfl) rfl)) rfl) rfl)
 | ite e b c=>
  simp only[Dd.dep]at hd hl
  obtain⟨ts,t1,t2,t3⟩:=KN (W:=W) (n:=n) (m:=m) H hnm ho.1 (by lia) hW
  have hcc:∀y∈cs++ts,y∈nm:=fun y hy=>(List.mem_append.mp hy).elim (hc y) fun h=>ho.1.names y ((t1 y).mp h)
  have heq:MemEq (cs++ts) (cs++e.names):=(show MemEq cs cs from fun _=>Iff.rfl).app t1
  obtain⟨k1,a1,a2,a3⟩:=hsub.1 (cs++ts) ks m i hm hnd hs hcc (by rw[List.length_append];lia)
  obtain⟨k2,b1,b2,b3⟩:=hsub.2 (cs++ts) k1 (m.set i (.fd k1)) i (List.getElem?_set_self hi) a1 (fun k hk=>((a2 k).mp hk).elim (hs k) fun h=>HX ho.2.1 hcc k h) hcc (by rw[List.length_append];lia)
  rw[List.set_set]at b3
  refine⟨k2,some (.str (Str.ofString "if")),some (.tup (cs.map .str++ts.map .str)),b1,fun k=>?_,?_⟩
  ·rw[b2,a2,RD heq k,RD heq k]
   simp only[flD,List.mem_append]
   exact or_assoc
  ·have hb:(cs.map D.str).length+(ts.map D.str).length≤10000:=by simp;lia
   rw[List.map_append]at a3 b3
   exact CK rfl (GQ (GP (p:=Str.ofString "if" = Str.ofString "if") rfl rfl) (CK (DN rfl (BX t3 rfl) (J1 hb)) (G6 (BX a3 rfl) (G6 (BX b3 rfl) rfl))) rfl)
noncomputable def flDs(cs:List Str):List (Dd Str)→List FK
 | []=>[]
 | d::r=>flD cs d++flDs cs r
theorem VL(cs:List Str):∀b:Bl Str,flDs cs b.list=flB cs b
 | .nil=>by simp only[flB];rfl
 | .cons d b=>by simp only[Bl.list,flDs,flB,VL cs b]
theorem lE(H:HasW Γ){nm:List Str}(hnm:nm.length<64)(hU:(univ nm).length<10000)(hW:1000<W){blk:D}{cs:List Str}(hc:∀y∈cs,y∈nm){i:Nat}{ys:List D}{D0:Nat}(hD:D0≤8)(hl:cs.length+64*D0≤5000):∀(ds:List (Dd Str)) (ks:List FK) (m:Mem) (x3 x4 x5:Option D),(∀d∈ds,d.Ok (·∈nm)∧d.dep≤D0∧GSub W Γ nm (n+3) d)→m[i]?=some (.fd ks)→ks.Nodup→(∀k∈ks,k∈univ nm)→∃ks' y3 y4 y5,ks'.Nodup∧(∀k,k∈ks'↔k∈ks∨k∈flDs cs ds)∧forL ⟨ys,none⟩ (.nm 3) (fun σ m=>exs (callI W Γ (n+3)) W bodyG σ m) (ds.map dD) (sG blk (.tup (cs.map .str)) i x3 x4 x5) m=some (.nx (sG blk (.tup (cs.map .str)) i y3 y4 y5),m.set i (.fd ks'))
 | [],ks,m,x3,x4,x5,_,hm,hnd,_=>by
  have:m.set i (.fd ks)=m:=List.ext_getElem? fun j=>by
   by_cases hj:i=j
   ·subst hj
    rw[List.getElem?_set_self (List.getElem?_eq_some_iff.mp hm).1,hm]
   ·rw[List.getElem?_set_ne hj]
  exact⟨ks,x3,x4,x5,hnd,fun k=>by simp[flDs],by simp[forL,Walk.ok,this]⟩
 | d::r,ks,m,x3,x4,x5,hd,hm,hnd,hs=>by
  have hi:=(List.getElem?_eq_some_iff.mp hm).1
  obtain⟨d1,d2,d3⟩:=hd d List.mem_cons_self
  obtain⟨k1,z4,z5,a1,a2,a3⟩:=wB (W:=W) (n:=n) H hnm hU hW d1 (by lia) d3 (blk:=blk) (cs:=cs) hm hnd hs hc (by lia) x4 x5
  obtain⟨k2,y3,y4,y5,b1,b2,b3⟩:=lE H hnm hU hW (blk:=blk) hc (ys:=ys) hD hl r k1 (m.set i (.fd k1)) (some (dD d)) z4 z5 (fun e he=>hd e (List.mem_cons_of_mem _ he)) (List.getElem?_set_self hi) a1 (fun k hk=>((a2 k).mp hk).elim (hs k) fun h=>cU d1 hc k h)
  rw[List.set_set]at b3
  refine⟨k2,y3,y4,y5,b1,fun k=>by rw[b2,a2];simp only[flDs,List.mem_append];exact or_assoc,?_⟩
  have hb:bindT (.nm 3) (dD d) (sG blk (.tup (cs.map .str)) i x3 x4 x5)=some (sG blk (.tup (cs.map .str)) i (some (dD d)) x4 x5):=rfl
  rw[List.map_cons,forL,if_pos (show Walk.ok ⟨ys,none⟩ m=true from rfl),hb,Option.bind_some,a3,Option.bind_some]
  exact b3
theorem mV(H:HasW Γ){nm:List Str}(hnm:nm.length<64)(hU:(univ nm).length<10000)(hW:1000<W):∀(K n:Nat) (b:Bl Str),K+3≤n→K≤8→b.Ok (·∈nm)→b.dep≤K→Gat W Γ nm (n+1) b:=by
 have key:∀(K n:Nat),K+3≤n→K≤8→(∀b:Bl Str,b.Ok (·∈nm)→b.dep<K→Gat W Γ nm n b)→∀b:Bl Str,b.Ok (·∈nm)→b.dep≤K→Gat W Γ nm (n+1) b:=by
  intro K n hn h8 ih b ho hd cs ks m i hm hnd hs hc hl
  obtain⟨n,rfl⟩:∃j,n=j+3:=⟨n-3,by lia⟩
  obtain⟨ks',y3,y4,y5,a1,a2,a3⟩:=lE (W:=W) (n:=n) H hnm hU hW (blk:=.tup (dB b)) (cs:=cs) hc (i:=i) (ys:=dB b) (D0:=b.dep) (by lia) hl b.list ks m none none none (fun d hd'=>by
   have hdo:=ho.mem d hd'
   have hdd:=Bl.dep_mem hd'
   refine⟨hdo,hdd,?_⟩
   cases d with
   | put x e=>exact trivial
   | sho j e=>exact trivial
   | ite e c c'=>
    simp only[Dd.dep]at hdd
    exact⟨ih c hdo.2.1 (by lia),ih c' hdo.2.2 (by lia)⟩
   | whl e c=>
    simp only[Dd.dep]at hdd
    exact ih c hdo.2 (by lia)) hm hnd hs
  rw[VL,←J6]at *
  refine⟨ks',a1,a2,?_⟩
  rw[KR H.gather rfl]
  have E:exs (callI W Γ (n+3)) W F_gather_flows.body ([D.tup (dB b),.tup (cs.map .str),.mref i].map some++List.replicate (F_gather_flows.ns-F_gather_flows.ps) none) m=some (.nx (sG (.tup (dB b)) (.tup (cs.map .str)) i y3 y4 y5),m.set i (.fd ks')):=NT (b:=bodyG) (w:=⟨dB b,none⟩) rfl a3 rfl
  rw[E]
  show some (D.non,List.take m.length (m.set i _))=_
  rw[List.take_of_length_le (by simp)]
 intro K
 induction K with
 | zero=>exact fun n b hn h8=>key 0 n hn h8 (fun b _ h=>absurd h (Nat.not_lt_zero _)) b
 | succ K ih=>
  intro n b hn h8
  obtain⟨n',rfl⟩:∃n',n=n'+1:=⟨n-1,by lia⟩
  exact key (K+1) (n'+1) hn h8 (fun c ho hd=>ih n' c (by lia) (by lia) ho (by lia)) b
end
end T
end
section
namespace T
open PySem L2 WL WW
section
variable{W:Nat}{Γ:String→Option Fn}{n:Nat}{m:Mem}
theorem mL(k:FK):(fD k).clean=true:=by
 obtain⟨a,b,c | c⟩:=k<;>rfl
theorem P0(l:List FK):D.clean.cleans (l.map fD)=true:=by
 induction l with
 | nil=>rfl
 | cons a r ih=>simp[mL,ih]
theorem tE(H:HasW Γ){nm:List Str}(h4:nm.length=4)(hW:1000<W){p:Bl Str}(ho:p.Ok (·∈nm))(hd:p.dep≤8):∃ks:List FK,ks.Nodup∧(∀k,k∈ks↔k∈flB [] p)∧ks.length≤28∧callI W Γ (n+13) "flows" [.tup (dB p)] m=some (.tup ((sortF ks).map fD),m):=by
 have hU:=QM h4
 obtain⟨ks,a1,a2,a3⟩:=mV (W:=W) H (nm:=nm) (by lia) (by lia) hW 8 (n+11) p (by lia) (by lia) ho hd [] [] (m++[.fd []]) m.length (by simp) List.nodup_nil (by simp) (by simp) (by simp;lia)
 have hk:∀k,k∈ks↔k∈flB [] p:=fun k=>by rw[a2];simp
 have hsub:∀k∈ks,k∈univ nm:=fun k h=>HX ho (by simp) k ((hk k).mp h)
 have hl:ks.length≤28:=by rw[←hU];exact a1.length_le_of_subset hsub
 have hok:ks.all okFK=true:=List.all_eq_true.mpr fun k h=>Q9 k (hsub k h)
 refine⟨ks,a1,hk,hl,?_⟩
 have hs:b1D (.sortedF false) (.mref m.length) (m++[.fd ks])=some (.lst ((sortF ks).map fD),m++[.fd ks]):=by
  show (match (m++[MO.fd ks])[m.length]? with
   | some (.fd qs)=>if qs.length<64∧qs.all okFK=true then some (mkL false ((sortF qs).map fD) (m++[MO.fd ks])) else none
   | _=>none)=_
  rw[show (m++[MO.fd ks])[m.length]?=some (.fd ks) by simp]
  show (if ks.length<64∧ks.all okFK=true then some (mkL false ((sortF ks).map fD) (m++[MO.fd ks])) else none)=_
  rw[if_pos ⟨by lia,hok⟩]
  rfl
 have hset:(m++[MO.fd []]).set m.length (.fd ks)=m++[.fd ks]:=by simp
 rw[hset]at a3
 have a3':callI W Γ (n+12) "gather_flows" [.tup (dB p),.tup [],.mref m.length] (m++[.fd []])=some (.non,m++[.fd ks]):=a3
 have hcl:=P0 (sortF ks)
 exact KY (q:=[.fd ks]) (n:=n+12) H.flows rfl hcl (CK (d:=.mref m.length) (m1:=m++[.fd []]) rfl (G6 (BX a3' rfl) (CP (G3 (G3 rfl hs) rfl))))
variable{nm hk:List Str}{g:Str→Int}{l:Int}
theorem tB(H:HasF Γ)(hS:Stand nm hk g){k:FK}(hok:okFK k=true):callI W Γ (n+1) "level_of" [.tup [.str k.2.1,keyV k.2.2],lvD hk g] m=some (.int (tgt g k),m):=by
 obtain⟨a,kd,x | x⟩:=k
 ·have:kd=Str.ofString "page":=of_decide_eq_true hok
  subst this
  refine CW H.level rfl rfl ?_
  exact FP (GP (p:=Str.ofString "page" = Str.ofString "page") rfl rfl) (CP rfl)
 ·have hne:¬kd=Str.ofString "page":=by simpa[okFK] using hok
  refine CW H.level rfl rfl ?_
  have hg:=OD (C:=callI W Γ n) (m:=m) hS (d:=.var 1) (k:=.ix (.var 0) (.con (.int 1))) (z:=.con (.int 0)) (σ:=[some (.tup [.str kd,.str x]),some (lvD hk g)]) (x:=x) rfl rfl rfl
  exact DQ (G7 rfl hne) (CP hg)
theorem mR(H:HasF Γ)(h4:nm.length=4)(hW:1000<W)(hS:Stand nm hk g){p:Bl Str}(ho:p.Ok (·∈nm))(hd:p.dep≤8):∃v:Bool,(v=true→∀k∈flB [] p,g k.1≤tgt g k)∧(v=false→∃k∈flB [] p,¬g k.1≤tgt g k)∧callI W Γ (n+14) "lets" [.tup (dB p),.tup (pairsD hk g)] m=some (.bl v,m):=by
 obtain⟨ks,a1,a2,a3,a4⟩:=tE (W:=W) (n:=n) (m:=m) H.toHasW h4 hW ho hd
 have hsm:∀k,k∈sortF ks↔k∈flB [] p:=fun k=>by rw[←a2];exact(List.mergeSort_perm ks _).mem_iff
 have hok:∀k∈sortF ks,okFK k=true:=fun k hk=>Q9 k (HX ho (by simp) k ((hsm k).mp hk))
 refine⟨(sortF ks).all fun k=>decide (g k.1≤tgt g k),fun h k hk=>of_decide_eq_true (List.all_eq_true.mp h k ((hsm k).mpr hk)),fun h=>?_,?_⟩
 ·have:=List.all_eq_false.mp h
  obtain⟨k,hk,hn⟩:=this
  exact⟨k,(hsm k).mp hk,by simpa using hn⟩
 have hkl:hk.length≤1000:=Nat.le_trans (hS.nd.length_le_of_subset fun x hx=>hS.sub x hx) (by lia)
 have hdct:=W3 (f:=g) hS.nd hkl false m
 refine CW (n:=n+13) H.lets rfl rfl ?_
 have hll:(sortF ks).length≤1000:=by rw[show (sortF ks).length=ks.length from (List.mergeSort_perm ks _).length_eq];lia
 have comp:ev (callI W Γ (n+13)) (.comp false 2 (.tp [(.nm 3),(.nm 4)]) (.seq (.call "flows" (.cons (.var 0) .nil))) .tt (.cmp .le (.get (.var 2) (.var 3) (.con (.int 0))) (.call "level_of" (.cons (.var 4) (.cons (.var 2) .nil))))) [some (.tup (dB p)),some (.tup (pairsD hk g)),some (lvD hk g)] m=some (.lst ((sortF ks).map fun k=>.bl (decide (g k.1≤tgt g k))),m):=by
  rw[J5 (xs:=sortF ks) (dd:=fD) (h:=fun k=>some (.bl (decide (g k.1≤tgt g k)))) rfl (sH (BX a4 rfl)) hll]
  ·rw[List.filterMap_eq_map']
  ·intro k hk'
   refine⟨[some (.tup (dB p)),some (.tup (pairsD hk g)),some (lvD hk g),some (.str k.1),some (.tup [.str k.2.1,keyV k.2.2])],true,rfl,rfl,?_⟩
   rw[if_pos rfl]
   refine⟨rfl,?_⟩
   have hg:=OD (C:=callI W Γ (n+13)) (m:=m) hS (d:=.var 2) (k:=.var 3) (z:=.con (.int 0)) (σ:=[some (.tup (dB p)),some (.tup (pairsD hk g)),some (lvD hk g),some (.str k.1),some (.tup [.str k.2.1,keyV k.2.2])]) (x:=k.1) rfl rfl rfl
   have hlv:=tB (W:=W) (n:=n+12) (m:=m) H hS (hok k hk')
   exact G9 hg (BX hlv rfl) rfl
 have ha:=dX (fun k:FK=>decide (g k.1≤tgt g k)) (sortF ks) m
 have hdct':b1D (.dict false) (.tup (pairsD hk g)) m=some (lvD hk g,m):=hdct
 exact CK (G3 rfl hdct') (CP (G3 comp ha))
theorem wN(Hs:Γ "seen" = some F_seen)(hS:Stand nm hk g)(h4:nm.length=4){ks:List Str}{f:Str→Int}(hl:ks.length≤1000):callI W Γ (n+1) "seen" [.tup (pairsD ks f),.tup (pairsD hk g),.int l] m=some (.tup (pairsD (ks.filter fun x=>decide (g x≤l)) f),m):=by
 have hcl:=JQ (ks.filter fun x=>decide (g x≤l)) f
 refine CW Hs rfl (by exact hcl) ?_
 have hkl:hk.length≤1000:=Nat.le_trans (hS.nd.length_le_of_subset fun x hx=>hS.sub x hx) (by lia)
 have hdct:b1D (.dict false) (.tup (pairsD hk g)) m=some (lvD hk g,m):=W3 (f:=g) hS.nd hkl false m
 have comp:ev (callI W Γ n) (.comp false 1 (.nm 4) (.seq (.var 0)) (.val (.cmp .le (.get (.var 3) (.ix (.var 4) (.con (.int 0))) (.con (.int 0))) (.var 2))) (.var 4)) [some (.tup (pairsD ks f)),some (.tup (pairsD hk g)),some (.int l),some (lvD hk g)] m=some (.lst (pairsD (ks.filter fun x=>decide (g x≤l)) f),m):=by
  rw[J5 (xs:=ks) (dd:=fun x=>.tup [.str x,.int (f x)]) (h:=fun x=>if g x≤l then some (.tup [.str x,.int (f x)]) else none) rfl rfl hl]
  ·congr 2
   unfold pairsD
   rw[←List.filterMap_eq_map',List.filterMap_filter]
   simp only[decide_eq_true_eq]
  ·intro x _
   have hg:=OD (C:=callI W Γ n) (m:=m) hS (d:=.var 3) (k:=.ix (.var 4) (.con (.int 0))) (z:=.con (.int 0)) (σ:=[some (.tup (pairsD ks f)),some (.tup (pairsD hk g)),some (.int l),some (lvD hk g),some (.tup [.str x,.int (f x)])]) (x:=x) rfl rfl rfl
   refine⟨[some (.tup (pairsD ks f)),some (.tup (pairsD hk g)),some (.int l),some (lvD hk g),some (.tup [.str x,.int (f x)])],decide (g x≤l),rfl,GJ (G9 hg rfl rfl) rfl,?_⟩
   by_cases h:g x≤l
   ·rw[decide_eq_true h,if_pos rfl,if_pos h];exact⟨rfl,rfl⟩
   ·rw[decide_eq_false h,if_neg (by decide),if_neg h]
 exact CK (G3 rfl hdct) (CP (G3 comp rfl))
end
end T
end
section
namespace T
open PySem L2 WL WW
theorem lH:∀l:List FK,fksOf (l.map fD)=some l
 | []=>rfl
 | k::r=>by
  show ((fkD (fD k)).bind fun k=>(fksOf (r.map fD)).map fun ks=>k::ks)=_
  rw[lM,lH r];rfl
theorem ug_any{x:FK}{r:List FK}:r.any (fun y=>decide (y=x))=true↔x∈r:=by
 rw[List.any_eq_true]
 exact⟨fun⟨y,hy,e⟩=>of_decide_eq_true e▸hy,fun h=>⟨x,h,decide_eq_true rfl⟩⟩
theorem ufm{x:FK}:∀{l:List FK},x∈uniqF l↔x∈l
 | []=>by simp[uniqF]
 | y::r=>by
  rw[uniqF]
  by_cases h:y∈r
  ·rw[if_pos (ug_any.mpr h),ufm,List.mem_cons]
   exact⟨.inr,fun q=>q.elim (fun e=>e▸h) id⟩
  ·rw[if_neg fun q=>h (ug_any.mp q),List.mem_cons,List.mem_cons,ufm]
theorem ufn:∀l:List FK,(uniqF l).Nodup
 | []=>List.nodup_nil
 | y::r=>by
  rw[uniqF]
  by_cases h:y∈r
  ·rw[if_pos (ug_any.mpr h)];exact ufn r
  ·rw[if_neg fun q=>h (ug_any.mp q)];exact List.nodup_cons.mpr ⟨fun q=>h (ufm.mp q),ufn r⟩
theorem eY{nm:List Str}(h4:nm.length=4){l:List FK}(hs:∀k∈l,k∈univ nm){d:D}{m:Mem}(hd:seqOf d m=some (l.map fD)):b1D (.sortedSF false) d m=some (.lst ((sortF (uniqF l)).map fD),m):=by
 have hU:=QM h4
 have hl:(uniqF l).length≤28:=by rw[←hU];exact(ufn l).length_le_of_subset fun k hk=>hs k (ufm.mp hk)
 have hok:l.all okFK=true:=List.all_eq_true.mpr fun k h=>Q9 k (hs k h)
 show ((seqOf d m).bind fun xs=>(fksOf xs).bind fun ks=>if (uniqF ks).length<64∧ks.all okFK=true then some (mkL false ((sortF (uniqF ks)).map fD) m) else none)=_
 rw[hd,Option.bind_some,lH,Option.bind_some,if_pos ⟨by lia,hok⟩]
 rfl
theorem lQ{C:String→List D→Mem→Option (D×Mem)}{m:Mem}{a0 a1 a2 a3 a4:Option D}{s tt:Ex}{l:List Str}{kd:Str}{z:Key}(hs:ev C s [a0,a1,a2,a3,a4] m=some (.lst (l.map .str),m))(hl:l.length≤1000)(ht:∀y:Str,ev C tt [a0,a1,a2,a3,a4,some (.str y)] m=some (keyV z,m)):
  ev C (.comp false 1 (.nm 5) (.seq s) .tt (.tup (.cons (.var 5) (.cons (.tup (.cons (.con (.str kd)) (.cons tt .nil))) .nil)))) [a0,a1,a2,a3,a4] m=some (.lst ((l.map fun y=>(y,kd,z)).map fD),m):=by
 rw[J5 (xs:=l) (dd:=.str) (h:=fun y=>some (fD (y,kd,z))) rfl (W0 hs) hl]
 ·rw[List.filterMap_eq_map',List.map_map];rfl
 ·intro y _
  refine⟨[a0,a1,a2,a3,a4,some (.str y)],true,rfl,rfl,?_⟩
  rw[if_pos rfl]
  exact⟨rfl,FZ (BW rfl (BW (FZ (BW rfl (BW (ht y) rfl)) (by simp)) rfl)) (by simp)⟩
noncomputable def sF(b:Nat)(blk:D)(cs:List Str)(x3 x4:Option D):DS:=[some blk,some (.lst (cs.map .str)),some (.mref b),x3,x4]
noncomputable def mF(m0:Mem)(acc:List FK):Mem:=m0++[MO.lst (acc.map fD)]
noncomputable def bodyF:Sms:=frS (restS 1 b_qflows)
theorem mF0{m0:Mem}{acc:List FK}:(mF m0 acc)[m0.length]?=some (.lst (acc.map fD)):=by simp[mF]
theorem mFs{m0:Mem}{acc acc':List FK}:(mF m0 acc).set m0.length (.lst (acc.map fD++acc'.map fD))=mF m0 (acc++acc'):=by simp[mF]
section
variable{W:Nat}{Γ:String→Option Fn}{n:Nat}
def LFAt(W:Nat)(Γ:String→Option Fn)(nm:List Str)(n:Nat)(b:Bl Str):Prop:=∀(cs:List Str) (m:Mem),(∀y∈cs,y∈nm)→cs.length+16*b.dep≤100→∃ks:List FK,ks.Nodup∧(∀k,k∈ks↔k∈flB cs b)∧ks.length≤28∧callI W Γ n "_law_flows" [.tup (dB b),.lst (cs.map .str)] m=some (.lst ((sortF ks).map fD),m)
def LFSub(W:Nat)(Γ:String→Option Fn)(nm:List Str)(n:Nat):Dd Str→Prop
 | .put _ e=>e.dep<n∧e.dep≤4
 | .sho _ e=>e.dep<n∧e.dep≤4
 | .ite e b c=>(e.dep<n∧e.dep≤4)∧LFAt W Γ nm n b∧LFAt W Γ nm n c
 | .whl e b=>(e.dep<n∧e.dep≤4)∧LFAt W Γ nm n b
theorem jU(H:Γ "_law_names_in" = some F_qnames_in){t:Tm Str}(h:t.dep≤4):t.names.length≤16:=by
 have h1:=(HW (W:=0) (n:=t.dep+1) (m:=[]) H (t:=t) (by lia) (by lia)).1
 have h2:2 ^ t.dep≤2 ^ 4:=Nat.pow_le_pow_right (by lia) h
 lia
theorem QC(ks:List FK):(sortF ks).length=ks.length∧∀k,k∈sortF ks↔k∈ks:=⟨(List.mergeSort_perm ks _).length_eq,fun k=>(List.mergeSort_perm ks _).mem_iff⟩
theorem rC(H:Γ "_law_names_in" = some F_qnames_in){nm:List Str}{m0:Mem}{acc:List FK}{blk:D}{cs:List Str}(hc:∀y∈cs,y∈nm){x4:Option D}{d:Dd Str}(ho:d.Ok (·∈nm))(hs:LFSub W Γ nm n d)(hd:cs.length+16*d.dep≤100)(ha:acc.length≤90000):∃(ks:List FK) (y4:Option D),(∀k,k∈ks↔k∈flD cs d)∧ks.length≤200∧exs (callI W Γ n) W bodyF (sF m0.length blk cs (some (dD d)) x4) (mF m0 acc)=some (.nx (sF m0.length blk cs (some (dD d)) y4),mF m0 (acc++ks)):=by
 have hsq:∀{t:Tm Str} {j:Int} {x4:Option D} {m:Mem},t.dep<n→t.dep≤4→ixD (dD d) (.int j) m=some (dT t)→ev (callI W Γ n) (.cat false (.var 1) (.call "_law_names_in" (.cons (.ix (.var 3) (.con (.int j))) .nil))) (sF m0.length blk cs (some (dD d)) x4) m=some (.lst ((cs++t.names).map .str),m):=fun {t j x4 m} h1 h2 h3=>by
  have e:=(HW (W:=W) (n:=n) (m:=m) H (t:=t) h1 (by lia)).2
  have h16:=jU H h2
  rw[List.map_append]
  exact VN (xs:=cs.map .str) rfl (BX e (BW (HJ (d:=dD d) rfl rfl h3) rfl)) (by simp;lia)
 have hcl:∀l:List FK,D.clean.cleans (l.map fD)=true:=P0
 cases d with
 | put x e=>
  have h16:=jU H hs.2
  have k1:=lQ (C:=callI W Γ n) (kd:=sName) (z:=.inr x) (tt:=.ix (.var 3) (.con (.int 1))) (hsq (x4:=x4) (m:=mF m0 acc) (j:=2) hs.1 hs.2 rfl) (by simp;lia) (fun y=>rfl)
  refine⟨(cs++e.names).map fun y=>(y,sName,.inr x),x4,fun k=>by rw[flD],by simp;lia,?_⟩
  exact GQ (GP (p:=Str.ofString "put" = Str.ofString "put") rfl rfl) (G6 (RG rfl k1 mF0 (hcl _) (by simp;lia)) (NZ mFs)) (DQ (G7 (p:=Str.ofString "put" = Str.ofString "show") rfl (sne (by decide))) (DQ (G7 (p:=Str.ofString "put" = Str.ofString "while") rfl (sne (by decide))) (DQ (G7 (p:=Str.ofString "put" = Str.ofString "if") rfl (sne (by decide))) rfl)))
 | sho j e=>
  have h16:=jU H hs.2
  have k1:=lQ (C:=callI W Γ n) (kd:=sPage) (z:=.inl j) (tt:=.ix (.var 3) (.con (.int 1))) (hsq (x4:=x4) (m:=mF m0 acc) (j:=2) hs.1 hs.2 rfl) (by simp;lia) (fun y=>rfl)
  refine⟨(cs++e.names).map fun y=>(y,sPage,.inl j),x4,fun k=>by rw[flD],by simp;lia,?_⟩
  exact DQ (G7 (p:=Str.ofString "show" = Str.ofString "put") rfl (sne (by decide))) (GQ (GP (p:=Str.ofString "show" = Str.ofString "show") rfl rfl) (G6 (RG rfl k1 mF0 (hcl _) (by simp;lia)) (NZ mFs)) (DQ (G7 (p:=Str.ofString "show" = Str.ofString "while") rfl (sne (by decide))) (DQ (G7 (p:=Str.ofString "show" = Str.ofString "if") rfl (sne (by decide))) rfl)))
 | whl e b=>
  have h16:=jU H hs.1.2
  simp only[Dd.dep]at hd
  have k1:=lQ (C:=callI W Γ n) (kd:=sPage) (z:=.inl 0) (tt:=.con (.int 0)) (hsq (x4:=x4) (m:=mF m0 acc) (j:=1) hs.1.1 hs.1.2 rfl) (by simp;lia) (fun y=>rfl)
  generalize hA:(cs++e.names).map (fun y=>((y,sPage,.inl 0):FK))=A1 at k1
  have hA1:A1.length≤116:=by rw[←hA];simp;lia
  obtain⟨ks,q1,q2,q3,q4⟩:=hs.2 cs (mF m0 (acc++A1)) hc (by lia)
  have hsp:=QC ks
  refine⟨A1++sortF ks,x4,fun k=>by rw[flD,List.mem_append,List.mem_append,hsp.2,q2,hA],by simp;lia,?_⟩
  rw[←List.append_assoc]
  exact DQ (G7 (p:=Str.ofString "while" = Str.ofString "put") rfl (sne (by decide))) (DQ (G7 (p:=Str.ofString "while" = Str.ofString "show") rfl (sne (by decide))) (GQ (GP (p:=Str.ofString "while" = Str.ofString "while") rfl rfl) (G6 (RG rfl k1 mF0 (hcl _) (by simp;lia)) (G6 (RG rfl (by rw[mFs];exact BX q4 rfl) (by rw[mFs];exact mF0) (hcl _) (by simp;lia)) (NZ (by rw[mFs,mFs])))) (DQ (G7 (p:=Str.ofString "while" = Str.ofString "if") rfl (sne (by decide))) rfl)))
 | ite e b c=>
  have h16:=jU H hs.1.2
  simp only[Dd.dep]at hd
  have hcs:∀y∈cs++e.names,y∈nm:=fun y hy=>(List.mem_append.mp hy).elim (hc y) (ho.1.names y)
  obtain⟨ks,q1,q2,q3,q4⟩:=hs.2.1 (cs++e.names) (mF m0 acc) hcs (by rw[List.length_append];lia)
  obtain⟨js,r1,r2,r3,r4⟩:=hs.2.2 (cs++e.names) (mF m0 acc) hcs (by rw[List.length_append];lia)
  have hsp:=QC ks
  have hsj:=QC js
  refine⟨sortF ks++sortF js,some (.lst ((cs++e.names).map .str)),fun k=>by rw[flD,List.mem_append,List.mem_append,hsp.2,hsj.2,q2,r2],by simp;lia,?_⟩
  have k1:ev (callI W Γ n) (.cat false (.call "_law_flows" (.cons (.ix (.var 3) (.con (.int 2))) (.cons (.var 4) .nil))) (.call "_law_flows" (.cons (.ix (.var 3) (.con (.int 3))) (.cons (.var 4) .nil)))) (sF m0.length blk cs (some (dD (.ite e b c))) (some (.lst ((cs++e.names).map .str)))) (mF m0 acc)=some (.lst ((sortF ks++sortF js).map fD),mF m0 acc):=by
   rw[List.map_append (l₁:=sortF ks)]
   exact VN (BX q4 rfl) (BX r4 rfl) (by simp;lia)
  exact DQ (G7 (p:=Str.ofString "if" = Str.ofString "put") rfl (sne (by decide))) (DQ (G7 (p:=Str.ofString "if" = Str.ofString "show") rfl (sne (by decide))) (DQ (G7 (p:=Str.ofString "if" = Str.ofString "while") rfl (sne (by decide))) (GQ (GP (p:=Str.ofString "if" = Str.ofString "if") rfl rfl) (CK (hsq (x4:=x4) (m:=mF m0 acc) (j:=1) hs.1.1 hs.1.2 rfl) (G6 (RG rfl k1 mF0 (hcl _) (by simp;lia)) (NZ mFs))) rfl)))
theorem cO(H:Γ "_law_names_in" = some F_qnames_in){nm:List Str}{m0:Mem}{blk:D}{cs:List Str}(hc:∀y∈cs,y∈nm){ys:List D}:∀(ds:List (Dd Str)) (acc:List FK) (x3 x4:Option D),(∀d∈ds,d.Ok (·∈nm)∧LFSub W Γ nm n d∧cs.length+16*d.dep≤100)→acc.length+200*ds.length≤90000→∃ks y3 y4,(∀k,k∈ks↔k∈flDs cs ds)∧forL ⟨ys,none⟩ (.nm 3) (fun σ m=>exs (callI W Γ n) W bodyF σ m) (ds.map dD) (sF m0.length blk cs x3 x4) (mF m0 acc)=some (.nx (sF m0.length blk cs y3 y4),mF m0 (acc++ks))
 | [],acc,x3,x4,_,_=>⟨[],x3,x4,fun k=>by simp[flDs],by simp[forL,Walk.ok]⟩
 | d::r,acc,x3,x4,hd,hl=>by
  obtain⟨d1,d2,d3⟩:=hd d List.mem_cons_self
  rw[List.length_cons]at hl
  obtain⟨k1,z4,a1,a2,a3⟩:=rC (W:=W) (n:=n) H (m0:=m0) (acc:=acc) (blk:=blk) hc (x4:=x4) d1 d2 d3 (by lia)
  obtain⟨k2,y3,y4,b1,b2⟩:=cO H (m0:=m0) (blk:=blk) hc (ys:=ys) r (acc++k1) (some (dD d)) z4 (fun e he=>hd e (List.mem_cons_of_mem _ he)) (by rw[List.length_append];lia)
  refine⟨k1++k2,y3,y4,fun k=>by simp only[flDs,List.mem_append,a1,b1],?_⟩
  rw[←List.append_assoc]
  exact FW (w:=⟨ys,none⟩) (g:=.nm 3) (σ:=sF m0.length blk cs x3 x4) (σ1:=sF m0.length blk cs (some (dD d)) x4) rfl rfl a3 b2
theorem mQ(Hi:Γ "_law_names_in" = some F_qnames_in)(H:Γ "_law_flows" = some F_qflows){nm:List Str}(h4:nm.length=4):∀(K n:Nat) (b:Bl Str),K<n→K≤4→b.Ok (·∈nm)→b.dep≤K→b.size≤200→LFAt W Γ nm (n+1) b:=by
 have key:∀(K n:Nat),K<n→K≤4→(∀b:Bl Str,b.Ok (·∈nm)→b.dep<K→b.size≤200→LFAt W Γ nm n b)→∀b:Bl Str,b.Ok (·∈nm)→b.dep≤K→b.size≤200→LFAt W Γ nm (n+1) b:=by
  intro K n hn h4' ih b ho hd hz cs m hc hl
  have hsub:∀d∈b.list,d.Ok (·∈nm)∧LFSub W Γ nm n d∧cs.length+16*d.dep≤100:=fun d hd'=>by
   have hd0:=Bl.dep_mem hd'
   have hdd:=Nat.le_trans hd0 hd
   have hdo:=ho.mem d hd'
   have hds:d.size≤b.size:=by
    have:=X7 hd'
    rw[M6]at this
    exact this
   refine⟨hdo,?_,by lia⟩
   cases d with
   | put x e=>simp only[Dd.dep]at hdd;exact⟨by omega,by omega⟩
   | sho k e=>simp only[Dd.dep]at hdd;exact⟨by omega,by omega⟩
   | ite e c c'=>
    simp only[Dd.dep,Dd.size]at hdd hds
    exact⟨⟨by lia,by lia⟩,ih c hdo.2.1 (by lia) (by lia),ih c' hdo.2.2 (by lia) (by lia)⟩
   | whl e c=>
    simp only[Dd.dep,Dd.size]at hdd hds
    exact⟨⟨by lia,by lia⟩,ih c hdo.2 (by lia) (by lia)⟩
  have hln:b.list.length≤b.size:=by
   have:=SN b.list
   rw[M6]at this
   exact this
  obtain⟨ks,y3,y4,a1,a2⟩:=cO (W:=W) (n:=n) (m0:=m) (blk:=.tup (dB b)) Hi hc (ys:=dB b) b.list [] none none hsub (by simp;lia)
  rw[List.nil_append,←J6]at a2
  have hk:∀k,k∈ks↔k∈flB cs b:=fun k=>by rw[a1,VL]
  have hsu:∀k∈ks,k∈univ nm:=fun k h=>HX ho hc k ((hk k).mp h)
  have hs:=eY h4 hsu (d:=.mref m.length) (m:=mF m ks) (by
   show (match (mF m ks)[m.length]? with | some (.lst xs)=>some xs | _=>none)=_
   rw[mF0])
  refine⟨uniqF ks,ufn ks,fun k=>by rw[ufm];exact hk k,?_,?_⟩
  ·rw[←QM h4]
   exact(ufn ks).length_le_of_subset fun k h=>hsu k (ufm.mp h)
  ·exact KY (q:=[.lst (ks.map fD)]) H rfl (P0 _) (CK (d:=.mref m.length) (m1:=mF m []) rfl (NT (b:=bodyF) (w:=⟨dB b,none⟩) rfl a2 (CP (G3 rfl hs))))
 intro K
 induction K with
 | zero=>exact fun n b hn h4=>key 0 n hn h4 (fun b _ h=>absurd h (Nat.not_lt_zero _)) b
 | succ K ih=>
  intro n b hn h4
  obtain⟨n',rfl⟩:∃n',n=n'+1:=⟨n-1,by lia⟩
  exact key (K+1) (n'+1) hn h4 (fun c ho hd hm=>ih n' c (by lia) (by lia) ho (by lia) hm) b
end
end T
end
section
namespace T
open PySem L2 WL WW
mutual
theorem wD{g:Str→Int}:∀{d:Dd Str} {cs:List Str},FlD g cs d→∀k∈flD cs d,g k.1≤tgt g k
 | .put x e,cs,h,k,hk=>by
  obtain⟨y,hy,rfl⟩:=List.mem_map.mp (show k∈(cs++e.names).map fun y=>(y,sName,(.inr x:Key)) from hk)
  exact h y hy
 | .sho j e,cs,h,k,hk=>by
  obtain⟨y,hy,rfl⟩:=List.mem_map.mp (show k∈(cs++e.names).map fun y=>(y,sPage,(.inl j:Key)) from hk)
  exact h y hy
 | .ite e b c,cs,h,k,hk=>(List.mem_append.mp (show k∈flB (cs++e.names) b++flB (cs++e.names) c from hk)).elim (RB h.1 k) (RB h.2 k)
 | .whl e b,cs,h,k,hk=>(List.mem_append.mp (show k∈((cs++e.names).map fun y=>(y,sPage,(.inl 0:Key)))++flB cs b from hk)).elim (fun hk=>by
   obtain⟨y,hy,rfl⟩:=List.mem_map.mp hk
   exact h.1 y hy) (RB h.2 k)
theorem RB{g:Str→Int}:∀{b:Bl Str} {cs:List Str},FlB g cs b→∀k∈flB cs b,g k.1≤tgt g k
 | .nil,_,_,k,hk=>nomatch hk
 | .cons d b,cs,h,k,hk=>(List.mem_append.mp (show k∈flD cs d++flB cs b from hk)).elim (wD h.1 k) (RB h.2 k)
end
theorem gW{nm:List Str}{g g':Str→Int}(h:∀x∈nm,g x=g' x){k:FK}(hk:k∈univ nm):g k.1=g' k.1∧tgt g k=tgt g' k:=by
 obtain⟨y,hy,hm⟩:=List.mem_flatMap.mp hk
 rcases List.mem_append.mp hm with hm | hm
 ·simp only[List.mem_cons,List.not_mem_nil,or_false]at hm
  rcases hm with rfl | rfl | rfl<;>exact⟨h y hy,rfl⟩
 ·obtain⟨x,hx,rfl⟩:=List.mem_map.mp hm
  exact⟨h y hy,h x hx⟩
theorem jP{ks:List Str}{f:Str→Int}(h:∀x∈ks,(PyData.str x).canLay0=true):okD 60 (.tup (pairsD ks f))=true:=by
 show (pairsD ks f).all (okD 59)=true
 rw[List.all_eq_true]
 intro d hd
 obtain⟨x,hx,rfl⟩:=List.mem_map.mp hd
 show (okD 58 (.str x)&&(okD 58 (.int (f x))&&true))=true
 rw[show okD 58 (.str x)=(PyData.str x).canLay0 from rfl,h x hx]
 rfl
section
variable{W:Nat}{Γ:String→Option Fn}{n:Nat}{m:Mem}{nm hk:List Str}{g:Str→Int}{l:Int}
theorem wQ(H:Γ "_law_goal" = some F_qgoal)(hS:Stand nm hk g){k:FK}(hok:okFK k=true):callI W Γ (n+1) "_law_goal" [.tup [.str k.2.1,keyV k.2.2],lvD hk g] m=some (.int (tgt g k),m):=by
 obtain⟨a,kd,x | x⟩:=k
 ·have:kd=Str.ofString "page":=of_decide_eq_true hok
  subst this
  refine CW H rfl rfl ?_
  exact FP (GP (p:=Str.ofString "page" = Str.ofString "page") rfl rfl) (CP rfl)
 ·have hne:¬kd=Str.ofString "page":=by simpa[okFK] using hok
  refine CW H rfl rfl ?_
  have hg:=OD (C:=callI W Γ n) (m:=m) hS (d:=.var 1) (k:=.ix (.var 0) (.con (.int 1))) (z:=.con (.int 0)) (σ:=[some (.tup [.str kd,.str x]),some (lvD hk g)]) (x:=x) rfl rfl rfl
  exact DQ (G7 rfl hne) (CP hg)
noncomputable def sV(ns:List Int)(P H N O S:D)(x6 x7 x8 x9 x10:Option D):DS:=[some (.scr ns),some P,some H,some N,some O,some S,x6,x7,x8,x9,x10]
noncomputable def bodyV:Sms:=frS (restS 5 b_law)
noncomputable def bodyL:Sms:=frS (restS 4 bodyV)
theorem v_level(Hs:Γ "seen" = some F_seen)(hS:Stand nm hk g)(h4:nm.length=4)(hlay:∀x∈nm,(PyData.str x).canLay0=true){ns:List Int}{P H N O:D}{ks:List Str}{f:Str→Int}(hl:ks.length≤1000)(hks:∀x∈ks,x∈nm){x8 x9:Option D}{j:Nat}:
  exs (callI W Γ (n+1)) W bodyL (sV ns P H N O (.tup (pairsD ks f)) (some (.tup (pairsD hk g))) (some (lvD hk g)) x8 x9 (some (.int j))) m=some (.nx (sV ns P H N O (.tup (pairsD ks f)) (some (.tup (pairsD hk g))) (some (lvD hk g)) x8 x9 (some (.int j))),m):=by
 have e1:=wN (W:=W) (n:=n) (m:=m) (l:=j) Hs hS h4 (ks:=ks) (f:=f) hl
 have comp:ev (callI W Γ (n+1)) (.comp false 1 (.nm 11) (.seq (.var 5)) (.val (.cmp .le (.get (.var 7) (.ix (.var 11) (.con (.int 0))) (.con (.int 0))) (.var 10))) (.var 11)) (sV ns P H N O (.tup (pairsD ks f)) (some (.tup (pairsD hk g))) (some (lvD hk g)) x8 x9 (some (.int j))) m=some (.lst (pairsD (ks.filter fun x=>decide (g x≤j)) f),m):=by
  rw[J5 (xs:=ks) (dd:=fun x=>.tup [.str x,.int (f x)]) (h:=fun x=>if g x≤j then some (.tup [.str x,.int (f x)]) else none) rfl rfl hl]
  ·congr 2
   unfold pairsD
   rw[←List.filterMap_eq_map',List.filterMap_filter]
   simp only[decide_eq_true_eq]
  ·intro x _
   have hg:=OD (C:=callI W Γ (n+1)) (m:=m) hS (d:=.var 7) (k:=.ix (.var 11) (.con (.int 0))) (z:=.con (.int 0)) (σ:=sV ns P H N O (.tup (pairsD ks f)) (some (.tup (pairsD hk g))) (some (lvD hk g)) x8 x9 (some (.int j))++[some (.tup [.str x,.int (f x)])]) (x:=x) rfl rfl rfl
   refine⟨sV ns P H N O (.tup (pairsD ks f)) (some (.tup (pairsD hk g))) (some (lvD hk g)) x8 x9 (some (.int j))++[some (.tup [.str x,.int (f x)])],decide (g x≤j),rfl,GJ (G9 hg rfl rfl) rfl,?_⟩
   by_cases h:g x≤j
   ·rw[decide_eq_true h,if_pos rfl,if_pos h];exact⟨rfl,rfl⟩
   ·rw[decide_eq_false h,if_neg (by decide),if_neg h]
 have q:cmpD .ne (.tup (pairsD (ks.filter fun x=>decide (g x≤j)) f)) (.tup (pairsD (ks.filter fun x=>decide (g x≤j)) f))=some false:=by
  show (eqD _ _).map _=_
  rw[rZ,eq_self (jP fun x hx=>hlay x (hks x (List.mem_filter.mp hx).1))];rfl
 exact DQ (GJ (G9 (BX e1 rfl) (G3 comp rfl) q) rfl) rfl
theorem v_step(HF:HasF Γ)(Hi:Γ "_law_names_in" = some F_qnames_in)(Hl:Γ "_law_flows" = some F_qflows)(Hg:Γ "_law_goal" = some F_qgoal)(Hs:Γ "seen" = some F_seen)(hW:1000<W)(hS:Stand nm hk g)(h4:nm.length=4)(hlay:∀x∈nm,(PyData.str x).canLay0=true){p:Bl Str}(ho:p.Ok (·∈nm))(hd:p.dep≤4)(hz:p.size≤63){ns:List Int}{H N O:D}{ks:List Str}{f:Str→Int}(hl:ks.length≤1000)(hks:∀x∈ks,x∈nm){x7 x8 x9 x10:Option D}:
  ∃y7 y8 y9 y10,exs (callI W Γ (n+19)) W bodyV (sV ns (.tup (dB p)) H N O (.tup (pairsD ks f)) (some (.tup (pairsD hk g))) x7 x8 x9 x10) m=some (.nx (sV ns (.tup (dB p)) H N O (.tup (pairsD ks f)) (some (.tup (pairsD hk g))) y7 y8 y9 y10),m):=by
 obtain⟨v,v1,v2,v3⟩:=mR (W:=W) (n:=n+5) (m:=m) HF h4 hW hS ho (by lia)
 obtain⟨kl,l1,l2,l3,l4⟩:=mQ (W:=W) Hi Hl h4 4 (n+18) p (by lia) (by lia) ho hd (by lia) [] m (by simp) (by simp;lia)
 have hsp:=QC kl
 have hok:∀k∈sortF kl,okFK k=true:=fun k hk=>Q9 k (HX ho (by simp) k ((l2 k).mp ((hsp.2 k).mp hk)))
 have hkl:hk.length≤1000:=Nat.le_trans (hS.nd.length_le_of_subset fun x hx=>hS.sub x hx) (by lia)
 have hdct:b1D (.dict false) (.tup (pairsD hk g)) m=some (lvD hk g,m):=W3 (f:=g) hS.nd hkl false m
 have comp:ev (callI W Γ (n+19)) (.comp false 1 (.nm 11) (.seq (.call "_law_flows" (.cons (.var 1) (.cons (.lst false .nil) .nil)))) .tt (.cmp .le (.get (.var 7) (.ix (.var 11) (.con (.int 0))) (.con (.int 0))) (.call "_law_goal" (.cons (.ix (.var 11) (.con (.int 1))) (.cons (.var 7) .nil))))) (sV ns (.tup (dB p)) H N O (.tup (pairsD ks f)) (some (.tup (pairsD hk g))) (some (lvD hk g)) x8 x9 x10) m=some (.lst ((sortF kl).map fun k=>.bl (decide (g k.1≤tgt g k))),m):=by
  rw[J5 (xs:=sortF kl) (dd:=fD) (h:=fun k=>some (.bl (decide (g k.1≤tgt g k)))) rfl (W0 (BX (m1:=m) l4 rfl)) (by lia)]
  ·rw[List.filterMap_eq_map']
  ·intro k hk'
   refine⟨sV ns (.tup (dB p)) H N O (.tup (pairsD ks f)) (some (.tup (pairsD hk g))) (some (lvD hk g)) x8 x9 x10++[some (fD k)],true,rfl,rfl,?_⟩
   rw[if_pos rfl]
   refine⟨rfl,?_⟩
   have hgt:=OD (C:=callI W Γ (n+19)) (m:=m) hS (d:=.var 7) (k:=.ix (.var 11) (.con (.int 0))) (z:=.con (.int 0)) (σ:=sV ns (.tup (dB p)) H N O (.tup (pairsD ks f)) (some (.tup (pairsD hk g))) (some (lvD hk g)) x8 x9 x10++[some (fD k)]) (x:=k.1) rfl rfl rfl
   have hlv:=wQ (W:=W) (n:=n+18) (m:=m) Hg hS (hok k hk')
   exact G9 hgt (BX hlv rfl) rfl
 have ha:=dX (fun k:FK=>decide (g k.1≤tgt g k)) (sortF kl) m
 have hdue:(sortF kl).all (fun k:FK=>decide (g k.1≤tgt g k))=v:=by
  cases v with
  | true=>exact List.all_eq_true.mpr fun k hk=>decide_eq_true (v1 rfl k ((l2 k).mp ((hsp.2 k).mp hk)))
  | false=>
   obtain⟨k,hk,hn⟩:=v2 rfl
   exact List.all_eq_false.mpr ⟨k,(hsp.2 k).mpr ((l2 k).mpr hk),by simpa using hn⟩
 rw[hdue]at ha
 have hne:cmpD .ne (.bl v) (.bl v)=some false:=by cases v<;>rfl
 have lv:=fun j:Nat=>v_level (W:=W) (n:=n+18) (m:=m) Hs hS h4 hlay (ns:=ns) (P:=.tup (dB p)) (H:=H) (N:=N) (O:=O) (ks:=ks) (f:=f) hl hks (x8:=some (.bl v)) (x9:=some (.bl v)) (j:=j)
 refine⟨some (lvD hk g),some (.bl v),some (.bl v),some (.int (2:Nat)),?_⟩
 exact CK (G3 rfl hdct) (CK (G3 comp ha) (CK (BX v3 rfl) (DQ (cX (m1:=m) rfl (GJ (G9 (m1:=m) (d:=.bl v) (d2:=.bl v) rfl rfl hne) rfl)) (NT (b:=bodyL) (w:=⟨[.int (0:Nat),.int (1:Nat),.int (2:Nat)],none⟩) (m1:=m) rfl (FW rfl rfl (lv 0) (FW rfl rfl (lv 1) (FW rfl rfl (lv 2) (R8 rfl)))) rfl))))
theorem rF(HG:HasG Γ)(HF:HasF Γ)(Hl:Γ "_law_flows" = some F_qflows)(Hg:Γ "_law_goal" = some F_qgoal)(Hs:Γ "seen" = some F_seen)(Hh:Γ "_law_house" = some F_qhouse)(HL:Γ "law" = some F_law)(hW:1000<W){ns:List Int}:callI W Γ (n+20) "law" [.scr ns] []=some (.bl true,[]):=by
 refine CW (n:=n+19) HL rfl rfl ?_
 obtain⟨p,ho,hd,hz,e1,hon⟩:=bD (W:=W) HG.toHasP (ns:=ns) (k:=2)
 have e1:=e1 (n+9) []
 have es:=sY (W:=W) (n:=n+9) HG (ns:=ns) (k:=5)
 obtain⟨hk,g,hR,hS,hr,eh,hlev⟩:=mU (W:=W) (n:=n+9) HG.toHasP Hh (ns:=ns) []
 have en:=QL (W:=W) (n:=n+16) (m:=[]) HG.mix HG.cell HG.name HG.names (ns:=ns)
 have ec:=MN (W:=W) (n:=n+18) (m:=[]) HG.cell (ns:=ns) (k:=6)
 have ec0:=MN (W:=W) (n:=n+18) (m:=[]) HG.cell (ns:=ns) (k:=0)
 have em:∀{c p k:Int},0<p→0<k→callI W Γ (n+19) "_law_mix" [.int c,.int p,.int k] []=some (.int (mixv c p k),[]):=fun hp hk=>IV (n:=n+18) HG.mix hp hk
 have hlay:∀x∈namesL (cellv ns 0),(PyData.str x).canLay0=true:=fun x this=>by
  simp only[namesL,List.mem_cons,List.not_mem_nil,or_false]at this
  rcases this with rfl | rfl | rfl | rfl<;>exact kW _ _
 have hnm:=names_nodup (cellv ns 0)
 have hp:=oM (cellv ns 0) (cellv ns 5)
 have h4:(namesL (cellv ns 0)).length=4:=rfl
 have hl:(snL (cellv ns 0) (cellv ns 5)).length≤1000:=by rw[hp.length_eq];lia
 have hks:∀x∈snL (cellv ns 0) (cellv ns 5),x∈namesL (cellv ns 0):=fun x hx=>hp.mem_iff.mp hx
 let ps:List (Str×Int):=[(nameL (cellv ns 0) 1,mixv (cellv ns 6+7*1) 9803 3),(nameL (cellv ns 0) 2,mixv (cellv ns 6+7*2) 9803 3),(nameL (cellv ns 0) 3,mixv (cellv ns 6+7*3) 9803 3)]
 have hmx:∀c:Int,0≤mixv c 9803 3∧mixv c 9803 3≤2:=fun c=>by
  have:=FT c 9803 (k:=3) (by lia)
  lia
 obtain⟨ok,og,oR,oS,or,os,_,_⟩:=T3 (nm:=namesL (cellv ns 0)) (ps:=ps) (List.nodup_cons.mp hnm).2 (fun q hq=>by
  simp only[ps,List.mem_cons,List.not_mem_nil,or_false]at hq
  rcases hq with rfl | rfl | rfl<;>simp[namesL]) (by simp[ps]) (fun q hq=>by
  simp only[ps,List.mem_cons,List.not_mem_nil,or_false]at hq
  rcases hq with rfl | rfl | rfl<;>exact hmx _) rfl []
 have mulc:∀j:Int,-(2 ^ 64)<j∧j<2 ^ 64→binD .mul (.int 7) (.int j) []=some (.int (7*j),[]):=fun j _=>JK (by decide)
 have comp:∀{P H:D} {x4 x5 x6 x7 x8 x9 x10:Option D},ev (callI W Γ (n+19)) (.comp false 1 (.nm 11) (.rng2 (.con (.int 1)) (.con (.int 4))) .tt (.tup (.cons (.ix (.var 3) (.var 11)) (.cons (.call "_law_mix" (.cons (.bin .add (.call "_law_cell" (.cons (.var 0) (.cons (.con (.int 6)) .nil))) (.bin .mul (.con (.int 7)) (.var 11))) (.cons (.con (.int 9803)) (.cons (.con (.int 3)) .nil)))) .nil)))) [some (.scr ns),some P,some H,some (.lst ((namesL (cellv ns 0)).map .str)),x4,x5,x6,x7,x8,x9,x10] []=some (.lst (ps.map unSI),[]):=fun {P H x4 x5 x6 x7 x8 x9 x10}=>by
  rw[J5 (xs:=[1,2,3]) (dd:=fun j:Nat=>.int j) (h:=fun j:Nat=>some (unSI (nameL (cellv ns 0) j,mixv (cellv ns 6+7*j) 9803 3))) rfl rfl (by simp)]
  ·rfl
  ·intro j hj
   simp only[List.mem_cons,List.not_mem_nil,or_false]at hj
   refine⟨[some (.scr ns),some P,some H,some (.lst ((namesL (cellv ns 0)).map .str)),x4,x5,x6,x7,x8,x9,x10,some (.int j)],true,rfl,rfl,?_⟩
   rw[if_pos rfl]
   refine⟨rfl,?_⟩
   have hx:ixD (.lst ((namesL (cellv ns 0)).map .str)) (.int j) []=some (.str (nameL (cellv ns 0) j)):=by rcases hj with rfl | rfl | rfl<;>rfl
   exact FZ (BW (HJ rfl rfl hx) (BW (BX (em (c:=cellv ns 6+7*j) (by decide) (by decide)) (BW (DN (BX ec rfl) (DN rfl rfl (mulc j (by lia))) rfl) rfl)) rfl)) (by simp)
 obtain⟨v,v1,v2,v3⟩:=mR (W:=W) (n:=n+5) (m:=[]) HF h4 hW hS ho (by lia)
 obtain⟨a7,a8,a9,a10,s1⟩:=v_step (W:=W) (n:=n) (m:=[]) HF HG.names_in Hl Hg Hs hW hS h4 hlay ho hd hz (ns:=ns) (H:=.tup (pairsD hk g)) (N:=.lst ((namesL (cellv ns 0)).map .str)) (O:=.tup (pairsD ok og)) (f:=gL (cellv ns 0) (cellv ns 5)) hl hks (x7:=none) (x8:=none) (x9:=none) (x10:=none)
 obtain⟨b7,b8,b9,b10,s2⟩:=v_step (W:=W) (n:=n) (m:=[]) HF HG.names_in Hl Hg Hs hW oS h4 hlay ho hd hz (ns:=ns) (H:=.tup (pairsD hk g)) (N:=.lst ((namesL (cellv ns 0)).map .str)) (O:=.tup (pairsD ok og)) (f:=gL (cellv ns 0) (cellv ns 5)) hl hks (x7:=a7) (x8:=a8) (x9:=a9) (x10:=a10)
 obtain⟨c7,c8,c9,c10,s3⟩:=v_step (W:=W) (n:=n) (m:=[]) (hk:=[]) (g:=fun _=>0) HF HG.names_in Hl Hg Hs hW ⟨List.nodup_nil,fun x hx=>(nomatch hx),fun x _=>rfl⟩ h4 hlay ho hd hz (ns:=ns) (H:=.tup (pairsD hk g)) (N:=.lst ((namesL (cellv ns 0)).map .str)) (O:=.tup (pairsD ok og)) (f:=gL (cellv ns 0) (cellv ns 5)) hl hks (x7:=b7) (x8:=b8) (x9:=b9) (x10:=b10)
 have last:ev (callI W Γ (n+19)) (.orv (.call "lets" (.cons (.var 1) (.cons (.var 2) .nil))) (.cmp .eq (.call "_law_mix" (.cons (.call "_law_cell" (.cons (.var 0) (.cons (.con (.int 0)) .nil))) (.cons (.con (.int 9833)) (.cons (.con (.int 4)) .nil)))) (.con (.int 0)))) (sV ns (.tup (dB p)) (.tup (pairsD hk g)) (.lst ((namesL (cellv ns 0)).map .str)) (.tup (pairsD ok og)) (.tup (pairsD (snL (cellv ns 0) (cellv ns 5)) (gL (cellv ns 0) (cellv ns 5)))) (some (.tup [])) c7 c8 c9 c10) []=some (.bl true,[]):=by
  show (ev (callI W Γ (n+19)) _ _ _).bind _=_
  rw[BX v3 rfl,Option.bind_some]
  cases v with
  | true=>rfl
  | false=>
   have hm0:mixv (cellv ns 0) 9833 4=0:=by
    have hr:=FT (cellv ns 0) 9833 (k:=4) (by lia)
    refine Classical.byContradiction fun q=>?_
    obtain⟨k,hk',hn⟩:=v2 rfl
    have h1:=RB (hon (by lia)) k hk'
    obtain⟨u1,u2⟩:=gW hlev (HX ho (by simp) k hk')
    rw[←u1,←u2]at h1
    exact hn h1
   have e:=G9 (C:=callI W Γ (n+19)) (σ:=sV ns (.tup (dB p)) (.tup (pairsD hk g)) (.lst ((namesL (cellv ns 0)).map .str)) (.tup (pairsD ok og)) (.tup (pairsD (snL (cellv ns 0) (cellv ns 5)) (gL (cellv ns 0) (cellv ns 5)))) (some (.tup [])) c7 c8 c9 c10) (m:=[]) (o:=.eq) (e:=.call "_law_mix" (.cons (.call "_law_cell" (.cons (.var 0) (.cons (.con (.int 0)) .nil))) (.cons (.con (.int 9833)) (.cons (.con (.int 4)) .nil)))) (e2:=.con (.int 0)) (d2:=.int 0) (c:=true) (BX (em (c:=cellv ns 0) (p:=9833) (k:=4) (by decide) (by decide)) (BW (BX ec0 rfl) rfl)) rfl (by rw[hm0];rfl)
   exact e
 exact CK (BX e1 rfl) (CK (BX eh rfl) (CK (BX en rfl) (CK (G3 (G3 comp os) rfl) (CK (BX es rfl) (NT (b:=bodyV) (w:=⟨[.tup (pairsD hk g),.tup (pairsD ok og),.tup []],none⟩) (m1:=[]) rfl (FW rfl rfl s1 (FW rfl rfl s2 (FW rfl rfl s3 (R8 rfl)))) (CP last))))))
end
end T
end
section
namespace T
open PySem L2 WL PySem.Spec PyProof.Rows
theorem law_true:∀ns:List Int,ns.length≤63→callI 100000 Γ 60 "law" [.scr ns] []=some (.bl true,[]):=fun ns _=>rF (n:=40) ⟨⟨rfl,rfl,rfl,rfl,rfl,rfl,rfl,rfl,rfl,rfl⟩,rfl⟩ ⟨⟨rfl,rfl,rfl,rfl,rfl,rfl⟩,rfl,rfl⟩ rfl rfl rfl rfl rfl (by lia)
section
variable{P:Program}{w:World}{K:PySem.W.Frag}{mg:Str→Option Value}{base:Heap}{W:Nat}
theorem len0{l:List Value}(h:l.length=0):l=[]:=List.length_eq_zero_iff.mp h
theorem rD{n:Nat}{l:List Value}(h:l.length=n+1):∃a r,l=a::r∧r.length=n:=by cases l with
 | nil=>cases h
 | cons a r=>exact⟨a,r,rfl,Nat.succ.inj h⟩
theorem len1{l:List Value}(h:l.length=1):∃a,l=[a]:=by obtain⟨a,r,rfl,k⟩:=rD h;exact⟨a,by rw[len0 k]⟩
theorem len2{l:List Value}(h:l.length=2):∃a b,l=[a,b]:=by obtain⟨a,r,rfl,k⟩:=rD h;obtain⟨b,rfl⟩:=len1 k;exact⟨a,b,rfl⟩
theorem fX{l:List Value}(h:l.length=3):∃a b c,l=[a,b,c]:=by obtain⟨a,r,rfl,k⟩:=rD h;obtain⟨b,c,rfl⟩:=len2 k;exact⟨a,b,c,rfl⟩
theorem yK{l:List Value}(h:l.length=4):∃a b c d,l=[a,b,c,d]:=by obtain⟨a,r,rfl,k⟩:=rD h;obtain⟨b,c,d,rfl⟩:=fX k;exact⟨a,b,c,d,rfl⟩
structure Th(K:PySem.W.Frag)(mg:Str→Option Value):Prop where
 t_names_of:∃fa fd,There K mg "names_of" s_names_of ["program"] fa fd
 t_names_in_term:∃fa fd,There K mg "names_in_term" s_names_in_term ["term"] fa fd
 t_parts_of:∃fa fd,There K mg "parts_of" s_parts_of ["part"] fa fd
 t_flows:∃fa fd,There K mg "flows" s_flows ["program"] fa fd
 t_lets:∃fa fd,There K mg "lets" s_lets ["program","house"] fa fd
 t_seen:∃fa fd,There K mg "seen" s_seen ["store","house","level"] fa fd
 t_gather_flows:∃fa fd,There K mg "gather_flows" s_gather_flows ["block","choosing","found"] fa fd
 t_add_flows:∃fa fd,There K mg "add_flows" s_add_flows ["names","target","found"] fa fd
 t_level_of:∃fa fd,There K mg "level_of" s_level_of ["target","levels"] fa fd
 t_qcell:∃fa fd,There K mg "_law_cell" s_qcell ["_law_script","_law_k"] fa fd
 t_qmix:∃fa fd,There K mg "_law_mix" s_qmix ["_law_cell_here","_law_prime","_law_many"] fa fd
 t_qname:∃fa fd,There K mg "_law_name" s_qname ["_law_script","_law_k"] fa fd
 t_qnames:∃fa fd,There K mg "_law_names" s_qnames ["_law_script"] fa fd
 t_qlevels:∃fa fd,There K mg "_law_levels" s_qlevels ["_law_script"] fa fd
 t_qhouse:∃fa fd,There K mg "_law_house" s_qhouse ["_law_script"] fa fd
 t_qterm:∃fa fd,There K mg "_law_term" s_qterm ["_law_names_here","_law_seed","_law_left"] fa fd
 t_qnames_in:∃fa fd,There K mg "_law_names_in" s_qnames_in ["_law_term_here"] fa fd
 t_qdeed:∃fa fd,There K mg "_law_deed" s_qdeed ["_law_plan","_law_cell_here","_law_deep","_law_need"] fa fd
 t_qblock:∃fa fd,There K mg "_law_block" s_qblock ["_law_plan","_law_cell_here","_law_deep","_law_need"] fa fd
 t_qprogram:∃fa fd,There K mg "_law_program" s_qprogram ["_law_script","_law_k"] fa fd
 t_qstore:∃fa fd,There K mg "_law_store" s_qstore ["_law_script","_law_k"] fa fd
 t_qflows:∃fa fd,There K mg "_law_flows" s_qflows ["_law_block_here","_law_around"] fa fd
 t_qgoal:∃fa fd,There K mg "_law_goal" s_qgoal ["_law_target","_law_levels_here"] fa fd
 t_law:∃fa fd,There K mg "law" s_law ["_law_script"] fa fd
theorem fc{P:String→Prop}{a:String}{l:List String}(h:P a)(t:∀f∈l,P f):∀f∈a::l,P f:=fun f hf=>by
 cases hf with
 | head=>exact h
 | tail _ q=>exact t f q
theorem fz{name:String}{st:Stmt}{ps:List Str}(h:∃fa fd,There K mg name st ps fa fd):Def P w K mg base 0 (callI W Γ 0) name:=by
 obtain⟨fa,fd,t⟩:=h
 exact t.zero
theorem ds(T:Tp K mg)(H:Th K mg):∀n,Ds P w K mg base W n
 | 0=>by
  refine fc (fz H.t_names_of) ?_
  refine fc (fz H.t_names_in_term) ?_
  refine fc (fz H.t_parts_of) ?_
  refine fc (fz H.t_flows) ?_
  refine fc (fz H.t_lets) ?_
  refine fc (fz H.t_seen) ?_
  refine fc (fz H.t_gather_flows) ?_
  refine fc (fz H.t_add_flows) ?_
  refine fc (fz H.t_level_of) ?_
  refine fc (fz H.t_qcell) ?_
  refine fc (fz H.t_qmix) ?_
  refine fc (fz H.t_qname) ?_
  refine fc (fz H.t_qnames) ?_
  refine fc (fz H.t_qlevels) ?_
  refine fc (fz H.t_qhouse) ?_
  refine fc (fz H.t_qterm) ?_
  refine fc (fz H.t_qnames_in) ?_
  refine fc (fz H.t_qdeed) ?_
  refine fc (fz H.t_qblock) ?_
  refine fc (fz H.t_qprogram) ?_
  refine fc (fz H.t_qstore) ?_
  refine fc (fz H.t_qflows) ?_
  refine fc (fz H.t_qgoal) ?_
  refine fc (fz H.t_law) ?_
  exact fun f h=>by cases h
 | n+1=>by
  have D:=ds T H n
  refine fc (by obtain⟨fa,fd,t⟩:=H.t_names_of;exact⟨fa,fd,_,DG t.1 sc_names_of (F:=F_names_of) rfl rfl rfl (fun cdv A outer s H E hr=>Y8 T D hr),t.2.2,t.1.kp,t.2.1⟩) ?_
  refine fc (by obtain⟨fa,fd,t⟩:=H.t_names_in_term;exact⟨fa,fd,_,DG t.1 sc_names_in_term (F:=F_names_in_term) rfl rfl rfl (fun cdv A outer s H E hr=>O9 T D hr),t.2.2,t.1.kp,t.2.1⟩) ?_
  refine fc (by obtain⟨fa,fd,t⟩:=H.t_parts_of;exact⟨fa,fd,_,DG t.1 sc_parts_of (F:=F_parts_of) rfl rfl rfl (fun cdv A outer s H E hr=>Y7 T D hr),t.2.2,t.1.kp,t.2.1⟩) ?_
  refine fc (by obtain⟨fa,fd,t⟩:=H.t_flows;exact⟨fa,fd,_,DG t.1 sc_flows (F:=F_flows) rfl rfl rfl (fun cdv A outer s H E hr=>jR T D hr),t.2.2,t.1.kp,t.2.1⟩) ?_
  refine fc (by obtain⟨fa,fd,t⟩:=H.t_lets;exact⟨fa,fd,_,DG t.1 sc_lets (F:=F_lets) rfl rfl rfl (fun cdv A outer s H E hr=>qT T D hr),t.2.2,t.1.kp,t.2.1⟩) ?_
  refine fc (by obtain⟨fa,fd,t⟩:=H.t_seen;exact⟨fa,fd,_,DG t.1 sc_seen (F:=F_seen) rfl rfl rfl (fun cdv A outer s H E hr=>qQ T D hr),t.2.2,t.1.kp,t.2.1⟩) ?_
  refine fc (by obtain⟨fa,fd,t⟩:=H.t_gather_flows;exact⟨fa,fd,_,DG t.1 sc_gather_flows (F:=F_gather_flows) rfl rfl rfl (fun cdv A outer s H E hr=>Q7 T D hr),t.2.2,t.1.kp,t.2.1⟩) ?_
  refine fc (by obtain⟨fa,fd,t⟩:=H.t_add_flows;exact⟨fa,fd,_,DG t.1 sc_add_flows (F:=F_add_flows) rfl rfl rfl (fun cdv A outer s H E hr=>V7 T D hr),t.2.2,t.1.kp,t.2.1⟩) ?_
  refine fc (by obtain⟨fa,fd,t⟩:=H.t_level_of;exact⟨fa,fd,_,DG t.1 sc_level_of (F:=F_level_of) rfl rfl rfl (fun cdv A outer s H E hr=>Y9 T D hr),t.2.2,t.1.kp,t.2.1⟩) ?_
  refine fc (by obtain⟨fa,fd,t⟩:=H.t_qcell;exact⟨fa,fd,_,DG t.1 sc_qcell (F:=F_qcell) rfl rfl rfl (fun cdv A outer s H E hr=>jO T D hr),t.2.2,t.1.kp,t.2.1⟩) ?_
  refine fc (by obtain⟨fa,fd,t⟩:=H.t_qmix;exact⟨fa,fd,_,DG t.1 sc_qmix (F:=F_qmix) rfl rfl rfl (fun cdv A outer s H E hr=>qR T D hr),t.2.2,t.1.kp,t.2.1⟩) ?_
  refine fc (by obtain⟨fa,fd,t⟩:=H.t_qname;exact⟨fa,fd,_,DG t.1 sc_qname (F:=F_qname) rfl rfl rfl (fun cdv A outer s H E hr=>jL T D hr),t.2.2,t.1.kp,t.2.1⟩) ?_
  refine fc (by obtain⟨fa,fd,t⟩:=H.t_qnames;exact⟨fa,fd,_,DG t.1 sc_qnames (F:=F_qnames) rfl rfl rfl (fun cdv A outer s H E hr=>fP T D hr),t.2.2,t.1.kp,t.2.1⟩) ?_
  refine fc (by obtain⟨fa,fd,t⟩:=H.t_qlevels;exact⟨fa,fd,_,DG t.1 sc_qlevels (F:=F_qlevels) rfl rfl rfl (fun cdv A outer s H E hr=>aQ T D hr),t.2.2,t.1.kp,t.2.1⟩) ?_
  refine fc (by obtain⟨fa,fd,t⟩:=H.t_qhouse;exact⟨fa,fd,_,DG t.1 sc_qhouse (F:=F_qhouse) rfl rfl rfl (fun cdv A outer s H E hr=>fQ T D hr),t.2.2,t.1.kp,t.2.1⟩) ?_
  refine fc (by obtain⟨fa,fd,t⟩:=H.t_qterm;exact⟨fa,fd,_,DG t.1 sc_qterm (F:=F_qterm) rfl rfl rfl (fun cdv A outer s H E hr=>jK T D hr),t.2.2,t.1.kp,t.2.1⟩) ?_
  refine fc (by obtain⟨fa,fd,t⟩:=H.t_qnames_in;exact⟨fa,fd,_,DG t.1 sc_qnames_in (F:=F_qnames_in) rfl rfl rfl (fun cdv A outer s H E hr=>V6 T D hr),t.2.2,t.1.kp,t.2.1⟩) ?_
  refine fc (by obtain⟨fa,fd,t⟩:=H.t_qdeed;exact⟨fa,fd,_,DG t.1 sc_qdeed (F:=F_qdeed) rfl rfl rfl (fun cdv A outer s H E hr=>jN T D hr),t.2.2,t.1.kp,t.2.1⟩) ?_
  refine fc (by obtain⟨fa,fd,t⟩:=H.t_qblock;exact⟨fa,fd,_,DG t.1 sc_qblock (F:=F_qblock) rfl rfl rfl (fun cdv A outer s H E hr=>fV T D hr),t.2.2,t.1.kp,t.2.1⟩) ?_
  refine fc (by obtain⟨fa,fd,t⟩:=H.t_qprogram;exact⟨fa,fd,_,DG t.1 sc_qprogram (F:=F_qprogram) rfl rfl rfl (fun cdv A outer s H E hr=>Y6 T D hr),t.2.2,t.1.kp,t.2.1⟩) ?_
  refine fc (by obtain⟨fa,fd,t⟩:=H.t_qstore;exact⟨fa,fd,_,DG t.1 sc_qstore (F:=F_qstore) rfl rfl rfl (fun cdv A outer s H E hr=>fO T D hr),t.2.2,t.1.kp,t.2.1⟩) ?_
  refine fc (by obtain⟨fa,fd,t⟩:=H.t_qflows;exact⟨fa,fd,_,DG t.1 sc_qflows (F:=F_qflows) rfl rfl rfl (fun cdv A outer s H E hr=>fU T D hr),t.2.2,t.1.kp,t.2.1⟩) ?_
  refine fc (by obtain⟨fa,fd,t⟩:=H.t_qgoal;exact⟨fa,fd,_,DG t.1 sc_qgoal (F:=F_qgoal) rfl rfl rfl (fun cdv A outer s H E hr=>jM T D hr),t.2.2,t.1.kp,t.2.1⟩) ?_
  refine fc (by obtain⟨fa,fd,t⟩:=H.t_law;exact⟨fa,fd,_,DG t.1 sc_law (F:=F_law) rfl rfl rfl (fun cdv A outer s H E hr=>jQ T D hr),t.2.2,t.1.kp,t.2.1⟩) ?_
  exact fun f h=>by cases h
end
set_option maxHeartbeats 0 in
theorem all_mk{l:PySem.W.OpenLaw}{w:World}{K:PySem.W.Frag}{h:Heap}{mg:Str→Option Value}{fa:Addr}(hlaw:∀ns:List Int,ns.length≤63→callI 100000 Γ 60 "law" [.scr ns] []=some (.bl true,[]))(X:K.In h)(G:h.Ns mainGlobals mg)(hfa:mg "law" = some (.ref fa))
  {x0:Addr} {od0 an0:Option Addr} {sl0:Array (Option Value)} {oc0 kV0 dc0 pm0 cd0 ct0:Value}
  {x1:Addr} {od1 an1:Option Addr} {sl1:Array (Option Value)} {oc1 kV1 dc1 pm1 cd1 ct1:Value}
  {x2:Addr} {od2 an2:Option Addr} {sl2:Array (Option Value)} {oc2 kV2 dc2 pm2 cd2 ct2:Value}
  {x3:Addr} {od3 an3:Option Addr} {sl3:Array (Option Value)} {oc3 kV3 dc3 pm3 cd3 ct3:Value}
  {x4:Addr} {od4 an4:Option Addr} {sl4:Array (Option Value)} {oc4 kV4 dc4 pm4 cd4 ct4:Value}
  {x5:Addr} {od5 an5:Option Addr} {sl5:Array (Option Value)} {oc5 kV5 dc5 pm5 cd5 ct5:Value}
  {x6:Addr} {od6 an6:Option Addr} {sl6:Array (Option Value)} {oc6 kV6 dc6 pm6 cd6 ct6:Value}
  {x7:Addr} {od7 an7:Option Addr} {sl7:Array (Option Value)} {oc7 kV7 dc7 pm7 cd7 ct7:Value}
  {x8:Addr} {od8 an8:Option Addr} {sl8:Array (Option Value)} {oc8 kV8 dc8 pm8 cd8 ct8:Value}
  {x9:Addr} {od9 an9:Option Addr} {sl9:Array (Option Value)} {oc9 kV9 dc9 pm9 cd9 ct9:Value}
  {x10:Addr} {od10 an10:Option Addr} {sl10:Array (Option Value)} {oc10 kV10 dc10 pm10 cd10 ct10:Value}
  {x11:Addr} {od11 an11:Option Addr} {sl11:Array (Option Value)} {oc11 kV11 dc11 pm11 cd11 ct11:Value}
  {x12:Addr} {od12 an12:Option Addr} {sl12:Array (Option Value)} {oc12 kV12 dc12 pm12 cd12 ct12:Value}
  {x13:Addr} {od13 an13:Option Addr} {sl13:Array (Option Value)} {oc13 kV13 dc13 pm13 cd13 ct13:Value}
  {x14:Addr} {od14 an14:Option Addr} {sl14:Array (Option Value)} {oc14 kV14 dc14 pm14 cd14 ct14:Value}
  {x15:Addr} {od15 an15:Option Addr} {sl15:Array (Option Value)} {oc15 kV15 dc15 pm15 cd15 ct15:Value}
  {x16:Addr} {od16 an16:Option Addr} {sl16:Array (Option Value)} {oc16 kV16 dc16 pm16 cd16 ct16:Value}
  {x17:Addr} {od17 an17:Option Addr} {sl17:Array (Option Value)} {oc17 kV17 dc17 pm17 cd17 ct17:Value}
  {x18:Addr} {od18 an18:Option Addr} {sl18:Array (Option Value)} {oc18 kV18 dc18 pm18 cd18 ct18:Value}
  {x19:Addr} {od19 an19:Option Addr} {sl19:Array (Option Value)} {oc19 kV19 dc19 pm19 cd19 ct19:Value}
  {x20:Addr} {od20 an20:Option Addr} {sl20:Array (Option Value)} {oc20 kV20 dc20 pm20 cd20 ct20:Value}
  {x21:Addr} {od21 an21:Option Addr} {sl21:Array (Option Value)} {oc21 kV21 dc21 pm21 cd21 ct21:Value}
  {x22:Addr} {od22 an22:Option Addr} {sl22:Array (Option Value)} {oc22 kV22 dc22 pm22 cd22 ct22:Value}
  {x23:Addr} {od23 an23:Option Addr} {sl23:Array (Option Value)} {oc23 kV23 dc23 pm23 cd23 ct23:Value}
  {ga0:Addr} {gn0:Nat} {gt0_0:Tok} {gt0_1:Tok} {gt0_2:Tok}
  (a0:PySem.W.nsIn K mainGlobals "names_of" = some (some (.ref x0))) (l0:K.lookup x0=some ⟨oc0,od0,.func (PySem.W.fnOf "names_of" "names_of" (defArgs s_names_of) (defBody s_names_of) (defScope s_names_of) .none kV0 dc0 pm0 an0 cd0 ct0),sl0⟩) (c0:PySem.W.codeIn K cd0 "names_of" = true) (k0:PySem.W.keepIn K (.ref x0)=true)
  (a1:PySem.W.nsIn K mainGlobals "names_in_term" = some (some (.ref x1))) (l1:K.lookup x1=some ⟨oc1,od1,.func (PySem.W.fnOf "names_in_term" "names_in_term" (defArgs s_names_in_term) (defBody s_names_in_term) (defScope s_names_in_term) .none kV1 dc1 pm1 an1 cd1 ct1),sl1⟩) (c1:PySem.W.codeIn K cd1 "names_in_term" = true) (k1:PySem.W.keepIn K (.ref x1)=true)
  (a2:PySem.W.nsIn K mainGlobals "parts_of" = some (some (.ref x2))) (l2:K.lookup x2=some ⟨oc2,od2,.func (PySem.W.fnOf "parts_of" "parts_of" (defArgs s_parts_of) (defBody s_parts_of) (defScope s_parts_of) .none kV2 dc2 pm2 an2 cd2 ct2),sl2⟩) (c2:PySem.W.codeIn K cd2 "parts_of" = true) (k2:PySem.W.keepIn K (.ref x2)=true)
  (a3:PySem.W.nsIn K mainGlobals "flows" = some (some (.ref x3))) (l3:K.lookup x3=some ⟨oc3,od3,.func (PySem.W.fnOf "flows" "flows" (defArgs s_flows) (defBody s_flows) (defScope s_flows) .none kV3 dc3 pm3 an3 cd3 ct3),sl3⟩) (c3:PySem.W.codeIn K cd3 "flows" = true) (k3:PySem.W.keepIn K (.ref x3)=true)
  (a4:PySem.W.nsIn K mainGlobals "lets" = some (some (.ref x4))) (l4:K.lookup x4=some ⟨oc4,od4,.func (PySem.W.fnOf "lets" "lets" (defArgs s_lets) (defBody s_lets) (defScope s_lets) .none kV4 dc4 pm4 an4 cd4 ct4),sl4⟩) (c4:PySem.W.codeIn K cd4 "lets" = true) (k4:PySem.W.keepIn K (.ref x4)=true)
  (a5:PySem.W.nsIn K mainGlobals "seen" = some (some (.ref x5))) (l5:K.lookup x5=some ⟨oc5,od5,.func (PySem.W.fnOf "seen" "seen" (defArgs s_seen) (defBody s_seen) (defScope s_seen) .none kV5 dc5 pm5 an5 cd5 ct5),sl5⟩) (c5:PySem.W.codeIn K cd5 "seen" = true) (k5:PySem.W.keepIn K (.ref x5)=true)
  (a6:PySem.W.nsIn K mainGlobals "gather_flows" = some (some (.ref x6))) (l6:K.lookup x6=some ⟨oc6,od6,.func (PySem.W.fnOf "gather_flows" "gather_flows" (defArgs s_gather_flows) (defBody s_gather_flows) (defScope s_gather_flows) .none kV6 dc6 pm6 an6 cd6 ct6),sl6⟩) (c6:PySem.W.codeIn K cd6 "gather_flows" = true) (k6:PySem.W.keepIn K (.ref x6)=true)
  (a7:PySem.W.nsIn K mainGlobals "add_flows" = some (some (.ref x7))) (l7:K.lookup x7=some ⟨oc7,od7,.func (PySem.W.fnOf "add_flows" "add_flows" (defArgs s_add_flows) (defBody s_add_flows) (defScope s_add_flows) .none kV7 dc7 pm7 an7 cd7 ct7),sl7⟩) (c7:PySem.W.codeIn K cd7 "add_flows" = true) (k7:PySem.W.keepIn K (.ref x7)=true)
  (a8:PySem.W.nsIn K mainGlobals "level_of" = some (some (.ref x8))) (l8:K.lookup x8=some ⟨oc8,od8,.func (PySem.W.fnOf "level_of" "level_of" (defArgs s_level_of) (defBody s_level_of) (defScope s_level_of) .none kV8 dc8 pm8 an8 cd8 ct8),sl8⟩) (c8:PySem.W.codeIn K cd8 "level_of" = true) (k8:PySem.W.keepIn K (.ref x8)=true)
  (a9:PySem.W.nsIn K mainGlobals "_law_cell" = some (some (.ref x9))) (l9:K.lookup x9=some ⟨oc9,od9,.func (PySem.W.fnOf "_law_cell" "_law_cell" (defArgs s_qcell) (defBody s_qcell) (defScope s_qcell) .none kV9 dc9 pm9 an9 cd9 ct9),sl9⟩) (c9:PySem.W.codeIn K cd9 "_law_cell" = true) (k9:PySem.W.keepIn K (.ref x9)=true)
  (a10:PySem.W.nsIn K mainGlobals "_law_mix" = some (some (.ref x10))) (l10:K.lookup x10=some ⟨oc10,od10,.func (PySem.W.fnOf "_law_mix" "_law_mix" (defArgs s_qmix) (defBody s_qmix) (defScope s_qmix) .none kV10 dc10 pm10 an10 cd10 ct10),sl10⟩) (c10:PySem.W.codeIn K cd10 "_law_mix" = true) (k10:PySem.W.keepIn K (.ref x10)=true)
  (a11:PySem.W.nsIn K mainGlobals "_law_name" = some (some (.ref x11))) (l11:K.lookup x11=some ⟨oc11,od11,.func (PySem.W.fnOf "_law_name" "_law_name" (defArgs s_qname) (defBody s_qname) (defScope s_qname) .none kV11 dc11 pm11 an11 cd11 ct11),sl11⟩) (c11:PySem.W.codeIn K cd11 "_law_name" = true) (k11:PySem.W.keepIn K (.ref x11)=true)
  (a12:PySem.W.nsIn K mainGlobals "_law_names" = some (some (.ref x12))) (l12:K.lookup x12=some ⟨oc12,od12,.func (PySem.W.fnOf "_law_names" "_law_names" (defArgs s_qnames) (defBody s_qnames) (defScope s_qnames) .none kV12 dc12 pm12 an12 cd12 ct12),sl12⟩) (c12:PySem.W.codeIn K cd12 "_law_names" = true) (k12:PySem.W.keepIn K (.ref x12)=true)
  (a13:PySem.W.nsIn K mainGlobals "_law_levels" = some (some (.ref x13))) (l13:K.lookup x13=some ⟨oc13,od13,.func (PySem.W.fnOf "_law_levels" "_law_levels" (defArgs s_qlevels) (defBody s_qlevels) (defScope s_qlevels) .none kV13 dc13 pm13 an13 cd13 ct13),sl13⟩) (c13:PySem.W.codeIn K cd13 "_law_levels" = true) (k13:PySem.W.keepIn K (.ref x13)=true)
  (a14:PySem.W.nsIn K mainGlobals "_law_house" = some (some (.ref x14))) (l14:K.lookup x14=some ⟨oc14,od14,.func (PySem.W.fnOf "_law_house" "_law_house" (defArgs s_qhouse) (defBody s_qhouse) (defScope s_qhouse) .none kV14 dc14 pm14 an14 cd14 ct14),sl14⟩) (c14:PySem.W.codeIn K cd14 "_law_house" = true) (k14:PySem.W.keepIn K (.ref x14)=true)
  (a15:PySem.W.nsIn K mainGlobals "_law_term" = some (some (.ref x15))) (l15:K.lookup x15=some ⟨oc15,od15,.func (PySem.W.fnOf "_law_term" "_law_term" (defArgs s_qterm) (defBody s_qterm) (defScope s_qterm) .none kV15 dc15 pm15 an15 cd15 ct15),sl15⟩) (c15:PySem.W.codeIn K cd15 "_law_term" = true) (k15:PySem.W.keepIn K (.ref x15)=true)
  (a16:PySem.W.nsIn K mainGlobals "_law_names_in" = some (some (.ref x16))) (l16:K.lookup x16=some ⟨oc16,od16,.func (PySem.W.fnOf "_law_names_in" "_law_names_in" (defArgs s_qnames_in) (defBody s_qnames_in) (defScope s_qnames_in) .none kV16 dc16 pm16 an16 cd16 ct16),sl16⟩) (c16:PySem.W.codeIn K cd16 "_law_names_in" = true) (k16:PySem.W.keepIn K (.ref x16)=true)
  (a17:PySem.W.nsIn K mainGlobals "_law_deed" = some (some (.ref x17))) (l17:K.lookup x17=some ⟨oc17,od17,.func (PySem.W.fnOf "_law_deed" "_law_deed" (defArgs s_qdeed) (defBody s_qdeed) (defScope s_qdeed) .none kV17 dc17 pm17 an17 cd17 ct17),sl17⟩) (c17:PySem.W.codeIn K cd17 "_law_deed" = true) (k17:PySem.W.keepIn K (.ref x17)=true)
  (a18:PySem.W.nsIn K mainGlobals "_law_block" = some (some (.ref x18))) (l18:K.lookup x18=some ⟨oc18,od18,.func (PySem.W.fnOf "_law_block" "_law_block" (defArgs s_qblock) (defBody s_qblock) (defScope s_qblock) .none kV18 dc18 pm18 an18 cd18 ct18),sl18⟩) (c18:PySem.W.codeIn K cd18 "_law_block" = true) (k18:PySem.W.keepIn K (.ref x18)=true)
  (a19:PySem.W.nsIn K mainGlobals "_law_program" = some (some (.ref x19))) (l19:K.lookup x19=some ⟨oc19,od19,.func (PySem.W.fnOf "_law_program" "_law_program" (defArgs s_qprogram) (defBody s_qprogram) (defScope s_qprogram) .none kV19 dc19 pm19 an19 cd19 ct19),sl19⟩) (c19:PySem.W.codeIn K cd19 "_law_program" = true) (k19:PySem.W.keepIn K (.ref x19)=true)
  (a20:PySem.W.nsIn K mainGlobals "_law_store" = some (some (.ref x20))) (l20:K.lookup x20=some ⟨oc20,od20,.func (PySem.W.fnOf "_law_store" "_law_store" (defArgs s_qstore) (defBody s_qstore) (defScope s_qstore) .none kV20 dc20 pm20 an20 cd20 ct20),sl20⟩) (c20:PySem.W.codeIn K cd20 "_law_store" = true) (k20:PySem.W.keepIn K (.ref x20)=true)
  (a21:PySem.W.nsIn K mainGlobals "_law_flows" = some (some (.ref x21))) (l21:K.lookup x21=some ⟨oc21,od21,.func (PySem.W.fnOf "_law_flows" "_law_flows" (defArgs s_qflows) (defBody s_qflows) (defScope s_qflows) .none kV21 dc21 pm21 an21 cd21 ct21),sl21⟩) (c21:PySem.W.codeIn K cd21 "_law_flows" = true) (k21:PySem.W.keepIn K (.ref x21)=true)
  (a22:PySem.W.nsIn K mainGlobals "_law_goal" = some (some (.ref x22))) (l22:K.lookup x22=some ⟨oc22,od22,.func (PySem.W.fnOf "_law_goal" "_law_goal" (defArgs s_qgoal) (defBody s_qgoal) (defScope s_qgoal) .none kV22 dc22 pm22 an22 cd22 ct22),sl22⟩) (c22:PySem.W.codeIn K cd22 "_law_goal" = true) (k22:PySem.W.keepIn K (.ref x22)=true)
  (a23:PySem.W.nsIn K mainGlobals "law" = some (some (.ref x23))) (l23:K.lookup x23=some ⟨oc23,od23,.func (PySem.W.fnOf "law" "law" (defArgs s_law) (defBody s_law) (defScope s_law) .none kV23 dc23 pm23 an23 cd23 ct23),sl23⟩) (c23:PySem.W.codeIn K cd23 "law" = true) (k23:PySem.W.keepIn K (.ref x23)=true)
  (z0:PySem.W.nsIn K mainGlobals "all" = some none)
  (z1:PySem.W.nsIn K mainGlobals "bool" = some none)
  (z2:PySem.W.nsIn K mainGlobals "dict" = some none)
  (z3:PySem.W.nsIn K mainGlobals "enumerate" = some none)
  (z4:PySem.W.nsIn K mainGlobals "int" = some none)
  (z5:PySem.W.nsIn K mainGlobals "isinstance" = some none)
  (z6:PySem.W.nsIn K mainGlobals "len" = some none)
  (z7:PySem.W.nsIn K mainGlobals "list" = some none)
  (z8:PySem.W.nsIn K mainGlobals "max" = some none)
  (z9:PySem.W.nsIn K mainGlobals "range" = some none)
  (z10:PySem.W.nsIn K mainGlobals "set" = some none)
  (z11:PySem.W.nsIn K mainGlobals "sorted" = some none)
  (z12:PySem.W.nsIn K mainGlobals "tuple" = some none)
  (z13:PySem.W.nsIn K mainGlobals "zip" = some none)
  (gc0:PySem.W.nsIn K mainGlobals "PAIRING" = some (some (.ref ga0))) (gl0:K.lookup ga0=some { cls:=.type "tuple",data:=.seq #[.str (Str.ofString "sum") gt0_0,.str (Str.ofString "times") gt0_1,.str (Str.ofString "less") gt0_2] gn0 })
  : ∃fd:FuncData,(∀(s:Shared) (v:Value),BindsTo s fd ⟨[v],[]⟩ [("_law_script",v)])∧∀base:Heap,K.In base→base.Ns mainGlobals mg→FnOk l.prog w K mg base CX0 60 fa fd ["_law_script"] (spLaw K):=by
 have e:=hfa.symm.trans (PySem.W.mg_of X G a23)
 cases e
 have F0:=EY (st:=s_names_of) l0 c0 k0
 have B0:=F0.binds (ps:=["program"]) fun _ _ _ _ _ _ us hl=>by obtain⟨_,rfl⟩:=len1 hl;rfl
 have F1:=EY (st:=s_names_in_term) l1 c1 k1
 have B1:=F1.binds (ps:=["term"]) fun _ _ _ _ _ _ us hl=>by obtain⟨_,rfl⟩:=len1 hl;rfl
 have F2:=EY (st:=s_parts_of) l2 c2 k2
 have B2:=F2.binds (ps:=["part"]) fun _ _ _ _ _ _ us hl=>by obtain⟨_,rfl⟩:=len1 hl;rfl
 have F3:=EY (st:=s_flows) l3 c3 k3
 have B3:=F3.binds (ps:=["program"]) fun _ _ _ _ _ _ us hl=>by obtain⟨_,rfl⟩:=len1 hl;rfl
 have F4:=EY (st:=s_lets) l4 c4 k4
 have B4:=F4.binds (ps:=["program","house"]) fun _ _ _ _ _ _ us hl=>by obtain⟨_,_,rfl⟩:=len2 hl;rfl
 have F5:=EY (st:=s_seen) l5 c5 k5
 have B5:=F5.binds (ps:=["store","house","level"]) fun _ _ _ _ _ _ us hl=>by obtain⟨_,_,_,rfl⟩:=fX hl;rfl
 have F6:=EY (st:=s_gather_flows) l6 c6 k6
 have B6:=F6.binds (ps:=["block","choosing","found"]) fun _ _ _ _ _ _ us hl=>by obtain⟨_,_,_,rfl⟩:=fX hl;rfl
 have F7:=EY (st:=s_add_flows) l7 c7 k7
 have B7:=F7.binds (ps:=["names","target","found"]) fun _ _ _ _ _ _ us hl=>by obtain⟨_,_,_,rfl⟩:=fX hl;rfl
 have F8:=EY (st:=s_level_of) l8 c8 k8
 have B8:=F8.binds (ps:=["target","levels"]) fun _ _ _ _ _ _ us hl=>by obtain⟨_,_,rfl⟩:=len2 hl;rfl
 have F9:=EY (st:=s_qcell) l9 c9 k9
 have B9:=F9.binds (ps:=["_law_script","_law_k"]) fun _ _ _ _ _ _ us hl=>by obtain⟨_,_,rfl⟩:=len2 hl;rfl
 have F10:=EY (st:=s_qmix) l10 c10 k10
 have B10:=F10.binds (ps:=["_law_cell_here","_law_prime","_law_many"]) fun _ _ _ _ _ _ us hl=>by obtain⟨_,_,_,rfl⟩:=fX hl;rfl
 have F11:=EY (st:=s_qname) l11 c11 k11
 have B11:=F11.binds (ps:=["_law_script","_law_k"]) fun _ _ _ _ _ _ us hl=>by obtain⟨_,_,rfl⟩:=len2 hl;rfl
 have F12:=EY (st:=s_qnames) l12 c12 k12
 have B12:=F12.binds (ps:=["_law_script"]) fun _ _ _ _ _ _ us hl=>by obtain⟨_,rfl⟩:=len1 hl;rfl
 have F13:=EY (st:=s_qlevels) l13 c13 k13
 have B13:=F13.binds (ps:=["_law_script"]) fun _ _ _ _ _ _ us hl=>by obtain⟨_,rfl⟩:=len1 hl;rfl
 have F14:=EY (st:=s_qhouse) l14 c14 k14
 have B14:=F14.binds (ps:=["_law_script"]) fun _ _ _ _ _ _ us hl=>by obtain⟨_,rfl⟩:=len1 hl;rfl
 have F15:=EY (st:=s_qterm) l15 c15 k15
 have B15:=F15.binds (ps:=["_law_names_here","_law_seed","_law_left"]) fun _ _ _ _ _ _ us hl=>by obtain⟨_,_,_,rfl⟩:=fX hl;rfl
 have F16:=EY (st:=s_qnames_in) l16 c16 k16
 have B16:=F16.binds (ps:=["_law_term_here"]) fun _ _ _ _ _ _ us hl=>by obtain⟨_,rfl⟩:=len1 hl;rfl
 have F17:=EY (st:=s_qdeed) l17 c17 k17
 have B17:=F17.binds (ps:=["_law_plan","_law_cell_here","_law_deep","_law_need"]) fun _ _ _ _ _ _ us hl=>by obtain⟨_,_,_,_,rfl⟩:=yK hl;rfl
 have F18:=EY (st:=s_qblock) l18 c18 k18
 have B18:=F18.binds (ps:=["_law_plan","_law_cell_here","_law_deep","_law_need"]) fun _ _ _ _ _ _ us hl=>by obtain⟨_,_,_,_,rfl⟩:=yK hl;rfl
 have F19:=EY (st:=s_qprogram) l19 c19 k19
 have B19:=F19.binds (ps:=["_law_script","_law_k"]) fun _ _ _ _ _ _ us hl=>by obtain⟨_,_,rfl⟩:=len2 hl;rfl
 have F20:=EY (st:=s_qstore) l20 c20 k20
 have B20:=F20.binds (ps:=["_law_script","_law_k"]) fun _ _ _ _ _ _ us hl=>by obtain⟨_,_,rfl⟩:=len2 hl;rfl
 have F21:=EY (st:=s_qflows) l21 c21 k21
 have B21:=F21.binds (ps:=["_law_block_here","_law_around"]) fun _ _ _ _ _ _ us hl=>by obtain⟨_,_,rfl⟩:=len2 hl;rfl
 have F22:=EY (st:=s_qgoal) l22 c22 k22
 have B22:=F22.binds (ps:=["_law_target","_law_levels_here"]) fun _ _ _ _ _ _ us hl=>by obtain⟨_,_,rfl⟩:=len2 hl;rfl
 have F23:=EY (st:=s_law) l23 c23 k23
 have B23:=F23.binds (ps:=["_law_script"]) fun _ _ _ _ _ _ us hl=>by obtain⟨_,rfl⟩:=len1 hl;rfl
 have T:Tp K mg:=⟨PySem.W.mg_none_of X G z0,PySem.W.mg_none_of X G z1,PySem.W.mg_none_of X G z2,PySem.W.mg_none_of X G z3,PySem.W.mg_none_of X G z4,PySem.W.mg_none_of X G z5,PySem.W.mg_none_of X G z6,PySem.W.mg_none_of X G z7,PySem.W.mg_none_of X G z8,PySem.W.mg_none_of X G z9,PySem.W.mg_none_of X G z10,PySem.W.mg_none_of X G z11,PySem.W.mg_none_of X G z12,PySem.W.mg_none_of X G z13,GlAt.strs (PySem.W.mg_of X G gc0) gl0 rfl⟩
 have H:Th K mg:=⟨⟨_,_,F0,B0,PySem.W.mg_of X G a0⟩,⟨_,_,F1,B1,PySem.W.mg_of X G a1⟩,⟨_,_,F2,B2,PySem.W.mg_of X G a2⟩,⟨_,_,F3,B3,PySem.W.mg_of X G a3⟩,⟨_,_,F4,B4,PySem.W.mg_of X G a4⟩,⟨_,_,F5,B5,PySem.W.mg_of X G a5⟩,⟨_,_,F6,B6,PySem.W.mg_of X G a6⟩,⟨_,_,F7,B7,PySem.W.mg_of X G a7⟩,⟨_,_,F8,B8,PySem.W.mg_of X G a8⟩,⟨_,_,F9,B9,PySem.W.mg_of X G a9⟩,⟨_,_,F10,B10,PySem.W.mg_of X G a10⟩,⟨_,_,F11,B11,PySem.W.mg_of X G a11⟩,⟨_,_,F12,B12,PySem.W.mg_of X G a12⟩,⟨_,_,F13,B13,PySem.W.mg_of X G a13⟩,⟨_,_,F14,B14,PySem.W.mg_of X G a14⟩,⟨_,_,F15,B15,PySem.W.mg_of X G a15⟩,⟨_,_,F16,B16,PySem.W.mg_of X G a16⟩,⟨_,_,F17,B17,PySem.W.mg_of X G a17⟩,⟨_,_,F18,B18,PySem.W.mg_of X G a18⟩,⟨_,_,F19,B19,PySem.W.mg_of X G a19⟩,⟨_,_,F20,B20,PySem.W.mg_of X G a20⟩,⟨_,_,F21,B21,PySem.W.mg_of X G a21⟩,⟨_,_,F22,B22,PySem.W.mg_of X G a22⟩,⟨_,_,F23,B23,PySem.W.mg_of X G a23⟩⟩
 refine⟨PySem.W.fnOf "law" "law" (defArgs s_law) (defBody s_law) (defScope s_law) .none kV23 dc23 pm23 an23 cd23 ct23,fun s v=>.of_eq rfl,fun base _ _=>?_⟩
 refine rE (DG F23 sc_law (F:=F_law) rfl rfl rfl (fun cdv A outer s Hh E hr=>jQ T (ds (P:=l.prog) (w:=w) (base:=base) (W:=100000) T H 59) hr)) hlaw
end T
open PySem PySem.W PyProof.Rows
set_option maxRecDepth 100000 in
set_option maxHeartbeats 0 in
theorem PySem.Challenge.cw_whisperwall_k05_what_is_let_holds : PySem.Challenge.rw_whisperwall_k05_what_is_let.Holds := by
 w_on;o_law;k_head;(case hw=>w_witness2)
 k_fill
 refine WL.walk_law (l:=PySem.Challenge.rw_whisperwall_k05_what_is_let) rfl rfl (fun w h Y=>PySem.W.kIn_of Y) ?F
 case F=>
  intro w mg fa h KX G hmg
  refine' T.all_mk T.law_true KX G hmg ?a0 ?l0 ?c0 ?k0 ?a1 ?l1 ?c1 ?k1 ?a2 ?l2 ?c2 ?k2 ?a3 ?l3 ?c3 ?k3 ?a4 ?l4 ?c4 ?k4 ?a5 ?l5 ?c5 ?k5 ?a6 ?l6 ?c6 ?k6 ?a7 ?l7 ?c7 ?k7 ?a8 ?l8 ?c8 ?k8 ?a9 ?l9 ?c9 ?k9 ?a10 ?l10 ?c10 ?k10 ?a11 ?l11 ?c11 ?k11 ?a12 ?l12 ?c12 ?k12 ?a13 ?l13 ?c13 ?k13 ?a14 ?l14 ?c14 ?k14 ?a15 ?l15 ?c15 ?k15 ?a16 ?l16 ?c16 ?k16 ?a17 ?l17 ?c17 ?k17 ?a18 ?l18 ?c18 ?k18 ?a19 ?l19 ?c19 ?k19 ?a20 ?l20 ?c20 ?k20 ?a21 ?l21 ?c21 ?k21 ?a22 ?l22 ?c22 ?k22 ?a23 ?l23 ?c23 ?k23 ?z0 ?z1 ?z2 ?z3 ?z4 ?z5 ?z6 ?z7 ?z8 ?z9 ?z10 ?z11 ?z12 ?z13 ?gc0 ?gl0
  (case a0=>k_is)
  (case l0=>k_is)
  (case c0=>k_is)
  (case k0=>k_is)
  (case a1=>k_is)
  (case l1=>k_is)
  (case c1=>k_is)
  (case k1=>k_is)
  (case a2=>k_is)
  (case l2=>k_is)
  (case c2=>k_is)
  (case k2=>k_is)
  (case a3=>k_is)
  (case l3=>k_is)
  (case c3=>k_is)
  (case k3=>k_is)
  (case a4=>k_is)
  (case l4=>k_is)
  (case c4=>k_is)
  (case k4=>k_is)
  (case a5=>k_is)
  (case l5=>k_is)
  (case c5=>k_is)
  (case k5=>k_is)
  (case a6=>k_is)
  (case l6=>k_is)
  (case c6=>k_is)
  (case k6=>k_is)
  (case a7=>k_is)
  (case l7=>k_is)
  (case c7=>k_is)
  (case k7=>k_is)
  (case a8=>k_is)
  (case l8=>k_is)
  (case c8=>k_is)
  (case k8=>k_is)
  (case a9=>k_is)
  (case l9=>k_is)
  (case c9=>k_is)
  (case k9=>k_is)
  (case a10=>k_is)
  (case l10=>k_is)
  (case c10=>k_is)
  (case k10=>k_is)
  (case a11=>k_is)
  (case l11=>k_is)
  (case c11=>k_is)
  (case k11=>k_is)
  (case a12=>k_is)
  (case l12=>k_is)
  (case c12=>k_is)
  (case k12=>k_is)
  (case a13=>k_is)
  (case l13=>k_is)
  (case c13=>k_is)
  (case k13=>k_is)
  (case a14=>k_is)
  (case l14=>k_is)
  (case c14=>k_is)
  (case k14=>k_is)
  (case a15=>k_is)
  (case l15=>k_is)
  (case c15=>k_is)
  (case k15=>k_is)
  (case a16=>k_is)
  (case l16=>k_is)
  (case c16=>k_is)
  (case k16=>k_is)
  (case a17=>k_is)
  (case l17=>k_is)
  (case c17=>k_is)
  (case k17=>k_is)
  (case a18=>k_is)
  (case l18=>k_is)
  (case c18=>k_is)
  (case k18=>k_is)
  (case a19=>k_is)
  (case l19=>k_is)
  (case c19=>k_is)
  (case k19=>k_is)
  (case a20=>k_is)
  (case l20=>k_is)
  (case c20=>k_is)
  (case k20=>k_is)
  (case a21=>k_is)
  (case l21=>k_is)
  (case c21=>k_is)
  (case k21=>k_is)
  (case a22=>k_is)
  (case l22=>k_is)
  (case c22=>k_is)
  (case k22=>k_is)
  (case a23=>k_is)
  (case l23=>k_is)
  (case c23=>k_is)
  (case k23=>k_is)
  (case z0=>k_is)
  (case z1=>k_is)
  (case z2=>k_is)
  (case z3=>k_is)
  (case z4=>k_is)
  (case z5=>k_is)
  (case z6=>k_is)
  (case z7=>k_is)
  (case z8=>k_is)
  (case z9=>k_is)
  (case z10=>k_is)
  (case z11=>k_is)
  (case z12=>k_is)
  (case z13=>k_is)
  (case gc0=>k_is)
  (case gl0=>k_is)
end
