import PyProof.Rows.All
import Wide.All
import OpenK.AllK
import Wide.FinOn
import Lean
import PyProof.EqAt
import PyProof.EqKinds
import PyProof.TupleCall
import PyProof.CompFree
import PyProof.CompUse
import PyProof.P3Eq
import PyProof.NeData
import PyProof.ZipIter
import PyProof.WalksMore
import KE.LcSums
import KE.KMinKey
import PyProof.Rows.CallKwBuiltin
import PyProof.SetRoads
import PyProof.Rows.SetFrom
import KE.KDictSum
import PyProof.StrWalks
import PySem.Challenge.RW_whisperwall_k01_programs
set_option Elab.async false
set_option linter.all false
set_option maxRecDepth 100000
set_option maxHeartbeats 4000000
noncomputable section
section
namespace L2
open PySem PySem.Spec PyProof.Rows
abbrev Key:=Sum Int Str
def keyIs:Key→Value→Bool
 | .inl k,v=>Value.isInt k v
 | .inr x,v=>Value.isStrOf x v
def keyH(w:World):Key→Int
 | .inl k=>hashInt k
 | .inr x=>hashStr w x
theorem keyIs_shape:∀ {k:Key} {v:Value},keyIs k v=true→(∃ i t,k=Sum.inl i∧v=Value.int i t)∨(∃ x t,k=Sum.inr x∧v=Value.str x t)
 | .inl i,v,h=>by
  obtain⟨t,e⟩:=Value.isInt_shape (k:=i) (v:=v) h
  exact .inl ⟨i,t,rfl,e⟩
 | .inr x,v,h=>by
  obtain⟨t,e⟩:=Value.isStrOf_shape (x:=x) (v:=v) h
  exact .inr ⟨x,t,rfl,e⟩
theorem key_ll(a b:Int):decide ((Sum.inl a:Key)=Sum.inl b)=(a==b):=by
 by_cases e:a=b
 ·subst e;simp
 ·have h:¬ (Sum.inl a:Key)=Sum.inl b:=fun q=>e (Sum.inl.inj q)
  rw[decide_eq_false h]
  exact(beq_eq_false_iff_ne.mpr e).symm
theorem key_rr(a b:Str):decide ((Sum.inr a:Key)=Sum.inr b)=decide (a=b):=by
 by_cases e:a=b
 ·subst e;simp
 ·have h:¬ (Sum.inr a:Key)=Sum.inr b:=fun q=>e (Sum.inr.inj q)
  rw[decide_eq_false h,decide_eq_false e]
theorem key_lr(a:Int)(b:Str):decide ((Sum.inl a:Key)=Sum.inr b)=false:=decide_eq_false (fun q=>nomatch q)
theorem key_rl(a:Str)(b:Int):decide ((Sum.inr a:Key)=Sum.inl b)=false:=decide_eq_false (fun q=>nomatch q)
def mixKind(prog:Program)(w:World):PySem.KeyKind prog w Key where
 is:=keyIs
 hash:=keyH w
 inj:=fun v a b ha hb=>by
  rcases keyIs_shape ha with ⟨i,t,rfl,rfl⟩ | ⟨x,t,rfl,rfl⟩
  ·rcases keyIs_shape hb with ⟨j,u,rfl,e⟩ | ⟨y,u,rfl,e⟩
   ·injection e with e1 _;rw[e1]
   ·exact nomatch e
  ·rcases keyIs_shape hb with ⟨j,u,rfl,e⟩ | ⟨y,u,rfl,e⟩
   ·exact nomatch e
   ·injection e with e1 _;rw[e1]
 byValue:=fun k v h=>by
  rcases keyIs_shape h with ⟨i,t,rfl,rfl⟩ | ⟨x,t,rfl,rfl⟩<;>rfl
 pyHash:=fun hv h=>by
  rcases keyIs_shape hv with ⟨i,t,rfl,rfl⟩ | ⟨x,t,rfl,rfl⟩
  ·exact wpAny_pyHash_int h
  ·exact wpAny_pyHash_str h
 eqBool:=fun hu hv h=>by
  rcases keyIs_shape hu with ⟨i,t,rfl,rfl⟩ | ⟨x,t,rfl,rfl⟩
  ·rcases keyIs_shape hv with ⟨j,u,rfl,rfl⟩ | ⟨y,u,rfl,rfl⟩
   ·rw[key_ll]at h;exact wpAny_eqBool_int h
   ·rw[key_lr]at h;exact SeqAt.EqAt.int_str i t y u _ _ _ _ h
  ·rcases keyIs_shape hv with ⟨j,u,rfl,rfl⟩ | ⟨y,u,rfl,rfl⟩
   ·rw[key_rl]at h;exact SeqAt.EqAt.str_int x t j u _ _ _ _ h
   ·rw[key_rr]at h;exact wpAny_eqBool_str h
 «strs»:=fun k x t v h=>by
  rcases keyIs_shape h with ⟨i,u,rfl,e⟩ | ⟨y,u,rfl,e⟩
  ·exact nomatch e
  ·injection e with e1 _
   subst e1
   cases v<;>rfl
end L2
namespace L2
open PySem PySem.Spec PyProof.Rows
inductive V where
 | non | bl (b:Bool) | int (i:Int) | str (x:Str) | byt (b:Array UInt8) | flt (b:UInt64) | ref (a:Addr) | ty (n:String)
 deriving DecidableEq
def RelV:V→Value→Prop
 | .non,u=>u=Value.none
 | .bl b,u=>u=Value.bool b
 | .int i,u=>∃ t,u=Value.int i t
 | .str x,u=>∃ t,u=Value.str x t
 | .byt b,u=>∃ t,u=Value.bytes b t
 | .flt b,u=>∃ t,u=Value.float b t
 | .ref a,u=>u=Value.ref a
 | .ty n,u=>u=Value.type n
abbrev Vals:List V→List Value→Prop:=Paired RelV
theorem Vals.length{xs:List V}{us:List Value}(r:Vals xs us):xs.length=us.length:=Paired.length r
theorem Vals.get:∀ {xs:List V} {us:List Value} {i:Nat} {x:V},Vals xs us→xs[i]?=some x→∃ u,us[i]?=some u∧RelV x u
 | _,_,_,_,.nil,e=>by simp at e
 | _,_,0,_,.cons r _,e=>by simp at e;subst e;exact⟨_,rfl,r⟩
 | _,_,i+1,x,.cons _ t,e=>by
  obtain⟨u,h1,h2⟩:=Vals.get (i:=i) (x:=x) t (by simpa using e)
  exact⟨u,by simpa using h1,h2⟩
theorem Vals.append:∀ {xs ys:List V} {us ws:List Value},Vals xs us→Vals ys ws→Vals (xs++ys) (us++ws)
 | _,_,_,_,.nil,s=>s
 | _,_,_,_,.cons r t,s=>.cons r (Vals.append t s)
theorem Vals.take:∀ {xs:List V} {us:List Value} (n:Nat),Vals xs us→Vals (xs.take n) (us.take n)
 | _,_,0,_=>.nil
 | _,_,_+1,.nil=>.nil
 | _,_,n+1,.cons r t=>.cons r (Vals.take n t)
theorem Vals.drop:∀ {xs:List V} {us:List Value} (n:Nat),Vals xs us→Vals (xs.drop n) (us.drop n)
 | _,_,0,r=>r
 | _,_,_+1,.nil=>.nil
 | _,_,n+1,.cons _ t=>Vals.drop n t
def RelO:Option V→Option Value→Prop
 | some v,some u=>RelV v u
 | none,none=>True
 | _,_=>False
def KV{κ:Type}:List (κ×V)→List (κ×Value)→Prop:=Paired fun(p:κ×V) (q:κ×Value)=>p.1=q.1∧RelV p.2 q.2
def kV:Key→V
 | .inl i=>.int i
 | .inr x=>.str x
end L2
namespace PySem
open Sem (wp)
open L2
abbrev FK:=Str×Str×(Int ⊕ Str)
def fk2(k:FK):List (Int ⊕ Str):=[.inr k.2.1,k.2.2]
section
variable{prog:Program}{w:World}
def IsFlow(prog:Program)(w:World)(h:Heap)(k:FK)(a:Addr):Prop:=∃ o items n t b,h.get? a=some o∧o.cls=.type "tuple"∧o.data=.seq items n∧items.toList=[.str k.1 t,.ref b]∧IsTupleKey (mixKind prog w) h (fk2 k) b
theorem IsFlow.typeIs{s:Shared}{k:FK}{a:Addr}(x:IsFlow prog w s.heap k a):s.TypeIs (.ref a) "tuple":=let ⟨o,_,_,_,_,ho,hc,_⟩:=x;⟨o,ho,hc⟩
theorem fk_ext{x y:FK}(h1:x.1=y.1)(h2:fk2 x=fk2 y):x=y:=by
 obtain⟨a,b,c⟩:=x
 obtain⟨a',b',c'⟩:=y
 simp only[fk2,List.cons.injEq,Sum.inr.injEq,and_true]at h1 h2
 rw[h1,h2.1,h2.2]
theorem IsFlow.inj{h:Heap}{a:Addr}{x y:FK}(hx:IsFlow prog w h x a)(hy:IsFlow prog w h y a):x=y:=by
 obtain⟨o,items,n,t,b,ho,_,hd,hi,hb⟩:=hx
 obtain⟨o',items',n',t',b',ho',_,hd',hi',hb'⟩:=hy
 obtain rfl:o=o':=Option.some.inj (ho.symm.trans ho')
 rw[hd]at hd'
 injection hd' with h1 _
 subst h1
 rw[hi]at hi'
 simp only[List.cons.injEq,Value.str.injEq,Value.ref.injEq,and_true]at hi'
 obtain⟨⟨e1,_⟩,rfl⟩:=hi'
 exact fk_ext e1 (hb.inj hb')
theorem IsFlow.keeps{h h':Heap}{k:FK}{a d:Addr}{o:Obj}{es ep}(x:IsFlow prog w h k a)(ho:h.get? d=some o)(hd:o.data=.dict es ep)(hs:Heap.SameBut d h h'):IsFlow prog w h' k a:=by
 obtain⟨o',items,n,t,b,ho',hc,hd',hi,hb⟩:=x
 have hne:a≠d:=by
  rintro rfl
  obtain rfl:o'=o:=Option.some.inj (ho'.symm.trans ho)
  rw[hd]at hd';exact nomatch hd'
 exact⟨o',items,n,t,b,(hs.2 a hne).trans ho',hc,hd',hi,hb.keeps ho hd hs⟩
def flowHash(prog:Program)(w:World)(k:FK):Int:=reduceHash (Builtin.Tuple.tupleHashOf [(mixKind prog w).hash (.inr k.1),tupleKeyHash (mixKind prog w) (fk2 k)])
variable{A:Around}{E:Value→Shared→Prop}{s:Shared}
theorem mix_is{x:Str}{t:Tok}:(mixKind prog w).is (.inr x) (.str x t)=true:=by
 show keyIs (.inr x) (.str x t)=true
 simp[keyIs,Value.isStrOf]
theorem wpAny_pyHash_flow{k:FK}{a:Addr}{Q:Int→Shared→Prop}(hu:A.units+10<cLine)(hk:IsFlow prog w s.heap k a)(h:Q (flowHash prog w k) { s with toks:=s.toks+5 }):
  wpAny (model prog w) A (pyHash (.ref a)) Q E s:=by
 have hT:=hk.typeIs
 obtain⟨o,items,n,t,b,ho,_,hd,hi,hb⟩:=hk
 unfold pyHash
 first | unfold pyHashByItsType | skip
 first | refine wpAny_bind (wpAny_cRoomFor_or (.inr (by omega)) ?_) | skip
 refine wpAny_bind (wpAny_specialOf hT F.slot_tuple_hash.lookup ?_)
 show wpAny _ _ (if (some (Value.builtin "tuple.__hash__")==some Value.none)=true then _ else _) Q E s
 rw[if_neg (by rw[beq_builtin_none];exact Bool.false_ne_true)]
 refine wpAny_bind (wpAny_specialOf hT F.slot_tuple_hash.lookup ?_)
 show wpAny _ _ (callSpecialIfBoundUnlessNone? (.ref a) "__hash__" _ >>= _) Q E s
 refine wpAny_bind (wpAny_callSpecialIfBoundUnlessNone?_slot hT F.slot_tuple_hash (wpAny_call_entry F.slot_tuple_hash hT F.entry_tuple_hash ?_ (F.args_tuple_hash_1 _)))
 show wpAny _ _ (Builtin.Tuple.tupleItemsOf (.ref a) >>= _) _ _ s
 refine wpAny_bind (wpAny_tupleItemsOf ho hd ?_)
 refine wpAny_bind ?_
 rw[← Array.forIn_toList,hi]
 rw[List.forIn_cons]
 refine wpAny_bind ?_
 refine wpAny_bind ((mixKind prog w).pyHash (k:=.inr k.1) mix_is ?_)
 refine wpAny_pure ?_
 show wpAny _ _ (forIn [Value.ref b] _ _) _ _ _
 rw[List.forIn_cons]
 refine wpAny_bind ?_
 refine wpAny_bind (wpAny_pyHash_tuple (ks:=fk2 k) (show A.units+1<cLine by omega) hb ?_)
 refine wpAny_pure ?_
 show wpAny _ _ (forIn ([]:List Value) _ _) _ _ _
 rw[List.forIn_nil]
 refine wpAny_pure ?_
 show wpAny _ _ (retInt (Builtin.Tuple.tupleHashOf [(mixKind prog w).hash (.inr k.1),tupleKeyHash (mixKind prog w) (fk2 k)])) _ _ _
 refine wpAny_ret_mkInt ?_
 show wpAny _ _ (if (decide (-(2:Int) ^ 63≤Builtin.Tuple.tupleHashOf [(mixKind prog w).hash (.inr k.1),tupleKeyHash (mixKind prog w) (fk2 k)])&&decide (Builtin.Tuple.tupleHashOf [(mixKind prog w).hash (.inr k.1),tupleKeyHash (mixKind prog w) (fk2 k)]<2 ^ 63))=true then _ else _) Q E _
 unfold flowHash reduceHash at h
 by_cases hr:(decide (-(2:Int) ^ 63≤Builtin.Tuple.tupleHashOf [(mixKind prog w).hash (.inr k.1),tupleKeyHash (mixKind prog w) (fk2 k)])&&decide (Builtin.Tuple.tupleHashOf [(mixKind prog w).hash (.inr k.1),tupleKeyHash (mixKind prog w) (fk2 k)]<2 ^ 63))=true
 ·rw[if_pos hr]
  rw[if_pos hr]at h
  exact wpAny_pure (by simpa[Nat.add_assoc,fk2] using h)
 ·rw[if_neg hr]
  rw[if_neg hr]at h
  exact wpAny_bind (wpAny_rule (wpAny_pure (by simpa[Nat.add_assoc,fk2] using h)))
theorem flow_eq_tree{x y:FK}{a b:Addr}{P:Fin→Shared→Prop}(hu:A.units+5<cLine)(hx:IsFlow prog w s.heap x a)(hy:IsFlow prog w s.heap y b)(h:P (.done (.ret (.bool (decide (x=y))))) s):
  wpAny (model prog w) A (Builtin.«tuple.__eq__» ⟨[.ref a,.ref b],[]⟩) P E s:=by
 have hTb:=hy.typeIs
 obtain⟨oa,xs,na,ta,ba,hoa,_,hda,hia,hka⟩:=hx
 obtain⟨ob,ys,nb,tb,bb,hob,_,hdb,hib,hkb⟩:=hy
 show wpAny _ _ (isInstance (.ref b) (.type "tuple") >>= _) _ _ s
 refine wpAny_bind (wpAny_isInstance hTb isSubtype_tuple_tuple ?_)
 simp only[Bool.not_true,Bool.false_eq_true,if_false]
 refine wpAny_bind (wpAny_tupleItemsOf hoa hda ?_)
 refine wpAny_bind (wpAny_tupleItemsOf hob hdb ?_)
 refine wpAny_bind ?_
 have hsz:xs.size==ys.size:=by
  have h1:xs.size=2:=by rw[← Array.length_toList,hia];rfl
  have h2:ys.size=2:=by rw[← Array.length_toList,hib];rfl
  simp[h1,h2]
 rw[hia,hib]
 show wpAny _ _ (forIn [(Value.str x.1 ta,Value.str y.1 tb),(Value.ref ba,Value.ref bb)] _ _) _ _ _
 rw[List.forIn_cons]
 refine wpAny_bind ?_
 refine wpAny_bind ((mixKind prog w).eqBool (a:=.inr x.1) (b:=.inr y.1) mix_is mix_is ?_)
 by_cases h1:x.1=y.1
 ·rw[decide_eq_true (show (Sum.inr x.1:Key)=.inr y.1 by rw[h1])]
  simp only[Bool.not_true,Bool.false_eq_true,if_false]
  refine wpAny_pure ?_
  show wpAny _ _ (forIn [(Value.ref ba,Value.ref bb)] _ _) _ _ _
  rw[List.forIn_cons]
  refine wpAny_bind ?_
  refine wpAny_bind (wpAny_eqBool_tuple (x:=fk2 x) (y:=fk2 y) (by omega) hka hkb ?_)
  by_cases h2:fk2 x=fk2 y
  ·rw[decide_eq_true h2]
   simp only[Bool.not_true,Bool.false_eq_true,if_false]
   refine wpAny_pure ?_
   show wpAny _ _ (forIn ([]:List (Value×Value)) _ _) _ _ _
   rw[List.forIn_nil]
   refine wpAny_pure (wpAny_pure ?_)
   rw[decide_eq_true (fk_ext h1 h2)]at h
   show P (.done (.ret (.bool (xs.size==ys.size)))) s
   rw[hsz];exact h
  ·rw[decide_eq_false h2]
   simp only[Bool.not_false,if_true]
   rw[decide_eq_false fun e=>h2 (by rw[e])]at h
   exact wpAny_bind (wpAny_pure (wpAny_pure (wpAny_pure (wpAny_pure h))))
 ·rw[decide_eq_false (show ¬ (Sum.inr x.1:Key)=.inr y.1 from fun e=>h1 (Sum.inr.inj e))]
  simp only[Bool.not_false,if_true]
  rw[decide_eq_false fun e=>h1 (by rw[e])]at h
  exact wpAny_bind (wpAny_pure (wpAny_pure (wpAny_pure (wpAny_pure h))))
theorem wpAny_eqBool_flow{x y:FK}{a b:Addr}{Q:Bool→Shared→Prop}(hu:A.units+10<cLine)(hx:IsFlow prog w s.heap x a)(hy:IsFlow prog w s.heap y b)(h:Q (decide (x=y)) s):
  wpAny (model prog w) A (eqBool (.ref a) (.ref b)) Q E s:=by
 unfold eqBool
 try with_reducible refine wpAny_holding ?_
 show wpAny _ _ (if (Value.ref a==Value.ref b)=true then _ else _) Q E s
 by_cases hab:(Value.ref a==Value.ref b)=true
 ·rw[if_pos hab]
  have e:a=b:=by have:=eq_of_beq hab;injection this
  subst e
  obtain rfl:=hx.inj hy
  exact wpAny_bind (wpAny_rule (wpAny_pure (by simpa using h)))
 ·rw[if_neg hab]
  exact wpAny_bind (wpAny_richCompare_same_room (op:=.Eq) hx.typeIs hy.typeIs F.slot_tuple_eq
   (wpAny_call_entry F.slot_tuple_eq hx.typeIs F.entry_tuple_eq (flow_eq_tree (by show A.units+1+5<cLine;omega) hx hy ⟨_,rfl,(fun e=>nomatch e),wpAny_truthy_bool h⟩) (F.args_tuple_eq_2 _ _)) (by omega))
theorem quiet_inner{ks:List Key}{a:Addr}{n:Nat}{Q:Bool→Shared→Prop}(hk:IsTupleKey (mixKind prog w) s.heap ks a)(h:Q true s):wpAny (model prog w) A (eqIsQuiet (n+1) (.ref a)) Q E s:=by
 have hT:=hk.typeIs
 obtain⟨o,items,n,ho,_,hd,hi⟩:=hk
 unfold eqIsQuiet
 refine wpAny_bind (wpAny_specialOf hT F.slot_tuple_eq.lookup ?_)
 show wpAny _ _ (isInstance (.ref a) (.type "tuple") >>= _) _ _ s
 refine wpAny_bind (wpAny_isInstance hT isSubtype_tuple_tuple ?_)
 simp only[Bool.not_true,Bool.false_eq_true,if_false]
 refine wpAny_bind (wpAny_seqItems ho hd ?_)
 refine wpAny_bind ?_
 show wpAny _ _ (forIn items _ _) _ _ s
 rw[← Array.forIn_toList]
 refine wpAny_forIn_list _ (fun rest r s'=>r.1=none∧s'=s∧∀ v∈rest,carriedByValue v=true) _ ?_ ?_ _ _ ⟨rfl,rfl,hi.byValue⟩
 ·rintro v rest r s' ⟨hr,rfl,hall⟩
  rw[eqIsQuiet_byValue _ (hall v List.mem_cons_self)]
  refine wpAny_bind (wpAny_pure ?_)
  simp only[Bool.not_true,Bool.false_eq_true,if_false]
  exact wpAny_pure ⟨rfl,rfl,fun u hu'=>hall u (List.mem_cons_of_mem _ hu')⟩
 ·rintro ⟨r1,r2⟩ s' ⟨hr,rfl,_⟩
  simp only at hr
  subst hr
  exact wpAny_pure h
theorem wpAny_eqIsQuiet_flow{k:FK}{a:Addr}{Q:Bool→Shared→Prop}(hk:IsFlow prog w s.heap k a)(h:Q true s):wpAny (model prog w) A (eqIsQuiet 8 (.ref a)) Q E s:=by
 have hT:=hk.typeIs
 obtain⟨o,items,n,t,b,ho,_,hd,hi,hb⟩:=hk
 unfold eqIsQuiet
 refine wpAny_bind (wpAny_specialOf hT F.slot_tuple_eq.lookup ?_)
 show wpAny _ _ (isInstance (.ref a) (.type "tuple") >>= _) _ _ s
 refine wpAny_bind (wpAny_isInstance hT isSubtype_tuple_tuple ?_)
 simp only[Bool.not_true,Bool.false_eq_true,if_false]
 refine wpAny_bind (wpAny_seqItems ho hd ?_)
 refine wpAny_bind ?_
 show wpAny _ _ (forIn items _ _) _ _ s
 rw[← Array.forIn_toList,hi,List.forIn_cons]
 refine wpAny_bind ?_
 rw[eqIsQuiet_byValue _ rfl]
 refine wpAny_bind (wpAny_pure ?_)
 simp only[Bool.not_true,Bool.false_eq_true,if_false]
 refine wpAny_pure ?_
 show wpAny _ _ (forIn [Value.ref b] _ _) _ _ _
 rw[List.forIn_cons]
 refine wpAny_bind ?_
 refine wpAny_bind (quiet_inner (n:=6) hb ?_)
 simp only[Bool.not_true,Bool.false_eq_true,if_false]
 refine wpAny_pure ?_
 show wpAny _ _ (forIn ([]:List Value) _ _) _ _ _
 rw[List.forIn_nil]
 exact wpAny_pure (wpAny_pure h)
end
def flowKind(prog:Program)(w:World):HeapKind prog w FK where
 is:=IsFlow prog w
 hash:=flowHash prog w
 draws:=fun _=>5
 room:=fun A=>A.units+10<cLine
 inj:=fun hx hy=>hx.inj hy
 keeps:=fun x ho hd hs=>x.keeps ho hd hs
 pyHash:=fun hu hk h=>wpAny_pyHash_flow hu hk (by simpa using h)
 eqBool:=fun hu hx hy h=>wpAny_eqBool_flow hu hx hy h
 quiet:=fun hk h=>wpAny_eqIsQuiet_flow hk h
end PySem
namespace L2
open PySem PySem.Spec PyProof.Rows
inductive HO where
  | dF (xs:List (FK×Addr))
  | lst (xs:List V)
  | tup (xs:List V)
  | dK (kvs:List (Key×V)) | dT (kvs:List (List Key×V))
  | set (S:Int→Bool) (n:Nat)
  | ins (C dx:Addr) (fs:List (Str×V))
  | own (x:Addr)
  | xd (fs:List (Str×V))
  | met (f x:Addr)
  | rng (lo hi:Int)
  | frz (o:Obj) (u:HO)
  | tbl (ps:Array Value)
  | ext (φ:Heap→Prop)
abbrev Hp:=Addr→Option HO
def upd(H:Hp)(a:Addr)(o:HO):Hp:=fun b=>if b=a then some o else H b
theorem upd_same{H:Hp}{a:Addr}{o:HO}:upd H a o a=some o:=by unfold upd;rw[if_pos rfl]
theorem upd_ne{H:Hp}{a b:Addr}{o:HO}(h:b≠a):upd H a o b=H b:=by unfold upd;rw[if_neg h]
theorem upd_upd{H:Hp}{a:Addr}{o u:HO}:upd (upd H a o) a u=upd H a u:=by
 funext b;unfold upd;split<;>rfl
theorem ne_of_none{H:Hp}{a b:Addr}{o:HO}(h:H a=some o)(h':H b=none):a≠b:=by
 intro e;subst e;rw[h]at h';cases h'
section
variable(P:Program)(w:World)
def ObjOk(H:Hp)(h:Heap)(a:Addr):HO→Prop
 | .lst xs=>xs.length≤sizeLine∧∃ (its:List Value) (n:Nat),Vals xs its∧h.get? a=some { cls:=.type "list",data:=.seq its.toArray n }
 | .tup xs=>xs.length≤sizeLine∧∃ its:List Value,Vals xs its∧IsTup h a its.toArray
 | .dK kvs=>kvs.length≤sizeLine∧(a==sysModules)=false∧∃ vs,KV kvs vs∧h.DictOf (mixKind P w) a vs
 | .dT kvs=>kvs.length≤sizeLine∧(a==sysModules)=false∧∃ xs:List (List Key×Addr×Value),
   Paired (fun(p:List Key×V) (q:List Key×Addr×Value)=>p.1=q.1∧H q.2.1=some (.tup (p.1.map kV))∧RelV p.2 q.2.2) kvs xs∧
   ∃ o es ep,h.get? a=some o∧o.ExactDict∧o.data=.dict es ep∧es.toList=xs.map (entryOfKey (tupleKind (mixKind P w)))∧(xs.map (·.1)).Nodup
 | .dF xs=>xs.length≤sizeLine∧(a==sysModules)=false∧∃ o es ep,h.get? a=some o∧o.ExactDict∧o.data=.dict es ep∧es.toList=xs.map (fun x=>entryOfKey (flowKind P w) (x.1,x.2,.bool true))∧(xs.map (·.1)).Nodup
 | .set S n=>h.SetOf (intKind P w) a S n
 | .ins C dx fs=>H dx=some (.own a)∧fs.length≤1000∧dx≠a∧h.get? a=some (PySem.W.instObj C dx)∧
   ∃ mA,h.Ns1 dx mA∧(∀ f,RelO (fs.lookup f) (mA f))∧PySem.Within mA (fs.map (·.1))
 | .own _=>∃ o,h.get? a=some o
 | .xd fs=>∃ mA,h.Ns1 a mA∧∀ f,RelO (fs.lookup f) (mA f)
 | .rng lo hi=>∃ t u v,h.get? a=some { cls:=.type "range",data:=.fields #[.int lo t,.int hi u,.int 1 v] }
 | .frz o u=>h.get? a=some o∧ObjOk H h a u
 | .tbl ps=>h.get? a=some { cls:=.none,data:=.fields ps }
 | .met f x=>h.get? a=some (PySem.W.methodObj (.ref f) (.ref x))
 | .ext φ=>φ h∧(∃ o,h.get? a=some o)∧∀ h1 h2:Heap,φ h1→(∀ o,h1.get? a=some o→h2.get? a=some o)→φ h2
def HOk(H:Hp)(h:Heap):Prop:=∀ a o,H a=some o→ObjOk P w H h a o
end
section
variable{P:Program}{w:World}{H H':Hp}{h h':Heap}{a:Addr}{o:HO}
theorem ObjOk.lt(x:ObjOk P w H h a o):a<h.objs.size:=by
 cases o with
 | lst xs=>obtain⟨_,_,_,_,e⟩:=x;exact Heap.lt_size e
 | tup xs=>obtain⟨_,_,_,p⟩:=x;exact p.lt
 | dK kvs=>obtain⟨_,_,_,_,o,_,_,e,_⟩:=x;exact Heap.lt_size e
 | dT kvs=>obtain⟨_,_,_,_,o,_,_,e,_⟩:=x;exact Heap.lt_size e
 | dF kvs=>obtain⟨_,_,o,_,_,e,_⟩:=x;exact Heap.lt_size e
 | set S n=>obtain⟨o,_,_,_,e,_⟩:=x;exact Heap.lt_size e
 | ins C dx fs=>obtain⟨_,_,_,e,_⟩:=x;exact Heap.lt_size e
 | own y=>obtain⟨_,e⟩:=x;exact Heap.lt_size e
 | xd fs=>obtain⟨_,⟨_,_,_,e,_⟩,_⟩:=x;exact Heap.lt_size e
 | rng lo hi=>obtain⟨_,_,_,e⟩:=x;exact Heap.lt_size e
 | frz ob u=>obtain⟨e,_⟩:=x;exact Heap.lt_size e
 | tbl ps=>exact Heap.lt_size (show h.get? a=some _ from x)
 | met f y=>exact Heap.lt_size (show h.get? a=some _ from x)
 | ext φ=>obtain⟨_,⟨_,e⟩,_⟩:=x;exact Heap.lt_size e
theorem Paired.mapP{α β:Type}{F G:α→β→Prop}:∀ {l₁:List α} {l₂:List β},Paired F l₁ l₂→(∀ a b,F a b→G a b)→Paired G l₁ l₂
 | _,_,.nil,_=>.nil
 | _,_,.cons r t,f=>.cons (f _ _ r) (Paired.mapP t f)
theorem ObjOk.stay(x:ObjOk P w H h a o)(k:∀ b u,(b=a∨H b=some (.own a))→h.get? b=some u→h'.get? b=some u)
  (ho:∀ b,H b=some (.own a)→H' b=some (.own a)) (ht:∀ b xs,H b=some (.tup xs)→H' b=some (.tup xs)):ObjOk P w H' h' a o:=by
 induction o with
 | lst xs=>obtain⟨z,its,n,r,e⟩:=x;exact⟨z,its,n,r,k _ _ (.inl rfl) e⟩
 | tup xs=>obtain⟨z,its,r,ob,e,c⟩:=x;exact⟨z,its,r,ob,k _ _ (.inl rfl) e,c⟩
 | dK kvs=>obtain⟨z,y,vs,r,ob,es,ep,e,c⟩:=x;exact⟨z,y,vs,r,ob,es,ep,k _ _ (.inl rfl) e,c⟩
 | dT kvs=>
  obtain⟨z,y,xs,r,ob,es,ep,e,c⟩:=x
  exact⟨z,y,xs,Paired.mapP r fun p q z=>⟨z.1,ht _ _ z.2.1,z.2.2⟩,ob,es,ep,k _ _ (.inl rfl) e,c⟩
 | dF kvs=>obtain⟨z,y,ob,es,ep,e,c⟩:=x;exact⟨z,y,ob,es,ep,k _ _ (.inl rfl) e,c⟩
 | set S n=>obtain⟨ob,es,ep,t,e,c⟩:=x;exact⟨ob,es,ep,t,k _ _ (.inl rfl) e,c⟩
 | ins C dx fs=>
  obtain⟨d,z,ne,e,mA,⟨od,es,ep,e2,c⟩,r⟩:=x
  exact⟨ho _ d,z,ne,k _ _ (.inl rfl) e,mA,⟨od,es,ep,k _ _ (.inr d) e2,c⟩,r⟩
 | own y=>obtain⟨ob,e⟩:=x;exact⟨ob,k _ _ (.inl rfl) e⟩
 | xd fs=>obtain⟨mA,⟨od,es,ep,e,c⟩,r⟩:=x;exact⟨mA,⟨od,es,ep,k _ _ (.inl rfl) e,c⟩,r⟩
 | rng lo hi=>obtain⟨t,u,v,e⟩:=x;exact⟨t,u,v,k _ _ (.inl rfl) e⟩
 | frz ob u ih=>obtain⟨e,q⟩:=x;exact⟨k _ _ (.inl rfl) e,ih q⟩
 | tbl ps=>
  have e:h.get? a=some { cls:=.none,data:=.fields ps }:=x
  show h'.get? a=some { cls:=.none,data:=.fields ps }
  exact k a _ (.inl rfl) e
 | met f y=>
  have e:h.get? a=some (PySem.W.methodObj (.ref f) (.ref y)):=x
  show h'.get? a=some (PySem.W.methodObj (.ref f) (.ref y))
  exact k a _ (.inl rfl) e
 | ext φ=>obtain⟨p,⟨o,e⟩,st⟩:=x;exact⟨st _ _ p fun o q=>k _ _ (.inl rfl) q,⟨o,k _ _ (.inl rfl) e⟩,st⟩
theorem HOk.lt(x:HOk P w H h)(e:H a=some o):a<h.objs.size:=(x a o e).lt
theorem HOk.fresh(x:HOk P w H h)(e:h.objs.size≤a):H a=none:=by
 cases q:H a with
 | none=>rfl
 | some u=>exact absurd (Nat.lt_of_lt_of_le (x.lt q) e) (Nat.lt_irrefl _)
theorem HOk.kept(x:HOk P w H h)(k:∀ b u,h.get? b=some u→h'.get? b=some u):HOk P w H h':=fun a o e=>
 (x a o e).stay (fun b u _ q=>k b u q) (fun _ q=>q) fun _ _ q=>q
theorem HOk.laid(x:HOk P w H h)(k:∀ b u,h.get? b=some u→h'.get? b=some u)(hp:h.objs.size≤a)(new:ObjOk P w (upd H a o) h' a o):HOk P w (upd H a o) h':=fun b u e=>by
 have hn:=x.fresh hp
 by_cases hb:b=a
 ·subst hb;rw[upd_same]at e;cases e;exact new
 ·rw[upd_ne hb]at e
  exact(x b u e).stay (fun c v _ q=>k c v q) (fun c q=>by rw[upd_ne (ne_of_none q hn)];exact q) fun c xs q=>by rw[upd_ne (ne_of_none q hn)];exact q
end
def Rd(H:Hp)(a:Addr)(u:HO):Prop:=H a=some u∨∃ o,H a=some (.frz o u)
theorem Rd.ok{P:Program}{w:World}{H:Hp}{h:Heap}{a:Addr}{u:HO}(r:Rd H a u)(x:HOk P w H h):ObjOk P w H h a u:=by
 rcases r with r | ⟨o,r⟩
 ·exact x a u r
 ·obtain⟨_,q⟩:=x a _ r
  exact q
def Mut:Option HO→Prop
 | some (.lst _)=>True
 | some (.dK _)=>True
 | some (.dT _)=>True
 | some (.dF _)=>True
 | some (.set _ _)=>True
 | some (.ins _ _ _)=>True
 | some (.ext _)=>True
 | _=>False
section
variable{P:Program}{w:World}{H:Hp}{h h':Heap}{x e:Addr}{o':HO}
theorem HOk.write(ok:HOk P w H h)(mu:Mut (H x))(he:e=x∨H e=some (.own x))(k:∀ b u,b≠e→h.get? b=some u→h'.get? b=some u)(heo:∃ u,h'.get? e=some u)
  (new:ObjOk P w (upd H x o') h' x o'):HOk P w (upd H x o') h':=fun b u q=>by
 have nown:∀ c y,H c=some (.own y)→c≠x:=fun c y r z=>by subst z;rw[r]at mu;exact mu
 have ntup:∀ c xs,H c=some (.tup xs)→c≠x:=fun c xs r z=>by subst z;rw[r]at mu;exact mu
 by_cases hb:b=x
 ·subst hb;rw[upd_same]at q;cases q;exact new
 ·rw[upd_ne hb]at q
  by_cases hbe:b=e
  ·have q':H b=some (.own x):=by
    rcases he with z | z
    ·exact absurd (hbe.trans z) hb
    ·rw[hbe];exact z
   rw[q]at q';cases q'
   obtain⟨v,hv⟩:=heo
   exact⟨v,by rw[hbe];exact hv⟩
  ·refine(ok b u q).stay (fun c v hc r=>k c v ?_ r) (fun c r=>by rw[upd_ne (nown c b r)];exact r) fun c xs r=>by rw[upd_ne (ntup c xs r)];exact r
   rcases hc with rfl | hc
   ·exact hbe
   ·rintro rfl
    rcases he with z | z
    ·exact nown c b hc z
    ·rw[hc]at z;cases z;exact hb rfl
end
structure Un(fs ex:List Addr)(H H':Hp)(h h':Heap):Prop where
 keep:∀ b o,h.get? b=some o→H b=none→b∉fs→b∉ex→h'.get? b=some o
 slot:∀ b o,h.get? b=some o→H b=none→b∈fs→b∉ex→∃ sl,h'.get? b=some { o with slots:=sl }
 free:∀ b o,h.get? b=some o→H b=none→b∉ex→H' b=none
 there:∀ b o,h.get? b=some o→b∉ex→∃ o',h'.get? b=some o'
 tups:∀ b xs,H b=some (.tup xs)→H' b=some (.tup xs)
 frzs:∀ b o u,H b=some (.frz o u)→H' b=some (.frz o u)
 tbls:∀ b ps,H b=some (.tbl ps)→∃ more,H' b=some (.tbl (ps++more))
section
variable{fs fs' ex ex':List Addr}{H H1 H2:Hp}{h h1 h2 h':Heap}{a x e:Addr}{o:HO}
theorem Un.any(u:Un fs ex H H1 h h1){b:Addr}{ob:Obj}(q:h.get? b=some ob)(n:H b=none)(hx:b∉ex):∃ sl,h1.get? b=some { ob with slots:=sl }:=by
 by_cases hb:b∈fs
 ·exact u.slot b ob q n hb hx
 ·exact⟨ob.slots,u.keep b ob q n hb hx⟩
theorem Un.kept(k:∀ b u,h.get? b=some u→h'.get? b=some u):Un fs ex H H h h':=
 ⟨fun b ob q _ _ _=>k b ob q,fun b ob q _ _ _=>⟨ob.slots,k b ob q⟩,fun _ _ _ n _=>n,fun b ob q _=>⟨ob,k b ob q⟩,fun _ _ q=>q,fun _ _ _ q=>q,fun _ ps q=>⟨#[],by rw[q];simp⟩⟩
theorem Un.refl:Un fs ex H H h h:=Un.kept fun _ _ q=>q
theorem Un.laid(k:∀ b u,h.get? b=some u→h'.get? b=some u)(hp:h.objs.size≤a)(hn:H a=none):Un fs ex H (upd H a o) h h' where
 keep:=fun b u q _ _ _=>k b u q
 slot:=fun b u q _ _ _=>⟨u.slots,k b u q⟩
 free:=fun b u q n _=>by rw[upd_ne (Nat.ne_of_lt (Nat.lt_of_lt_of_le (Heap.lt_size q) hp))];exact n
 there:=fun b u q _=>⟨u,k b u q⟩
 tups:=fun b xs q=>by rw[upd_ne (ne_of_none q hn)];exact q
 frzs:=fun b u xs q=>by rw[upd_ne (ne_of_none q hn)];exact q
 tbls:=fun b ps q=>⟨#[],by rw[upd_ne (ne_of_none q hn),q];simp⟩
theorem Un.write(mu:Mut (H x))(he:e=x∨H e=some (.own x))(k:∀ b u,b≠e→h.get? b=some u→h'.get? b=some u)(heo:∃ u,h'.get? e=some u):Un fs ex H (upd H x o) h h':=by
 have hx:∀ b,H b=none→b≠x:=fun b n z=>by subst z;rw[n]at mu;exact mu
 have hb:∀ b,H b=none→b≠e:=fun b n z=>by
  subst z
  rcases he with r | r
  ·exact hx b n r
  ·rw[n]at r;cases r
 have hm:∀ b u,H b=some u→¬ Mut (some u)→b≠x:=fun b u q nm z=>by subst z;rw[q]at mu;exact nm mu
 refine⟨fun b u q n _ _=>k b u (hb b n) q,fun b u q n _ _=>⟨u.slots,k b u (hb b n) q⟩,fun b u q n _=>by rw[upd_ne (hx b n)];exact n,fun b u q _=>?_,
  fun b xs q=>by rw[upd_ne (hm b _ q fun z=>z)];exact q,fun b u xs q=>by rw[upd_ne (hm b _ q fun z=>z)];exact q,fun b ps q=>⟨#[],by rw[upd_ne (hm b _ q fun z=>z),q];simp⟩⟩
 by_cases hbe:b=e
 ·subst hbe;exact heo
 ·exact⟨u,k b u hbe q⟩
end
def trk(h:Heap)(H:Hp):List Addr:=(List.range h.objs.size).filter fun a=>(H a).isSome
def hidT(h:Heap)(H:Hp):Heap:=PySem.W.hideAll h (trk h H)
theorem hidT_size(h:Heap)(H:Hp):(hidT h H).objs.size=h.objs.size:=PySem.W.hideAll_size _ _
theorem hidT_get{h:Heap}{H:Hp}{b:Addr}{o:Obj}(e:h.get? b=some o)(n:H b=none):(hidT h H).get? b=some o:=
 PySem.W.hideAll_get _ e fun hm=>by
  have q:(H b).isSome=true:=(List.mem_filter.mp hm).2
  rw[n]at q;simp at q
theorem of_hidT{h:Heap}{H:Hp}{b:Addr}{o:Obj}(e:(hidT h H).get? b=some o):h.get? b=some o∧H b=none:=by
 have e':h.get? b=some o:=PySem.W.of_hideAll (trk h H) e
 refine⟨e',?_⟩
 cases q:H b with
 | none=>rfl
 | some x=>
  have hm:b∈trk h H:=List.mem_filter.mpr ⟨List.mem_range.mpr (Heap.lt_size e'),by simp[q]⟩
  have z:(hidT h H).get? b=none:=PySem.W.hideAll_none (trk h H) hm
  rw[z]at e;cases e
def allNews(g h:Heap)(L:Addr):List (Addr×Obj):=(List.range h.objs.size).filterMap fun a=>if a=L∨(g.get? a).isSome=true then none else (h.get? a).map fun o=>(a,o)
theorem mem_allNews{g h:Heap}{L a:Addr}{o:Obj}(h1:a≠L)(h2:g.get? a=none)(h3:h.get? a=some o):(a,o)∈allNews g h L:=
 List.mem_filterMap.mpr ⟨a,List.mem_range.mpr (Heap.lt_size h3),by simp[h1,h2,h3]⟩
theorem of_mem_allNews{g h:Heap}{L:Addr}{p:Addr×Obj}(hp:p∈allNews g h L):p.1≠L∧g.get? p.1=none∧h.get? p.1=some p.2:=by
 obtain⟨b,_,e⟩:=List.mem_filterMap.mp hp
 split at e
 ·cases e
 ·rename_i hn
  cases q:h.get? b with
  | none=>rw[q]at e;simp at e
  | some u=>
   rw[q]at e
   simp only[Option.map_some,Option.some.injEq]at e
   subst e
   refine⟨fun z=>hn (.inl z),?_,q⟩
   show g.get? b=none
   cases r:g.get? b with
   | none=>rfl
   | some v=>exact(hn (.inr (by simp[r]))).elim
def rest(g h:Heap)(L d:Addr):List (Addr×Obj):=(allNews g h L).filter fun p=>decide (p.1≠d)
theorem news_all{g h:Heap}{L:Addr}:News g L h (allNews g h L):=fun p hp=>let ⟨a,b,c⟩:=of_mem_allNews hp;⟨c,a,b⟩
end L2
namespace L2
open PySem PySem.Spec PyProof.Rows
structure Mod(K:PySem.W.Frag)(mg:Str→Option Value)(base:Heap):Prop where
 kin:K.In base
 glob:base.Ns mainGlobals mg
 blt:∃ mb,base.Ns builtinsNs mb∧∀ x:Str,x≠"__name__"→mb x=bootBuiltins x
 nolimit:base.NoLimit
structure Cx where
 prog:Program
 w:World
 K:PySem.W.Frag
 mg:Str→Option Value
 base:Heap
 A:Around
 N:List Str
 s₀:Shared
 H₀:Hp
 env:Env
 outer:List Env
 stack:List Env
 ex:List Addr
 fn:Str→Bool
 calm:Bool
 pn:List (Addr×Obj)
 xe:Value→Shared→Prop
def frs(l:List Env):List Addr:=l.filterMap (·.frame)
abbrev Cx.fs(X:Cx):List Addr:=frs X.outer
def Vis(sc:Scope)(x:Str):Prop:=sc.names.lookup x=some .local∨sc.names.lookup x=some .cell∨sc.names.lookup x=some .free
def Loc(sc:Scope)(x:Str):Prop:=sc.names.lookup x=some .local∨sc.names.lookup x=some .cell
def Look(env:Env)(h:Heap)(m:Str→Option Value)(x:Str)(u:Value):Prop:=
 (env.kindOf x=some .local∧m x=some u)∨((env.kindOf x=some .cell∨env.kindOf x=some .free)∧∃ c,env.cells.lookup x=some c∧h.IsCell c (some u))
structure Cx.Ok(X:Cx):Prop where
 mod:Mod X.K X.mg X.base
 kind:X.env.scope.kind=.function
 glob:X.env.globals=mainGlobals
 blt:X.env.builtins=builtinsNs
 above:X.s₀.heap.objs.size≤X.env.locals
 inj:∀ x y c,X.env.cells.lookup x=some c→X.env.cells.lookup y=some c→x=y
 has:∀ x,(X.env.kindOf x=some .cell∨X.env.kindOf x=some .free)→∃ c,X.env.cells.lookup x=some c
 cab:∀ x c,X.fn x=true→X.env.cells.lookup x=some c→X.s₀.heap.objs.size≤c
 hd:X.calm=true→X.A.handled=none
 frames:X.A.frames=some X.stack
 stk:X.stack=X.outer∨(X.stack=X.env::X.outer∧X.env.frame=some X.env.locals)
 exf:∀ b∈X.ex,b≠X.env.locals∧∀ x c,X.env.cells.lookup x=some c→c≠b
 bs:∀ b o,X.base.get? b=some o→X.s₀.heap.get? b=some o∧X.H₀ b=none
 bsz:X.base.objs.size≤X.s₀.heap.objs.size
 noex:∀ b o,X.base.get? b=some o→b∉X.ex
 exfs:∀ b∈X.ex,b∉X.fs
 funs:X.s₀.heap.FunFrames X.base X.outer
 frf:∀ b∈X.fs,X.H₀ b=none
structure Inv(X:Cx)(pins:List (Addr×Obj))(σ:List (Option V))(H:Hp)(s:Shared):Prop where
 ok:X.Ok
 os:s.os=X.s₀.os
 bare:AllBare s.gens
 base:Un X.fs X.ex X.H₀ H X.s₀.heap s.heap
 loc:∃ m,s.heap.Ns X.env.locals m∧∀ (i:Nat) (x:Str) (v:V),X.N[i]?=some x→σ[i]?=some (some v)→Vis X.env.scope x→∃ u,RelV v u∧Look X.env s.heap m x u
 cell:∀ x c,X.env.cells.lookup x=some c→∃ v,s.heap.IsCell c v
 free:H X.env.locals=none
 freeC:∀ x c,X.env.cells.lookup x=some c→H c=none
 pin:∀ p∈X.pn++pins,s.heap.get? p.1=some p.2∧H p.1=none∧p.1≠X.env.locals∧p.1∉X.fs∧∀ v,p.2.data≠.cell v
 hok:HOk X.prog X.w H s.heap
 len:σ.length=X.N.length
section
variable{X:Cx}{pins:List (Addr×Obj)}{σ:List (Option V)}{H H':Hp}{s:Shared}{h':Heap}
theorem Cx.Ok.nofr(ok:X.Ok){b:Addr}{o:Obj}(e:X.base.get? b=some o):b∉X.fs:=fun hb=>by
 have:=(ok.funs.mem hb).1
 rw[e]at this;cases this
theorem Inv.bs(I:Inv X pins σ H s):∀ b o,X.base.get? b=some o→s.heap.get? b=some o∧H b=none:=fun b o e=>
 ⟨I.base.keep b o (I.ok.bs b o e).1 (I.ok.bs b o e).2 (I.ok.nofr e) (I.ok.noex b o e),I.base.free b o (I.ok.bs b o e).1 (I.ok.bs b o e).2 (I.ok.noex b o e)⟩
theorem Inv.bk(I:Inv X pins σ H s):∀ b o,X.base.get? b=some o→s.heap.get? b=some o:=fun b o e=>(I.bs b o e).1
theorem Inv.mod(I:Inv X pins σ H s):Mod X.K X.mg X.base:=I.ok.mod
theorem Inv.kIn(I:Inv X pins σ H s):X.K.In s.heap:=I.ok.mod.kin.keeps I.bk
theorem Inv.lt(I:Inv X pins σ H s):X.env.locals<s.heap.objs.size:=let ⟨_,hn,_⟩:=I.loc;hn.lt
theorem Inv.sz(I:Inv X pins σ H s):X.s₀.heap.objs.size≤s.heap.objs.size:=Nat.le_trans I.ok.above (Nat.le_of_lt I.lt)
theorem Inv.nofs(I:Inv X pins σ H s){a:Addr}(h:s.heap.objs.size≤a):a∉X.fs:=fun hb=>by
 obtain⟨_,o,ho,_⟩:=I.ok.funs.mem hb
 exact absurd (Nat.lt_of_lt_of_le (Heap.lt_size ho) (Nat.le_trans I.sz h)) (Nat.lt_irrefl _)
theorem Inv.cne(I:Inv X pins σ H s):∀ x c,X.env.cells.lookup x=some c→c≠X.env.locals:=fun x c e z=>by
 obtain⟨v,o,ho,hd⟩:=I.cell x c e
 obtain⟨m,⟨o',es,ep,ho',hd',_⟩,_⟩:=I.loc
 rw[z,ho']at ho;cases ho;rw[hd']at hd;cases hd
theorem Inv.funs(I:Inv X pins σ H s):s.heap.FunFrames X.base X.outer:=by
 have all:∀ (l:List Env),(∀ b∈frs l,b∈X.fs)→X.s₀.heap.FunFrames X.base l→s.heap.FunFrames X.base l:=by
  intro l
  induction l with
  | nil=>intro _ _;trivial
  | cons env r ih=>
   intro hs hl
   obtain⟨hk,⟨L,o,hf,hn,ho,hd⟩,hr⟩:=hl
   have hL:L∈X.fs:=hs L (by unfold frs;rw[List.filterMap_cons,hf];exact List.mem_cons_self)
   obtain⟨sl,e⟩:=I.base.slot L o ho (I.ok.frf L hL) hL fun z=>I.ok.exfs L z hL
   exact⟨hk,⟨L,_,hf,hn,e,hd⟩,ih (fun b hb=>hs b (by unfold frs;rw[List.filterMap_cons,hf];exact List.mem_cons_of_mem _ hb)) hr⟩
 exact all X.outer (fun _ hb=>hb) I.ok.funs
theorem Inv.stack(I:Inv X pins σ H s):s.heap.FunFrames X.base X.stack:=by
 rcases I.ok.stk with e | ⟨e,hf⟩
 ·rw[e];exact I.funs
 ·rw[e]
  obtain⟨m,hn,_⟩:=I.loc
  refine .cons (by rw[I.ok.kind];decide) hf hn ?_ I.funs
  exact Heap.get?_none_of_le (Nat.le_trans I.ok.bsz I.ok.above)
theorem Inv.stkSub(I:Inv X pins σ H s):∀ b∈frs X.stack,b∈X.env.locals::X.fs:=fun b hb=>by
 rcases I.ok.stk with e | ⟨e,hf⟩
 ·rw[e]at hb;exact List.mem_cons_of_mem _ hb
 ·rw[e]at hb
  unfold frs at hb
  rw[List.filterMap_cons,hf]at hb
  exact hb
theorem Inv.stkFree(I:Inv X pins σ H s):∀ b∈frs X.stack,H b=none:=fun b hb=>by
 rcases List.mem_cons.mp (I.stkSub b hb) with e | hb
 ·rw[e];exact I.free
 ·obtain⟨_,o,ho,_⟩:=I.ok.funs.mem hb
  exact I.base.free b o ho (I.ok.frf b hb) fun z=>I.ok.exfs b z hb
theorem Inv.step{g':Array GenState}{t':Nat}{d':Drawn}{ch:List Addr}(I:Inv X pins σ H s)
  (hch:∀ b∈ch,(b∈X.ex∨X.s₀.heap.objs.size≤b)∧b≠X.env.locals∧(∀ x c,X.env.cells.lookup x=some c→c≠b)∧∀ p∈X.pn++pins,p.1≠b)
  (keep:∀ b o,b≠X.env.locals→b∉X.fs→b∉ch→s.heap.get? b=some o→H b=none→h'.get? b=some o)
  (slot:∀ b o,b≠X.env.locals→b∈X.fs→b∉ch→s.heap.get? b=some o→H b=none→∃ sl,h'.get? b=some { o with slots:=sl }) (free:∀ b o,b∉ch→s.heap.get? b=some o→H b=none→H' b=none)
  (there:∀ b o,b∉ch→s.heap.get? b=some o→∃ o',h'.get? b=some o')
  (tups:∀ b xs,H b=some (.tup xs)→H' b=some (.tup xs)) (frzs:∀ b o u,H b=some (.frz o u)→H' b=some (.frz o u)) (tbls:∀ b ps,H b=some (.tbl ps)→∃ more,H' b=some (.tbl (ps++more)))
  (ns:∀ m,s.heap.Ns X.env.locals m→h'.Ns X.env.locals m) (hok:HOk X.prog X.w H' h') (hg:AllBare g') :
  Inv X pins σ H' { s with heap:=h',gens:=g',drawn:=d',toks:=t' }:=by
 have neL:∀ b o,X.s₀.heap.get? b=some o→b≠X.env.locals:=fun b o e=>Nat.ne_of_lt (Nat.lt_of_lt_of_le (Heap.lt_size e) I.ok.above)
 have neC:∀ b o,X.s₀.heap.get? b=some o→b∉X.ex→b∉ch:=fun b o e hx hb=>by
  rcases(hch b hb).1 with z | z
  ·exact hx z
  ·exact absurd (Nat.lt_of_lt_of_le (Heap.lt_size e) z) (Nat.lt_irrefl _)
 have cellK:∀ x c,X.env.cells.lookup x=some c→∀ v,s.heap.IsCell c v→h'.IsCell c v:=fun x c e v hq0=>by
  obtain⟨o,ho,hd⟩:=hq0
  have nch:c∉ch:=fun z=>(hch c z).2.2.1 x c e rfl
  by_cases hc:c∈X.fs
  ·obtain⟨sl,q⟩:=slot c o (I.cne x c e) hc nch ho (I.freeC x c e)
   exact⟨_,q,hd⟩
  ·exact⟨o,keep c o (I.cne x c e) hc nch ho (I.freeC x c e),hd⟩
 refine⟨I.ok,I.os,hg,⟨fun b o e n hb hx=>?_,fun b o e n hb hx=>?_,fun b o e n hx=>?_,fun b o e hx=>?_,fun b xs e=>tups b xs (I.base.tups b xs e),fun b o xs e=>frzs b o xs (I.base.frzs b o xs e),fun b ps e=>?_⟩,?_,fun x c e=>?_,?_,fun x c e=>?_,fun p hp=>?_,hok,I.len⟩
 ·exact keep b o (neL b o e) hb (neC b o e hx) (I.base.keep b o e n hb hx) (I.base.free b o e n hx)
 ·obtain⟨sl,e1⟩:=I.base.slot b o e n hb hx
  obtain⟨sl',e2⟩:=slot b _ (neL b o e) hb (neC b o e hx) e1 (I.base.free b o e n hx)
  exact⟨sl',e2⟩
 ·obtain⟨o',e1⟩:=I.base.there b o e hx
  exact free b o' (neC b o e hx) e1 (I.base.free b o e n hx)
 ·obtain⟨o',e1⟩:=I.base.there b o e hx
  exact there b o' (neC b o e hx) e1
 ·obtain⟨m1,e1⟩:=I.base.tbls b ps e
  obtain⟨m2,e2⟩:=tbls b _ e1
  exact⟨m1++m2,by rw[e2,Array.append_assoc]⟩
 ·obtain⟨m,hn,hl⟩:=I.loc
  refine⟨m,ns m hn,fun i x v e1 e2 e3=>?_⟩
  obtain⟨u,r,l⟩:=hl i x v e1 e2 e3
  refine⟨u,r,?_⟩
  rcases l with l | ⟨k,c,e,z⟩
  ·exact .inl l
  ·exact .inr ⟨k,c,e,cellK x c e _ z⟩
 ·obtain⟨v,z⟩:=I.cell x c e
  exact⟨v,cellK x c e v z⟩
 ·obtain⟨m,⟨o,_,_,ho,_⟩,_⟩:=I.loc
  exact free _ o (fun z=>(hch _ z).2.1 rfl) ho I.free
 ·obtain⟨v,o,ho,hd⟩:=I.cell x c e
  exact free c o (fun z=>(hch c z).2.2.1 x c e rfl) ho (I.freeC x c e)
 ·obtain⟨e,n,ne,nf,d⟩:=I.pin p hp
  have nch:p.1∉ch:=fun z=>(hch p.1 z).2.2.2 p hp rfl
  exact⟨keep p.1 p.2 ne nf nch e n,free p.1 p.2 nch e n,ne,nf,d⟩
theorem Inv.un{t':Nat}(I:Inv X pins σ H s)(u:Un X.fs [] H H' s.heap h')(hok:HOk X.prog X.w H' h'):Inv X pins σ H' { s with heap:=h',toks:=t' }:=by
 obtain⟨m,⟨o,es,ep,ho,r⟩,_⟩:=id I.loc
 obtain⟨sl,hL⟩:=u.any ho I.free (by simp)
 exact I.step (g':=s.gens) (d':=s.drawn) (ch:=[]) (fun _ z=>nomatch z) (fun b o _ hb _ e n=>u.keep b o e n hb (by simp)) (fun b o _ hb _ e n=>u.slot b o e n hb (by simp)) (fun b o _ e n=>u.free b o e n (by simp)) (fun b o _ e=>u.there b o e (by simp)) u.tups u.frzs u.tbls (fun m' hm=>by
  obtain⟨o',es',ep',ho',r'⟩:=hm
  rw[ho]at ho';cases ho'
  exact⟨_,es',ep',hL,r'⟩) hok I.bare
theorem Inv.call{g':Array GenState}{t':Nat}{d':Drawn}{ch:List Addr}(I:Inv X pins σ H s)(u:Un (frs X.stack) ch H H' s.heap h')(hok:HOk X.prog X.w H' h')(hg:AllBare g')
  (hch:∀ b∈ch,(b∈X.ex∨X.s₀.heap.objs.size≤b)∧b≠X.env.locals∧(∀ x c,X.env.cells.lookup x=some c→c≠b)∧∀ p∈X.pn++pins,p.1≠b) :
  Inv X pins σ H' { s with heap:=h',gens:=g',drawn:=d',toks:=t' }:=by
 obtain⟨m,⟨o,es,ep,ho,r⟩,_⟩:=id I.loc
 obtain⟨sl,hL⟩:=u.any ho I.free fun z=>(hch _ z).2.1 rfl
 exact I.step (ch:=ch) hch (fun b o hL hb hc e n=>u.keep b o e n (fun z=>(List.mem_cons.mp (I.stkSub b z)).elim hL hb) hc) (fun b o _ _ hc e n=>u.any e n hc) (fun b o hc e n=>u.free b o e n hc) (fun b o hc e=>u.there b o e hc) u.tups u.frzs u.tbls (fun m' hm=>by
  obtain⟨o',es',ep',ho',r'⟩:=hm
  rw[ho]at ho';cases ho'
  exact⟨_,es',ep',hL,r'⟩) hok hg
theorem Inv.turned{t':Nat}{it:Addr}(I:Inv X pins σ H s)(k:∀ b o,b≠it→s.heap.get? b=some o→h'.get? b=some o)(hn:H it=none)(hL:it≠X.env.locals)
  (h1:it∈X.ex∨X.s₀.heap.objs.size≤it) (h2:∀ x c,X.env.cells.lookup x=some c→c≠it) (h3:∀ p∈X.pn++pins,p.1≠it):Inv X pins σ H { s with heap:=h',toks:=t' }:=by
 have nit:∀ b u,H b=some u→b≠it:=fun b u e z=>by rw[z,hn]at e;cases e
 refine I.step (g':=s.gens) (d':=s.drawn) (ch:=[it]) (fun b hb=>?_) (fun b o _ _ hc e _=>k b o (fun z=>hc (by simp[z])) e) (fun b o _ _ hc e _=>⟨o.slots,k b o (fun z=>hc (by simp[z])) e⟩) (fun _ _ _ _ n=>n)
  (fun b o hc e=>⟨o,k b o (fun z=>hc (by simp[z])) e⟩) (fun _ _ e=>e) (fun _ _ _ e=>e) (fun b ps e=>⟨#[],by rw[e];simp⟩) (fun m hm=>?_) (fun b u e=>?_) I.bare
 ·have e:b=it:=by simpa using hb
  subst e
  exact⟨h1,hL,h2,h3⟩
 ·obtain⟨o,es,ep,ho,r⟩:=hm
  exact⟨o,es,ep,k _ o (Ne.symm hL) ho,r⟩
 ·refine(I.hok b u e).stay (fun c v hc q=>k c v ?_ q) (fun _ q=>q) fun _ _ q=>q
  rcases hc with z | z
  ·rw[z];exact nit b u e
  ·exact nit c _ z
theorem Inv.tok(I:Inv X pins σ H s)(t:Nat):Inv X pins σ H { s with toks:=t }:=I.un (h':=s.heap) (t':=t) Un.refl I.hok
theorem Inv.kept{t':Nat}(I:Inv X pins σ H s)(k:∀ b u,s.heap.get? b=some u→h'.get? b=some u):Inv X pins σ H { s with heap:=h',toks:=t' }:=I.un (Un.kept k) (I.hok.kept k)
theorem Inv.laid{a:Addr}{o:HO}{t':Nat}(I:Inv X pins σ H s)(k:∀ b u,s.heap.get? b=some u→h'.get? b=some u)(hp:s.heap.objs.size≤a)(new:ObjOk X.prog X.w (upd H a o) h' a o):
  Inv X pins σ (upd H a o) { s with heap:=h',toks:=t' }:=I.un (Un.laid k hp (I.hok.fresh hp)) (I.hok.laid k hp new)
theorem Inv.write{x e:Addr}{o:HO}{t':Nat}(I:Inv X pins σ H s)(mu:Mut (H x))(he:e=x∨H e=some (.own x))(k:∀ b u,b≠e→s.heap.get? b=some u→h'.get? b=some u)(heo:∃ u,h'.get? e=some u)
  (new:ObjOk X.prog X.w (upd H x o) h' x o):Inv X pins σ (upd H x o) { s with heap:=h',toks:=t' }:=I.un (Un.write mu he k heo) (I.hok.write mu he k heo new)
theorem Inv.pins_of{pins':List (Addr×Obj)}(I:Inv X pins σ H s)(h:∀ p∈pins',s.heap.get? p.1=some p.2∧H p.1=none∧p.1≠X.env.locals∧p.1∉X.fs∧∀ v,p.2.data≠.cell v):Inv X pins' σ H s:=
 ⟨I.ok,I.os,I.bare,I.base,I.loc,I.cell,I.free,I.freeC,fun p hp=>(List.mem_append.mp hp).elim (fun z=>I.pin p (List.mem_append_left _ z)) (h p),I.hok,I.len⟩
theorem nodup_ix{N:List Str}(hN:N.Nodup){i j:Nat}{x:Str}(a:N[i]?=some x)(b:N[j]?=some x):i=j:=by
 obtain⟨h1,e1⟩:=List.getElem?_eq_some_iff.mp a
 obtain⟨h2,e2⟩:=List.getElem?_eq_some_iff.mp b
 exact(List.getElem_inj hN).mp (e1.trans e2.symm)
theorem store_ok2{M:Model}{A:Around}{E:Value→Shared→Prop}{i:Nat}{x:Str}{v:V}{u:Value}{Q:Unit→Shared→Prop}(I:Inv X pins σ H s)(hN:X.N.Nodup)(hi:X.N[i]?=some x)(hx:Loc X.env.scope x)(r:RelV v u)
  (h:∀ s',Inv X pins (σ.set i (some v)) H s'→(∃ a,Heap.SameBut a s.heap s'.heap∧(a=X.env.locals∨X.env.cells.lookup x=some a))→Q () s') (hf:X.fn x=true∨X.env.scope.names.lookup x=some .local:=by first | exact .inl rfl | exact .inr rfl | assumption):wpAny M A (storeName X.env x u) Q E s:=by
 obtain⟨m,hn,hl⟩:=id I.loc
 have hcls:(X.env.scope.kind==.class||(X.env.scope.kind==.module&&X.env.locals != X.env.globals))=false:=by rw[I.ok.kind];rfl
 have hiσ:i<σ.length:=by rw[I.len];exact(List.getElem?_eq_some_iff.mp hi).1
 have cne:=I.cne
 have tracked:∀ {a:Addr} {h':Heap},(∃ o,s.heap.get? a=some o∧H a=none)→Heap.SameBut a s.heap h'→HOk X.prog X.w H h':=fun {a h'} ha hs b ob e=>by
  obtain⟨_,_,hfree⟩:=ha
  refine(I.hok b ob e).stay (fun c w' hc q=>(hs.2 c ?_).trans q) (fun _ q=>q) fun _ _ q=>q
  rintro rfl
  rcases hc with rfl | hc
  ·rw[hfree]at e;cases e
  ·rw[hfree]at hc;cases hc
 rcases hx with hk | hk
 ·refine wpAny_storeName_local hk hn (fun h' hn' hs=>?_) hcls
  obtain⟨oL,_,_,hoL,_⟩:=id hn
  refine h _ ⟨I.ok,I.os,I.bare,⟨fun b o e n hb hx=>?_,fun b o e n hb hx=>?_,I.base.free,fun b o e hx=>?_,I.base.tups,I.base.frzs,I.base.tbls⟩,⟨_,hn',fun j y v' e1 e2 e3=>?_⟩,fun y c e=>?_,I.free,I.freeC,fun p hp=>?_,tracked ⟨oL,hoL,I.free⟩ hs,by simpa using I.len⟩ ⟨_,hs,.inl rfl⟩
  ·exact(hs.2 b (Nat.ne_of_lt (Nat.lt_of_lt_of_le (Heap.lt_size e) I.ok.above))).trans (I.base.keep b o e n hb hx)
  ·obtain⟨sl,e1⟩:=I.base.slot b o e n hb hx
   exact⟨sl,(hs.2 b (Nat.ne_of_lt (Nat.lt_of_lt_of_le (Heap.lt_size e) I.ok.above))).trans e1⟩
  ·obtain⟨o',e1⟩:=I.base.there b o e hx
   exact⟨o',(hs.2 b (Nat.ne_of_lt (Nat.lt_of_lt_of_le (Heap.lt_size e) I.ok.above))).trans e1⟩
  ·by_cases hj:j=i
   ·subst hj
    rw[hi]at e1;cases e1
    rw[List.getElem?_set_self hiσ]at e2
    cases e2
    exact⟨u,r,.inl ⟨hk,by simp⟩⟩
   ·rw[List.getElem?_set_ne (Ne.symm hj)]at e2
    obtain⟨u',r',q⟩:=hl j y v' e1 e2 e3
    refine⟨u',r',?_⟩
    rcases q with ⟨k,e⟩ | ⟨k,c,e,z⟩
    ·refine .inl ⟨k,?_⟩
     have:y≠x:=fun e=>hj (nodup_ix hN e1 (e▸hi))
     simp[this,e]
    ·exact .inr ⟨k,c,e,z.sameBut hs (cne y c e)⟩
  ·obtain⟨w',z⟩:=I.cell y c e
   exact⟨w',z.sameBut hs (cne y c e)⟩
  ·obtain⟨e,n,ne,nf,d⟩:=I.pin p hp
   exact⟨(hs.2 p.1 ne).trans e,n,ne,nf,d⟩
 ·have hfn:X.fn x=true:=by
   rcases hf with z | z
   ·exact z
   ·rw[z]at hk;cases hk
  obtain⟨c,hc⟩:=I.ok.has x (.inl hk)
  obtain⟨w',z⟩:=I.cell x c hc
  refine wpAny_storeName_cell I.ok.kind hk hc z (fun h' hc' hs=>?_)
  obtain⟨oc,hoc,hocd⟩:=id z
  refine h { s with heap:=h' } ⟨I.ok,I.os,I.bare,⟨fun b o e n hb hx=>?_,fun b o e n hb hx=>?_,I.base.free,fun b o e hx=>?_,I.base.tups,I.base.frzs,I.base.tbls⟩,⟨m,hn.sameBut hs (Ne.symm (cne x c hc)),fun j y v' e1 e2 e3=>?_⟩,fun y c' e=>?_,I.free,I.freeC,fun p hp=>?_,tracked ⟨oc,hoc,I.freeC x c hc⟩ hs,by simpa using I.len⟩ ⟨c,hs,.inr hc⟩
  ·exact(hs.2 b (Nat.ne_of_lt (Nat.lt_of_lt_of_le (Heap.lt_size e) (I.ok.cab x c hfn hc)))).trans (I.base.keep b o e n hb hx)
  ·obtain⟨sl,e1⟩:=I.base.slot b o e n hb hx
   exact⟨sl,(hs.2 b (Nat.ne_of_lt (Nat.lt_of_lt_of_le (Heap.lt_size e) (I.ok.cab x c hfn hc)))).trans e1⟩
  ·obtain⟨o',e1⟩:=I.base.there b o e hx
   exact⟨o',(hs.2 b (Nat.ne_of_lt (Nat.lt_of_lt_of_le (Heap.lt_size e) (I.ok.cab x c hfn hc)))).trans e1⟩
  ·by_cases hj:j=i
   ·subst hj
    rw[hi]at e1;cases e1
    rw[List.getElem?_set_self hiσ]at e2
    cases e2
    exact⟨u,r,.inr ⟨.inl hk,c,hc,hc'⟩⟩
   ·rw[List.getElem?_set_ne (Ne.symm hj)]at e2
    obtain⟨u',r',q⟩:=hl j y v' e1 e2 e3
    refine⟨u',r',?_⟩
    rcases q with q | ⟨k,c',e,z'⟩
    ·exact .inl q
    ·refine .inr ⟨k,c',e,z'.sameBut hs ?_⟩
     rintro rfl
     exact hj (nodup_ix hN e1 (I.ok.inj _ _ _ e hc▸hi))
  ·by_cases hcc:c'=c
   ·subst hcc;exact⟨_,hc'⟩
   ·obtain⟨w2,z2⟩:=I.cell y c' e
    exact⟨w2,z2.sameBut hs hcc⟩
  ·obtain⟨e,n,ne,nf,d⟩:=I.pin p hp
   refine⟨(hs.2 p.1 ?_).trans e,n,ne,nf,d⟩
   intro q
   rw[q,hoc]at e
   have q':oc=p.2:=Option.some.inj e
   exact d w' (by rw[← q'];exact hocd)
theorem store_ok{M:Model}{A:Around}{E:Value→Shared→Prop}{i:Nat}{x:Str}{v:V}{u:Value}{Q:Unit→Shared→Prop}(I:Inv X pins σ H s)(hN:X.N.Nodup)(hi:X.N[i]?=some x)(hx:Loc X.env.scope x)(r:RelV v u)
  (h:∀ s',Inv X pins (σ.set i (some v)) H s'→Q () s') (hf:X.fn x=true∨X.env.scope.names.lookup x=some .local:=by first | exact .inl rfl | exact .inr rfl | assumption):wpAny M A (storeName X.env x u) Q E s:=
 store_ok2 I hN hi hx r (fun s' I' _=>h s' I') hf
theorem Inv.call'{s':Shared}{ch:List Addr}(I:Inv X pins σ H s)(ho:s'.os=s.os)(u:Un (frs X.stack) ch H H' s.heap s'.heap)(hok:HOk X.prog X.w H' s'.heap)(hg:AllBare s'.gens)
  (hch:∀ b∈ch,(b∈X.ex∨X.s₀.heap.objs.size≤b)∧b≠X.env.locals∧(∀ x c,X.env.cells.lookup x=some c→c≠b)∧∀ p∈X.pn++pins,p.1≠b):Inv X pins σ H' s':=by
 obtain⟨h',g',d',t',o'⟩:=s'
 have e:o'=s.os:=ho
 subst e
 exact I.call (g':=g') (t':=t') (d':=d') u hok hg hch
end
abbrev XK:=Value→Option Addr→Hp→Prop
abbrev St:=List (Option V)
abbrev VK:=V→Hp→Prop
abbrev TE:=St→Hp→VK→Prop
abbrev TT:=St→Hp→(Bool→Hp→Prop)→Prop
abbrev TA:=St→Hp→(List V→Hp→Prop)→Prop
structure Ends where
 nx:St→Hp→Prop
 rt:VK
 bk:St→Hp→Prop:=fun _ _=>False
 ct:St→Hp→Prop:=fun _ _=>False
abbrev TS:=Ends→St→Hp→Prop
def EP(X:Cx)(pins:List (Addr×Obj))(σ:St)(Q:VK)(u:Value)(s':Shared):Prop:=∃ v H',Inv X pins σ H' s'∧RelV v u∧Q v H'
def TP(X:Cx)(pins:List (Addr×Obj))(σ:St)(Q:Bool→Hp→Prop)(b:Bool)(s':Shared):Prop:=∃ H',Inv X pins σ H' s'∧Q b H'
def AP(X:Cx)(pins:List (Addr×Obj))(σ:St)(Q:List V→Hp→Prop)(us:List Value)(s':Shared):Prop:=∃ vs H',Inv X pins σ H' s'∧Vals vs us∧Q vs H'
def SP(X:Cx)(pins:List (Addr×Obj))(D:Ends)(f:Flow)(s':Shared):Prop:=
 match f with
 | .next=>∃ σ' H',Inv X pins σ' H' s'∧D.nx σ' H'
 | .brk=>∃ σ' H',Inv X pins σ' H' s'∧D.bk σ' H'
 | .cont=>∃ σ' H',Inv X pins σ' H' s'∧D.ct σ' H'
 | .ret u=>∃ v σ' H',Inv X pins σ' H' s'∧RelV v u∧D.rt v H'
def PE(X:Cx)(e:Expr)(t:TE):Prop:=
 ∀ (pins:List (Addr×Obj)) (s:Shared) (σ:St) (H:Hp) (Q:VK),Inv X pins σ H s→t σ H Q→wpAny (model X.prog X.w) X.A (eval e X.env) (EP X pins σ Q) X.xe s
def PT(X:Cx)(e:Expr)(t:TT):Prop:=
 ∀ (pins:List (Addr×Obj)) (s:Shared) (σ:St) (H:Hp) (Q:Bool→Hp→Prop),Inv X pins σ H s→t σ H Q→wpAny (model X.prog X.w) X.A (isTrue e X.env (eval e X.env)) (TP X pins σ Q) X.xe s
def PW(X:Cx)(e:Expr)(t:TT):Prop:=
 ∀ (whole:Sem Value) (pins:List (Addr×Obj)) (s:Shared) (σ:St) (H:Hp) (Q:Bool→Hp→Prop),Inv X pins σ H s→t σ H Q→wpAny (model X.prog X.w) X.A (isTrue e X.env whole) (TP X pins σ Q) X.xe s
theorem PW.pt{X:Cx}{e:Expr}{t:TT}(h:PW X e t):PT X e t:=h _
def PA(X:Cx)(es:List Expr)(t:TA):Prop:=
 ∀ (pos:Pos) (pins:List (Addr×Obj)) (s:Shared) (σ:St) (H:Hp) (Q:List V→Hp→Prop),Inv X pins σ H s→t σ H Q→wpAny (model X.prog X.w) X.A (spliced (backTo pos (starEach es X.env))) (AP X pins σ Q) X.xe s
def PS(X:Cx)(st:Stmt)(t:TS):Prop:=
 ∀ (pins:List (Addr×Obj)) (s:Shared) (σ:St) (H:Hp) (D:Ends),Inv X pins σ H s→t D σ H→wpAny (model X.prog X.w) X.A (exec st X.env) (SP X pins D) X.xe s
def PSs(X:Cx)(st:List Stmt)(t:TS):Prop:=
 ∀ (pins:List (Addr×Obj)) (s:Shared) (σ:St) (H:Hp) (D:Ends),Inv X pins σ H s→t D σ H→wpAny (model X.prog X.w) X.A (execs st X.env) (SP X pins D) X.xe s
theorem thn{α:Type}{t:Sem α}{Q Q':α→Shared→Prop}{M:Model}{A:Around}{E:Value→Shared→Prop}{s:Shared}(h:wpAny M A t Q E s)(hQ:∀ a s,Q a s→Q' a s):wpAny M A t Q' E s:=wpAny_mono h hQ fun _ _ x=>x
end L2
namespace L2
open PySem PySem.Spec PyProof.Rows
section
variable{X:Cx}
theorem bin{a b:Expr}{ta tb:TE}(ha:PE X a ta)(hb:PE X b tb){pins:List (Addr×Obj)}{s:Shared}{σ:St}{H:Hp}{R:V→V→Hp→Prop}(I:Inv X pins σ H s)(h:ta σ H fun x H1=>tb σ H1 fun y H2=>R x y H2)
  {α:Type} {Q:α→Shared→Prop} {f:Value→Value→Sem α}
  (hf:∀ v u s2 x y H2,Inv X pins σ H2 s2→RelV x v→RelV y u→R x y H2→wpAny (model X.prog X.w) X.A (f v u) Q X.xe s2) :
  wpAny (model X.prog X.w) X.A (eval a X.env) (fun v s₁=>wpAny (model X.prog X.w) X.A (eval b X.env) (fun u s₂=>wpAny (model X.prog X.w) X.A (f v u) Q X.xe s₂) X.xe s₁) X.xe s:=by
 refine thn (ha pins s σ H _ I h) fun v s1 hq0=>?_
 obtain⟨x,H1,I1,r1,q1⟩:=hq0
 refine thn (hb pins s1 σ H1 _ I1 q1) fun u s2 hq0=>?_
 obtain⟨y,H2,I2,r2,q2⟩:=hq0
 exact hf v u s2 x y H2 I2 r1 r2 q2
def tVar(i:Nat):TE:=fun σ H Q=>∃ v,σ[i]?=some (some v)∧Q v H
def tC(v:V):TE:=fun _ H Q=>Q v H
theorem pe_var{i:Nat}{x:Str}{pos:Pos}(hN:X.N[i]?=some x)(hv:Vis X.env.scope x)(hd:(x==("__debug__" : Str))=false:=by decide)(hcd:(x==("__classdict__" : Str))=false:=by decide):PE X (.Name x pos) (tVar i):=by
 intro pins s σ H Q I h
 obtain⟨v,e,h⟩:=h
 obtain⟨m,hn,hl⟩:=I.loc
 obtain⟨u,r,l⟩:=hl i x v hN e hv
 have fin:EP X pins σ Q u s:=⟨v,H,I,r,h⟩
 rcases l with ⟨hk,hm⟩ | ⟨hk,c,hc,hcell⟩
 ·exact wpAny_Name (wpAny_loadName_local I.ok.kind hk hn hm fin) hd
 ·rcases hk with hk | hk
  ·exact wpAny_Name (wpAny_loadName_cell I.ok.kind hk hc hcell fin) hd
  ·exact wpAny_Name (wpAny_loadName_free I.ok.kind hk hc hcell fin hcd) hd
theorem pe_int{i j pos}:PE X (.Constant (.int i) j pos) (tC (.int i)):=fun _ _ _ H _ I h=>wpAny_Constant_int ⟨.int i,H,I.tok _,⟨_,rfl⟩,h⟩
theorem pe_bl{b j pos}:PE X (.Constant (.bool b) j pos) (tC (.bl b)):=fun _ _ _ H _ I h=>Constant_bool ⟨.bl b,H,I,rfl,h⟩
theorem pe_non{j pos}:PE X (.Constant .none j pos) (tC .non):=fun _ _ _ H _ I h=>Constant_none ⟨.non,H,I,rfl,h⟩
theorem pe_str{x j pos}:PE X (.Constant (.str x) j pos) (tC (.str x)):=fun _ _ _ H _ I h=>Calls.Constant_str ⟨.str x,H,I.tok _,⟨_,rfl⟩,h⟩
def Gl(X:Cx)(x:Str):Prop:=X.env.kindOf x=some .globalImplicit
theorem ld_glob{E:Value→Shared→Prop}{pins:List (Addr×Obj)}{s:Shared}{σ:St}{H:Hp}{x:Str}{u:Value}{pos:Pos}{Q:Value→Shared→Prop}(I:Inv X pins σ H s)(hg:Gl X x)(hm:X.mg x=some u)(h:Q u s)
  (hd:(x==("__debug__" : Str))=false:=by decide):wpAny (model X.prog X.w) X.A (eval (.Name x pos) X.env) Q E s:=
 Calls.Name_function_global I.ok.kind hg (Calls.loadGlobal_global (by rw[I.ok.glob];exact I.mod.glob.keeps I.bk) hm h) hd
theorem ld_blt{E:Value→Shared→Prop}{pins:List (Addr×Obj)}{s:Shared}{σ:St}{H:Hp}{x:Str}{u:Value}{pos:Pos}{Q:Value→Shared→Prop}(I:Inv X pins σ H s)(hg:Gl X x)(hm:X.mg x=none)(hv:bootBuiltins x=some u)(h:Q u s)
  (hn:x≠"__name__":=by decide) (hd:(x==("__debug__" : Str))=false:=by decide):wpAny (model X.prog X.w) X.A (eval (.Name x pos) X.env) Q E s:=by
 obtain⟨mb,h1,h2⟩:=I.mod.blt
 exact Calls.Name_function_global I.ok.kind hg (Calls.loadGlobal_builtin (by rw[I.ok.glob];exact I.mod.glob.keeps I.bk) hm (by rw[I.ok.blt];exact h1.keeps I.bk) ((h2 x hn).trans hv) h) hd
theorem pe_glob{x:Str}{v:V}{u:Value}{pos:Pos}(hg:Gl X x)(hm:X.mg x=some u)(r:RelV v u)(hd:(x==("__debug__" : Str))=false:=by decide):PE X (.Name x pos) (tC v):=
 fun _ _ _ H _ I h=>ld_glob I hg hm ⟨v,H,I,r,h⟩ hd
theorem pe_bltn{x:Str}{v:V}{u:Value}{pos:Pos}(hg:Gl X x)(hm:X.mg x=none)(hv:bootBuiltins x=some u)(r:RelV v u)(hn:x≠"__name__":=by decide)(hd:(x==("__debug__" : Str))=false:=by decide):PE X (.Name x pos) (tC v):=
 fun _ _ _ H _ I h=>ld_blt I hg hm hv ⟨v,H,I,r,h⟩ hn hd
variable{a b:Expr}{ta tb:TE}{pos:Pos}
variable{tA tB':TT}{rest:List Expr}
def tAnd(t u:TT):TT:=fun σ H Q=>t σ H fun c H1=>if c=true then u σ H1 Q else Q false H1
def tOr(t u:TT):TT:=fun σ H Q=>t σ H fun c H1=>if c=true then Q true H1 else u σ H1 Q
def tNot(t:TT):TT:=fun σ H Q=>t σ H fun c H1=>Q (!c) H1
theorem pw_and1(ha:PT X a tA):PW X (.BoolOp .And [a] pos) tA:=by
 intro wh pins s σ H Q I h
 refine isTrue_and (thn (ha pins s σ H Q I h) fun c s1 e=>?_)
 cases c with
 | true=>exact isTrue_and_nil e
 | false=>exact e
theorem pw_or1(ha:PT X a tA):PW X (.BoolOp .Or [a] pos) tA:=by
 intro wh pins s σ H Q I h
 refine isTrue_or (thn (ha pins s σ H Q I h) fun c s1 e=>?_)
 cases c with
 | false=>exact isTrue_or_nil e
 | true=>exact e
theorem pw_and(ha:PT X a tA)(hb:PW X (.BoolOp .And (b::rest) pos) tB'):PW X (.BoolOp .And (a::b::rest) pos) (tAnd tA tB'):=by
 intro wh pins s σ H Q I h
 refine isTrue_and (thn (ha pins s σ H _ I h) fun c s1 hq0=>?_)
 obtain⟨H1,I1,q1⟩:=hq0
 cases c with
 | true=>exact hb wh pins s1 σ H1 Q I1 q1
 | false=>exact⟨H1,I1,q1⟩
theorem pw_or(ha:PT X a tA)(hb:PW X (.BoolOp .Or (b::rest) pos) tB'):PW X (.BoolOp .Or (a::b::rest) pos) (tOr tA tB'):=by
 intro wh pins s σ H Q I h
 refine isTrue_or (thn (ha pins s σ H _ I h) fun c s1 hq0=>?_)
 obtain⟨H1,I1,q1⟩:=hq0
 cases c with
 | true=>exact⟨H1,I1,q1⟩
 | false=>exact hb wh pins s1 σ H1 Q I1 q1
theorem pt_not(ha:PT X a tA):PT X (.UnaryOp .Not a pos) (tNot tA):=by
 intro pins s σ H Q I h
 exact isTrue_not (ha pins s σ H (fun c H1=>Q (!c) H1) I h)
def tAndV(ta tb:TE):TE:=fun σ H Q=>ta σ H fun x H1=>∃ c,x=.bl c∧if c=true then tb σ H1 Q else Q (.bl false) H1
def tNotV(ta:TE):TE:=fun σ H Q=>ta σ H fun x H1=>∃ c,x=.bl c∧Q (.bl (!c)) H1
theorem pe_one{op}{t:TE}(h:PE X a t):PE X (.BoolOp op [a] pos) t:=fun pins s σ H Q I hw=>BoolOp_one (h pins s σ H Q I hw)
theorem pe_and(ha:PE X a ta)(hb:PE X (.BoolOp .And (b::rest) pos) tb):PE X (.BoolOp .And (a::b::rest) pos) (tAndV ta tb):=by
 intro pins s σ H Q I h
 refine BoolOp_and (thn (ha pins s σ H _ I h) fun v s1 hq0=>?_)
 obtain⟨x,H1,I1,r1,q1⟩:=hq0
 obtain⟨c,rfl,q1⟩:=q1
 cases r1
 refine wpAny_truthy_bool ?_
 cases c with
 | true=>exact hb pins s1 σ H1 Q I1 q1
 | false=>exact⟨.bl false,H1,I1,rfl,q1⟩
theorem pe_not(ha:PE X a ta):PE X (.UnaryOp .Not a pos) (tNotV ta):=by
 intro pins s σ H Q I h
 refine UnaryOp_ (thn (ha pins s σ H _ I h) fun v s1 hq0=>?_)
 obtain⟨x,H1,I1,r1,q1⟩:=hq0
 obtain⟨c,rfl,q1⟩:=q1
 cases r1
 exact not_of (wpAny_truthy_bool ⟨.bl (!c),H1,I1,rfl,q1⟩)
end
end L2
namespace L2
open PySem PySem.Spec PyProof.Rows
def SqL(K:PySem.W.Frag)(H:Hp)(a:Addr)(xs:List V):Prop:=
 Rd H a (.lst xs)∨
  ∃ (o:Obj) (its:Array Value) (n:Nat),K.lookup a=some o∧o.cls=.type "list"∧o.dict=none∧o.data=.seq its n∧its.size≤sizeLine∧Vals xs its.toList
def SqT(K:PySem.W.Frag)(H:Hp)(a:Addr)(xs:List V):Prop:=
 Rd H a (.tup xs)∨
  ∃ (o:Obj) (its:Array Value) (n:Nat),K.lookup a=some o∧o.cls=.type "tuple"∧o.data=.seq its n∧its.size≤sizeLine∧Vals xs its.toList
def absV:Value→Option V
 | .none=>some .non
 | .bool b=>some (.bl b)
 | .int i _=>some (.int i)
 | .str x _=>some (.str x)
 | .bytes b _=>some (.byt b)
 | .float b _=>some (.flt b)
 | .ref a=>some (.ref a)
 | .type n=>some (.ty n)
 | _=>none
theorem RelV.abs{x:V}{u:Value}(r:RelV x u):absV u=some x:=by
 cases x with
 | non=>cases r;rfl
 | bl _=>cases r;rfl
 | int _=>obtain⟨t,rfl⟩:=r;rfl
 | str _=>obtain⟨t,rfl⟩:=r;rfl
 | byt _=>obtain⟨t,rfl⟩:=r;rfl
 | flt _=>obtain⟨t,rfl⟩:=r;rfl
 | ref _=>cases r;rfl
 | ty _=>cases r;rfl
theorem RelV.inj{x y:V}{u:Value}(r:RelV x u)(q:RelV y u):x=y:=Option.some.inj (r.abs.symm.trans q.abs)
theorem Vals.inj:∀ {xs ys:List V} {us:List Value},Vals xs us→Vals ys us→xs=ys
 | _,_,_,.nil,.nil=>rfl
 | _,_,_,.cons r t,.cons r' t'=>by rw[r.inj r',Vals.inj t t']
section
variable{X:Cx}{pins:List (Addr×Obj)}{σ:St}{H:Hp}{s:Shared}{a:Addr}{xs ys:List V}
theorem SqL.of{K:PySem.W.Frag}(h:H a=some (.lst xs)):SqL K H a xs:=.inl (.inl h)
theorem Inv.list(I:Inv X pins σ H s)(h:SqL X.K H a xs):∃ its:List Value,Vals xs its∧PlainL s.heap a its.toArray∧xs.length≤sizeLine:=by
 rcases h with h | ⟨o,its,n,hk,hc,hd,hs,hz,r⟩
 ·obtain⟨z,its,n,r,e⟩:=h.ok I.hok
  exact⟨its,r,⟨_,n,e,rfl,rfl,rfl⟩,z⟩
 ·refine⟨its.toList,r,⟨o,n,I.kIn a o hk,hc,hd,by simpa using hs⟩,?_⟩
  have e:=r.length
  simp only[Array.length_toList]at e
  omega
theorem Inv.tuple(I:Inv X pins σ H s)(h:SqT X.K H a xs):∃ its:List Value,Vals xs its∧IsTup s.heap a its.toArray∧xs.length≤sizeLine:=by
 rcases h with h | ⟨o,its,n,hk,hc,hs,hz,r⟩
 ·obtain⟨z,its,r,p⟩:=h.ok I.hok
  exact⟨its,r,p,z⟩
 ·refine⟨its.toList,r,⟨o,I.kIn a o hk,hc,n,by simpa using hs⟩,?_⟩
  have e:=r.length
  simp only[Array.length_toList]at e
  omega
theorem Inv.list_inj(I:Inv X pins σ H s)(h:SqL X.K H a xs)(h':SqL X.K H a ys):xs=ys:=by
 obtain⟨its,r,⟨o,n,e,_,_,d⟩,_⟩:=I.list h
 obtain⟨its',r',⟨o',n',e',_,_,d'⟩,_⟩:=I.list h'
 rw[e]at e';cases e'
 rw[d]at d'
 injection d' with d1 _
 have:its=its':=by simpa using congrArg Array.toList d1
 subst this
 exact r.inj r'
theorem Inv.tuple_inj(I:Inv X pins σ H s)(h:SqT X.K H a xs)(h':SqT X.K H a ys):xs=ys:=by
 obtain⟨its,r,⟨o,e,_,n,d⟩,_⟩:=I.tuple h
 obtain⟨its',r',⟨o',e',_,n',d'⟩,_⟩:=I.tuple h'
 rw[e]at e';cases e'
 rw[d]at d'
 injection d' with d1 _
 have:its=its':=by simpa using congrArg Array.toList d1
 subst this
 exact r.inj r'
end
abbrev Cx.wish(X:Cx)(E:Value→Shared→Prop):Cx:={ X with xe:=E }
abbrev Cx.nox(X:Cx):Cx:=X.wish fun _ _=>False
theorem Cx.Ok.wish{X:Cx}(ok:X.Ok)(E:Value→Shared→Prop):(X.wish E).Ok:=
 ⟨ok.mod,ok.kind,ok.glob,ok.blt,ok.above,ok.inj,ok.has,ok.cab,ok.hd,ok.frames,ok.stk,ok.exf,ok.bs,ok.bsz,ok.noex,ok.exfs,ok.funs,ok.frf⟩
theorem Cx.Ok.unwish{X:Cx}{E:Value→Shared→Prop}(ok:(X.wish E).Ok):X.Ok:=
 ⟨ok.mod,ok.kind,ok.glob,ok.blt,ok.above,ok.inj,ok.has,ok.cab,ok.hd,ok.frames,ok.stk,ok.exf,ok.bs,ok.bsz,ok.noex,ok.exfs,ok.funs,ok.frf⟩
section
variable{X:Cx}{pins:List (Addr×Obj)}{σ:St}{H:Hp}{s:Shared}{E:Value→Shared→Prop}
theorem Inv.wish(I:Inv X pins σ H s)(E:Value→Shared→Prop):Inv (X.wish E) pins σ H s:=⟨I.ok.wish E,I.os,I.bare,I.base,I.loc,I.cell,I.free,I.freeC,I.pin,I.hok,I.len⟩
theorem Inv.unwish(I:Inv (X.wish E) pins σ H s):Inv X pins σ H s:=⟨I.ok.unwish,I.os,I.bare,I.base,I.loc,I.cell,I.free,I.freeC,I.pin,I.hok,I.len⟩
theorem SP.unwish{D:Ends}{f:Flow}{s':Shared}(h:SP (X.wish E) pins D f s'):SP X pins D f s':=by
 cases f with
 | next=>obtain⟨σ',H',I,q⟩:=h;exact⟨σ',H',I.unwish,q⟩
 | brk=>obtain⟨σ',H',I,q⟩:=h;exact⟨σ',H',I.unwish,q⟩
 | cont=>obtain⟨σ',H',I,q⟩:=h;exact⟨σ',H',I.unwish,q⟩
 | ret u=>obtain⟨v,σ',H',I,r,q⟩:=h;exact⟨v,σ',H',I.unwish,r,q⟩
theorem PSs.nox{st:List Stmt}{t:TS}(h:PSs X.nox st t):PSs X st t:=fun pins s σ H D I hw=>
 wpAny_mono (h pins s σ H D (I.wish _) hw) (fun _ _ q=>q.unwish) fun _ _ z=>False.elim z
end
section
variable{X:Cx}{st:Stmt}{rest:List Stmt}{t u:TS}{e:Expr}{te:TE}{pos:Pos}
def tNext:TS:=fun D σ H=>D.nx σ H
def tSeq(t u:TS):TS:=fun D σ H=>t { D with nx:=u D } σ H
theorem pss_nil:PSs X [] tNext:=fun _ _ σ H _ I h=>wpAny_execs_nil ⟨σ,H,I,h⟩
theorem pss_cons(h1:PS X st t)(h2:PSs X rest u):PSs X (st::rest) (tSeq t u):=by
 intro pins s σ H D I h
 refine wpAny_execs_cons (thn (h1 pins s σ H { D with nx:=u D } I h) fun f s1 q=>?_)
 cases f with
 | next=>
  obtain⟨σ',H',I',q⟩:=q
  exact h2 pins s1 σ' H' D I' q
 | ret v=>exact q
 | brk=>exact q
 | cont=>exact q
theorem Inv.quiet{pins:List (Addr×Obj)}{σ:St}{H:Hp}{s:Shared}(I:Inv X pins σ H s):interactive X.env=false:=by simp[interactive,I.ok.kind]
def tDrop(te:TE):TS:=fun D σ H=>te σ H fun _ H1=>D.nx σ H1
theorem ps_expr(he:PE X e te)(hs:swapsWith e none pos.line X.env=pure false:=by rfl):PS X (.Expr e pos) (tDrop te):=by
 intro pins s σ H D I h
 exact wpAny_Expr_any (thn (he pins s σ H _ I h) fun v s1 ⟨x,H1,I1,r1,q1⟩=>⟨σ,H1,I1,q1⟩) I.quiet hs
def tRet(te:TE):TS:=fun D σ H=>te σ H D.rt
theorem ps_ret(he:PE X e te):PS X (.Return (some e) pos) (tRet te):=by
 intro pins s σ H D I h
 exact wpAny_Return_some (thn (he pins s σ H _ I h) fun v s1 ⟨x,H1,I1,r1,q1⟩=>⟨x,σ,H1,I1,r1,q1⟩)
def tIfS(c:TT)(t u:TS):TS:=fun D σ H=>c σ H fun b H1=>if b=true then t D σ H1 else u D σ H1
theorem ps_if{c:Expr}{a b:List Stmt}{tc:TT}(hc:PT X c tc)(ha:PSs X a t)(hb:PSs X b u):PS X (.If c a b pos) (tIfS tc t u):=by
 intro pins s σ H D I h
 refine wpAny_If (thn (hc pins s σ H _ I h) fun d s1 hq0=>?_)
 obtain⟨H1,I1,q1⟩:=hq0
 cases d with
 | true=>exact ha pins s1 σ H1 D I1 q1
 | false=>exact hb pins s1 σ H1 D I1 q1
end
abbrev TG:=V→St→Hp→(St→Hp→Prop)→Prop
abbrev TGs:=List V→St→Hp→(St→Hp→Prop)→Prop
def PG(X:Cx)(target:Expr)(t:TG):Prop:=
 ∀ (pins:List (Addr×Obj)) (s:Shared) (σ:St) (H:Hp) (v:V) (u:Value) (Q:St→Hp→Prop),Inv X pins σ H s→RelV v u→t v σ H Q→
  wpAny (model X.prog X.w) X.A (assign target X.env u) (fun _ s'=>∃ σ' H',Inv X pins σ' H' s'∧Q σ' H') X.xe s
def PGs(X:Cx)(ts:List Expr)(t:TGs):Prop:=
 ∀ (pins:List (Addr×Obj)) (s:Shared) (σ:St) (H:Hp) (vs:List V) (us:List Value) (Q:St→Hp→Prop),Inv X pins σ H s→Vals vs us→t vs σ H Q→
  wpAny (model X.prog X.w) X.A (assignInOrder ((assignEach ts X.env).map (·.2)) us) (fun _ s'=>∃ σ' H',Inv X pins σ' H' s'∧Q σ' H') X.xe s
section
variable{X:Cx}{pos:Pos}
def gName(i:Nat):TG:=fun v σ H Q=>Q (σ.set i (some v)) H
theorem pg_name{i:Nat}{x:Str}(hN:X.N.Nodup)(hi:X.N[i]?=some x)(hx:Loc X.env.scope x)(hf:X.fn x=true∨X.env.scope.names.lookup x=some .local:=by first | exact .inl rfl | exact .inr rfl | assumption):PG X (.Name x pos) (gName i):=by
 intro pins s σ H v u Q I r h
 exact wpAny_assign_Name (store_ok I hN hi hx r (fun s' I'=>⟨_,H,I',h⟩) hf)
def gNil:TGs:=fun vs σ H Q=>vs=[]∧Q σ H
def gCons(t:TG)(u:TGs):TGs:=fun vs σ H Q=>∃ v r,vs=v::r∧t v σ H fun σ' H'=>u r σ' H' Q
theorem pgs_nil:PGs X [] gNil:=by
 intro pins s σ H vs us Q I r h
 obtain⟨e,h⟩:=h
 subst e
 cases r
 exact assignInOrder_nil ⟨σ,H,I,h⟩
theorem pgs_cons{e:Expr}{es:List Expr}{t:TG}{u:TGs}(h1:PG X e t)(h2:PGs X es u)
  (hs:(assignEach (e::es) X.env).map (·.2)=assign e X.env::(assignEach es X.env).map (·.2):=by rfl):PGs X (e::es) (gCons t u):=by
 intro pins s σ H vs us Q I r h
 obtain⟨v,vr,e1,h⟩:=h
 subst e1
 cases r with
 | cons r rr=>
  rw[hs]
  refine assignInOrder_cons (thn (h1 pins s σ H _ _ _ I r h) fun _ s1 hq0=>?_)
  obtain⟨σ1,H1,I1,q1⟩:=hq0
  exact h2 pins s1 σ1 H1 _ _ Q I1 rr q1
def gTup(K:PySem.W.Frag)(n:Nat)(t:TGs):TG:=fun v σ H Q=>∃ a xs,v=.ref a∧SqT K H a xs∧xs.length=n∧t xs σ H Q
theorem pg_tup{es:List Expr}{k:Nat}{t:TGs}{n:Nat}(hc:X.calm=true)(h:PGs X es t)
  (hn:(assignEach es X.env).length=n:=by rfl) (hst:(assignEach es X.env).findIdx? (·.1)=none:=by rfl):PG X (.Tuple es k pos) (gTup X.K n t):=by
 intro pins s σ H v u Q I r hw
 obtain⟨a,xs,e1,hq,hl,hw⟩:=hw
 subst e1
 cases r
 obtain⟨its,rv,ht,hz⟩:=I.tuple hq
 refine assign_Tuple_tuple (I.ok.hd hc) ht (by simp[hn,← hl,rv.length]) hst fun h' hx=>?_
 have I1:Inv X pins σ H { s with heap:=h' }:=I.kept (t':=s.toks) fun b o e=>hx b o (Nat.ne_of_lt (Heap.lt_size e)) e
 exact h pins _ σ H xs _ Q I1 (by simpa using rv) hw
def tAsg(te:TE)(g:TG):TS:=fun D σ H=>te σ H fun x H1=>g x σ H1 D.nx
theorem ps_asg{tg e:Expr}{te:TE}{g:TG}(he:PE X e te)(hg:PG X tg g)(hs:swapsWithSole [tg] e pos.line X.env=pure false:=by rfl)(hw:swappedStores [tg] e X.env=pure none:=by rfl)
  (h1:(assignEach [tg] X.env).map (·.2)=[assign tg X.env]:=by rfl):PS X (.Assign [tg] e pos) (tAsg te g):=by
 intro pins s σ H D I h
 refine wpAny_Assign_stores (thn (he pins s σ H _ I h) fun v s1 hq0=>?_) hs hw
 obtain⟨x,H1,I1,r1,q1⟩:=hq0
 rw[h1]
 exact thn (hg pins s1 σ H1 x v _ I1 r1 q1) fun _ s2 q=>q
theorem ps_set{i:Nat}{x:Str}{e:Expr}{te:TE}{pos':Pos}(hN:X.N.Nodup)(hi:X.N[i]?=some x)(hx:Loc X.env.scope x)(he:PE X e te)(hs:swapsWith e (some (.Name x pos')) pos.line X.env=pure false:=by rfl)(hf:X.fn x=true∨X.env.scope.names.lookup x=some .local:=by first | exact .inl rfl | exact .inr rfl | assumption):
  PS X (.Assign [.Name x pos'] e pos) (tAsg te (gName i)):=by
 intro pins s σ H D I h
 refine wpAny_Assign_Name (thn (he pins s σ H _ I h) fun v s1 hq0=>?_) hs
 obtain⟨y,H1,I1,r1,q1⟩:=hq0
 exact store_ok I1 hN hi hx r1 (fun s2 I2=>⟨_,H1,I2,q1⟩) hf
end
section
variable{X:Cx}{pos:Pos}
end
structure It where
 go:Nat→Hp→Prop
 yld:Nat→Hp→V→Hp→Prop
 stop:Nat→Hp→Prop
def FpOk(X:Cx)(pins:List (Addr×Obj))(H:Hp)(b:Addr):Prop:=
 H b=none∧b≠X.env.locals∧b∉X.fs∧(b∈X.ex∨X.s₀.heap.objs.size≤b)∧(∀ x c,X.env.cells.lookup x=some c→c≠b)∧∀ p∈X.pn++pins,p.1≠b
theorem Inv.fpOk{X:Cx}{pins:List (Addr×Obj)}{σ:St}{H H':Hp}{s:Shared}{b:Addr}(I:Inv X pins σ H s)(hb:s.heap.objs.size≤b)(hn:H' b=none):FpOk X pins H' b:=by
 refine⟨hn,Nat.ne_of_gt (Nat.lt_of_lt_of_le I.lt hb),I.nofs hb,.inr (Nat.le_trans I.sz hb),fun x c e z=>?_,fun p hp z=>?_⟩
 ·obtain⟨v,q⟩:=I.cell x c e
  exact absurd (Nat.lt_of_lt_of_le q.lt (by rw[z];exact hb)) (Nat.lt_irrefl _)
 ·exact absurd (Nat.lt_of_lt_of_le (Heap.lt_size (I.pin p hp).1) (by rw[z];exact hb)) (Nat.lt_irrefl _)
structure Turn(P:Program)(w:World)(K:PySem.W.Frag)(tg:Expr)(J:It)(fp:List Addr)(it:Addr)(tn:Nat→Heap→Prop):Prop where
 mem:it∈fp
 obj:∀ i h,tn i h→∀ b∈fp,∃ o,h.get? b=some o∧∀ v,o.data≠.cell v
 keep:∀ i h h',tn i h→(∀ b∈fp,∀ o,h.get? b=some o→h'.get? b=some o)→tn i h'
 item:∀ (X:Cx),X.prog=P→X.w=w→X.K=K→X.calm=true→∀ (i:Nat) (pins:List (Addr×Obj)) (s:Shared) (σ:St) (H:Hp) (E:Value→Shared→Prop),Inv X pins σ H s→(∀ b∈fp,FpOk X pins H b)→tn i s.heap→J.go i H→
  wpAny (model P w) X.A (pyNext (.ref it)) (fun r s1=>∃ u,r=some u∧
   wpAny (model P w) X.A (letOwnedTupleGo tg (.ref it) u) (fun _ s2=>∃ x H',Inv X pins σ H' s2∧RelV x u∧J.yld i H x H'∧tn (i+1) s2.heap∧∀ b∈fp,H' b=none) E s1) E s
 done:∀ (X:Cx),X.prog=P→X.w=w→X.K=K→X.calm=true→∀ (i:Nat) (pins:List (Addr×Obj)) (s:Shared) (σ:St) (H:Hp) (E:Value→Shared→Prop),Inv X pins σ H s→(∀ b∈fp,FpOk X pins H b)→tn i s.heap→J.stop i H→
  wpAny (model P w) X.A (pyNext (.ref it)) (fun r s1=>r=none∧Inv X pins σ H s1) E s
 self:∀ (A:Around) (i:Nat) (s:Shared) (Q:Value→Shared→Prop) (E:Value→Shared→Prop),tn i s.heap→Q (.ref it) s→wpAny (model P w) A (pyIter (.ref it)) Q E s
abbrev TI:=St→Hp→(It→Hp→Prop)→Prop
def PIE(X:Cx)(pins:List (Addr×Obj))(σ:St)(tg:Expr)(R:It→Hp→Prop)(itv:Value)(s2:Shared):Prop:=
 ∃ (it:Addr) (fp:List Addr) (tn:Nat→Heap→Prop) (J:It) (H':Hp),itv=.ref it∧Inv X pins σ H' s2∧Turn X.prog X.w X.K tg J fp it tn∧tn 0 s2.heap∧(∀ b∈fp,FpOk X pins H' b)∧R J H'
def PI(X:Cx)(tg iter:Expr)(wi:TI):Prop:=
 ∀ (pins:List (Addr×Obj)) (s:Shared) (σ:St) (H:Hp) (R:It→Hp→Prop),Inv X pins σ H s→wi σ H R→
  wpAny (model X.prog X.w) X.A (eval iter X.env) (fun v s1=>wpAny (model X.prog X.w) X.A (pyIter v) (PIE X pins σ tg R) X.xe s1) X.xe s
theorem go_of {M : Model} {A : Around} {E : Value → Shared → Prop} {s : Shared} {tg : Expr} {it : Addr} {u : Value} {o : Obj} {n : String} {vs : Array Value} {Q : Unit → Shared → Prop} (ho : s.heap.get? it = some o) (hc : o.cls = .type n) (hd : o.data = .fields vs)
    (hn : ["enumerate", "zip", "dict_itemiterator", "dict_reverseitemiterator", "odict_iterator", "itertools.zip_longest", "itertools.pairwise"].contains n = false) (hQ : Q () s) : wpAny M A (letOwnedTupleGo tg (.ref it) u) Q E s := by
  unfold letOwnedTupleGo
  cases tg <;> first
    | exact wpAny_pure hQ
    | (cases u <;> first
        | exact wpAny_pure hQ
        | (refine wpAny_bind (wpAny_load ho ?_)
           rw [hc, hd]
           show wpAny M A (if (["enumerate", "zip", "dict_itemiterator", "dict_reverseitemiterator", "odict_iterator", "itertools.zip_longest", "itertools.pairwise"].contains n && vs[0]? == some (rawInt _)) = true then _ else _) Q E s
           rw [if_neg (by intro h; rw [hn, Bool.false_and] at h; cases h)]
           exact wpAny_pure hQ))
def Itl(K:PySem.W.Frag)(a:Addr):It:=
 ⟨fun i H=>∃ xs x,SqL K H a xs∧xs[i]?=some x,fun i H x H'=>H'=H∧∀ xs,SqL K H a xs→xs[i]?=some x,fun i H=>∃ xs,SqL K H a xs∧xs.length≤i⟩
def Itt(K:PySem.W.Frag)(a:Addr):It:=
 ⟨fun i H=>∃ xs x,SqT K H a xs∧xs[i]?=some x,fun i H x H'=>H'=H∧∀ xs,SqT K H a xs→xs[i]?=some x,fun i H=>∃ xs,SqT K H a xs∧xs.length≤i⟩
def Itr(lo:Int)(n:Nat):It:=⟨fun i _=>i<n,fun i H x H'=>H'=H∧x=.int (lo+i),fun i _=>n≤i⟩
theorem turn_list{P:Program}{w:World}{K:PySem.W.Frag}{tg:Expr}(a it:Addr):Turn P w K tg (Itl K a) [it] it (fun i h=>h.IsListIter it a i) where
 mem:=by simp
 obj:=fun i h st b hb=>by
  have e:b=it:=by simpa using hb
  subst e
  obtain⟨o,e,c,d⟩:=st
  exact⟨o,e,fun v z=>by rw[d]at z;cases z⟩
 keep:=fun i h h' st k=>st.at fun o e=>k it (by simp) o e
 item:=by
  intro X hP hw hK hc i pins s σ H E I hf st hg
  subst hP hw hK
  obtain⟨xs,x,hq,hx⟩:=hg
  obtain⟨its,rv,p,hz⟩:=I.list hq
  obtain⟨u,hu,ru⟩:=rv.get hx
  obtain⟨f0,f1,f2,f3,f4,f5⟩:=hf it (by simp)
  refine wpAny_pyNext_list_item st p.isList (x:=u) (by simpa using hu) fun h' st' sb=>?_
  have I1:Inv X pins σ H { s with heap:=h' }:=I.turned (t':=s.toks) (fun b o hb e=>(sb.2 b hb).trans e) f0 f1 f3 f4 f5
  obtain⟨o,e,c,d⟩:=id st'
  exact⟨u,rfl,go_of (s:={ s with heap:=h' }) e c d (by decide) ⟨x,H,I1,ru,⟨rfl,fun ys hy=>by rw[I.list_inj hy hq];exact hx⟩,st',fun b hb=>(hf b hb).1⟩⟩
 done:=by
  intro X hP hw hK hc i pins s σ H E I hf st hg
  subst hP hw hK
  obtain⟨xs,hq,hx⟩:=hg
  obtain⟨its,rv,p,hz⟩:=I.list hq
  obtain⟨f0,f1,f2,f3,f4,f5⟩:=hf it (by simp)
  have hl:=rv.length
  exact wpAny_pyNext_list_end (I.ok.hd hc) st p.isList (by simp;omega) fun h' eb=>⟨rfl,I.turned (t':=s.toks) (fun b o hb e=>eb b o hb e) f0 f1 f3 f4 f5⟩
 self:=fun _ _ _ _ _ st h=>wpAny_pyIter_listiter st h
theorem turn_tuple{P:Program}{w:World}{K:PySem.W.Frag}{tg:Expr}(a it:Addr):Turn P w K tg (Itt K a) [it] it (fun i h=>h.IsTupleIter it a i) where
 mem:=by simp
 obj:=fun i h st b hb=>by
  have e:b=it:=by simpa using hb
  subst e
  obtain⟨o,e,c,d⟩:=st
  exact⟨o,e,fun v z=>by rw[d]at z;cases z⟩
 keep:=fun i h h' st k=>st.at fun o e=>k it (by simp) o e
 item:=by
  intro X hP hw hK hc i pins s σ H E I hf st hg
  subst hP hw hK
  obtain⟨xs,x,hq,hx⟩:=hg
  obtain⟨its,rv,p,hz⟩:=I.tuple hq
  obtain⟨u,hu,ru⟩:=rv.get hx
  obtain⟨f0,f1,f2,f3,f4,f5⟩:=hf it (by simp)
  refine wpAny_pyNext_tuple_item st (show s.heap.IsTuple a its.toArray from p) (x:=u) (by simpa using hu) fun h' st' sb=>?_
  have I1:Inv X pins σ H { s with heap:=h' }:=I.turned (t':=s.toks) (fun b o hb e=>(sb.2 b hb).trans e) f0 f1 f3 f4 f5
  obtain⟨o,e,c,d⟩:=id st'
  exact⟨u,rfl,go_of (s:={ s with heap:=h' }) e c d (by decide) ⟨x,H,I1,ru,⟨rfl,fun ys hy=>by rw[I.tuple_inj hy hq];exact hx⟩,st',fun b hb=>(hf b hb).1⟩⟩
 done:=by
  intro X hP hw hK hc i pins s σ H E I hf st hg
  subst hP hw hK
  obtain⟨xs,hq,hx⟩:=hg
  obtain⟨its,rv,p,hz⟩:=I.tuple hq
  obtain⟨f0,f1,f2,f3,f4,f5⟩:=hf it (by simp)
  have hl:=rv.length
  exact wpAny_pyNext_tuple_end (I.ok.hd hc) st (show s.heap.IsTuple a its.toArray from p) (by simp;omega) fun h' eb=>⟨rfl,I.turned (t':=s.toks) (fun b o hb e=>eb b o hb e) f0 f1 f3 f4 f5⟩
 self:=fun _ _ _ _ _ st h=>wpAny_pyIter_tupleiter st h
theorem turn_range{P:Program}{w:World}{K:PySem.W.Frag}{tg:Expr}(it:Addr)(lo:Int)(n:Nat):Turn P w K tg (Itr lo n) [it] it (fun i h=>IsRangeIter h it (lo+(i:Nat)*1) ((n:Int)-(i:Nat)) 1) where
 mem:=by simp
 obj:=fun i h st b hb=>by
  have e:b=it:=by simpa using hb
  subst e
  exact⟨_,st,fun v z=>by
   have z':Data.fields _=Data.cell v:=z
   cases z'⟩
 keep:=fun i h h' st k=>k it (by simp) _ st
 item:=by
  intro X hP hw hK hc i pins s σ H E I hf st hg
  subst hP hw hK
  obtain⟨f0,f1,f2,f3,f4,f5⟩:=hf it (by simp)
  have W:=Walks.range (prog:=X.prog) (w:=X.w) (I.ok.hd hc) it lo 1 n
  refine W.item i s _ _ hg st fun v h' tk hv st' kk=>?_
  obtain⟨t,rfl⟩:=hv
  have I1:Inv X pins σ H { s with heap:=h',toks:=tk }:=I.turned (fun b o hb e=>kk b o (by simpa using hb) e) f0 f1 f3 f4 f5
  refine⟨_,rfl,go_of (s:={ s with heap:=h',toks:=tk }) (n:="range_iterator") st' rfl rfl (by decide) ⟨.int (lo+i),H,I1,⟨t,?_⟩,⟨rfl,rfl⟩,st',fun b hb=>(hf b hb).1⟩⟩
  rw[Int.mul_one]
 done:=by
  intro X hP hw hK hc i pins s σ H E I hf st hg
  subst hP hw hK
  obtain⟨f0,f1,f2,f3,f4,f5⟩:=hf it (by simp)
  exact wpAny_pyNext_range_end (I.ok.hd hc) st (by have:n≤i:=hg;omega) fun h' eb=>⟨rfl,I.turned (t':=s.toks) (fun b o hb e=>eb b o hb e) f0 f1 f3 f4 f5⟩
 self:=fun _ _ _ _ _ st h=>wpAny_pyIter_rangeiter st h
end L2
namespace L2
open PySem PySem.Spec PyProof.Rows
section
variable{X:Cx}{tg:Expr}
theorem range_it{pins:List (Addr×Obj)}{σ:St}{H:Hp}{s:Shared}{R:It→Hp→Prop}{E:Value→Shared→Prop}{lo hi:Int}{t u v:Tok}{tk:Nat}(I:Inv X pins σ H s)(h1:-(2 ^ 62)≤lo)(h2:lo<2 ^ 62)(h3:-(2 ^ 62)≤hi)(h4:hi<2 ^ 62)
  (q:R (Itr lo (hi-lo).toNat) H):wpAny (model X.prog X.w) X.A (pyIter (.ref s.heap.objs.size)) (PIE X pins σ tg R) E { s with heap:=s.heap.push { cls:=.type "range",data:=.fields #[.int lo t,.int hi u,.int 1 v] },toks:=tk }:=by
 refine wpAny_pyIter_range (IsRange.new ..) (small_one h1 h2 h3 h4) ?_
 have I1:Inv X pins σ H { s with heap:=s.heap.push { cls:=.type "range",data:=.fields #[.int lo t,.int hi u,.int 1 v] },toks:=tk }:=I.kept fun b o e=>Heap.get?_push_of_some _ e
 refine⟨(s.heap.push { cls:=.type "range",data:=.fields #[.int lo t,.int hi u,.int 1 v] }).objs.size,[(s.heap.push { cls:=.type "range",data:=.fields #[.int lo t,.int hi u,.int 1 v] }).objs.size],_,_,H,rfl,
  I1.kept (t':=tk) fun b o e=>Heap.get?_push_of_some _ e,turn_range _ lo (hi-lo).toNat,?_,fun b hb=>?_,q⟩
 ·have e1:lo+((0:Nat):Int)*1=lo:=by simp
  have e2:(((hi-lo).toNat:Nat):Int)-((0:Nat):Int)=Builtin.Range.rangeSize lo hi 1:=by rw[rangeSize_one];split<;>omega
  show IsRangeIter _ _ (lo+((0:Nat):Int)*1) ((((hi-lo).toNat:Nat):Int)-((0:Nat):Int)) 1
  rw[e1,e2]
  exact Heap.get?_push_size _ rfl
 ·have e:b=(s.heap.push { cls:=.type "range",data:=.fields #[.int lo t,.int hi u,.int 1 v] }).objs.size:=by simpa using hb
  subst e
  exact I1.fpOk (Nat.le_refl _) (I1.hok.fresh (Nat.le_refl _))
def iRng1(ta:TA):TI:=fun σ H R=>ta σ H fun vs H1=>∃ j:Int,vs=[.int j]∧-(2 ^ 62)≤j∧j<2 ^ 62∧R (Itr 0 j.toNat) H1
theorem pi_range1{a:Expr}{ta:TA}{p pos:Pos}(hg:Gl X "range")(hm:X.mg "range" = none)(ha:PA X [a] ta)(hs:starEach [a] X.env=[(false,eval a X.env)]:=by rfl):PI X tg (.Call (.Name "range" p) [a] [] pos) (iRng1 ta):=by
 intro pins s σ H R I h
 refine Call_ (ld_blt I hg hm boot_range (PyProof.Rows.callWith_type1 (thn (ha pos pins s σ H _ I h) fun us s1 hq0=>?_) hs rfl))
 obtain⟨vs,H1,I1,r1,q1⟩:=hq0
 obtain⟨j,e,q1,q2,q⟩:=q1
 subst e
 cases r1 with
 | cons r rr=>
  cases rr
  obtain⟨t,rfl⟩:=r
  exact call_range_1 (range_it I1 (by omega) (by omega) q1 q2 (by simpa using q))
def tFor(wi:TI)(g:TG)(tb:TS):TS:=fun D σ H=>wi σ H fun J H1=>∃ W:Nat→Nat→St→Hp→Prop,(∃ m,W 0 m σ H1)∧∀ i m σ H,W i m σ H→
 (J.stop i H∧D.nx σ H)∨(J.go i H∧∃ N:St→Hp→Prop,(∀ σ' H',N σ' H'→∃ m',m'<m∧W (i+1) m' σ' H')∧∀ x H',J.yld i H x H'→g x σ H' fun σ2 H2=>tb { D with nx:=N,ct:=N,bk:=D.nx } σ2 H2)
def pinsAt(fp:List Addr)(h:Heap):List (Addr×Obj):=fp.filterMap fun b=>(h.get? b).map fun o=>(b,o)
theorem mem_pinsAt{fp:List Addr}{h:Heap}{b:Addr}{o:Obj}(hb:b∈fp)(e:h.get? b=some o):(b,o)∈pinsAt fp h:=List.mem_filterMap.mpr ⟨b,hb,by rw[e];rfl⟩
theorem of_pinsAt{fp:List Addr}{h:Heap}{p:Addr×Obj}(hp:p∈pinsAt fp h):p.1∈fp∧h.get? p.1=some p.2:=by
 obtain⟨b,hb,e⟩:=List.mem_filterMap.mp hp
 cases q:h.get? b with
 | none=>rw[q]at e;cases e
 | some o=>
  rw[q]at e
  have e':(b,o)=p:=Option.some.inj e
  subst e'
  exact⟨hb,q⟩
theorem Inv.pinned{pins:List (Addr×Obj)}{σ:St}{H:Hp}{s:Shared}{fp:List Addr}(I:Inv X pins σ H s)(hf:∀ b∈fp,FpOk X pins H b)(ho:∀ b∈fp,∃ o,s.heap.get? b=some o∧∀ v,o.data≠.cell v):Inv X (pins++pinsAt fp s.heap) σ H s:=
 I.pins_of fun p hp=>(List.mem_append.mp hp).elim (fun z=>I.pin p (List.mem_append_right _ z)) fun z=>by
  obtain⟨hb,e⟩:=of_pinsAt z
  obtain⟨f0,f1,f2,_⟩:=hf p.1 hb
  obtain⟨o,e',d⟩:=ho p.1 hb
  rw[e]at e';cases e'
  exact⟨e,f0,f1,f2,d⟩
theorem Inv.unpinned{pins pl:List (Addr×Obj)}{σ:St}{H:Hp}{s:Shared}(I:Inv X (pins++pl) σ H s):Inv X pins σ H s:=I.pins_of fun p hp=>I.pin p (List.mem_append_right _ (List.mem_append_left _ hp))
theorem ps_for{iter:Expr}{body:List Stmt}{wi:TI}{g:TG}{tb:TS}{pos:Pos}(hp:PassesOwn (model X.prog X.w) X.A X.env X.xe)(hc:X.calm=true)(hi:PI X tg iter wi)(hg:PG X tg g)(hb:PSs X body tb)
  (hs:∀ x,foldedSetIterable iter X.env x=pure x:=by intro _;rfl):PS X (.For tg iter body [] pos) (tFor wi g tb):=by
 intro pins s σ H D I h
 refine wpAny_For (thn (hi pins s σ H _ I h) fun v s1 h1=>thn h1 fun itv s2 h2=>?_) hs
 obtain⟨it,fp,tn,J,H2,e,I2,T,st2,f2,W,⟨m0,w0⟩,turn⟩:=h2
 subst e
 have stat:∀ {H':Hp},(∀ b∈fp,H' b=none)→∀ b∈fp,FpOk X pins H' b:=fun hn b hb=>⟨hn b hb,(f2 b hb).2⟩
 refine codeAny_forLoop_any (fun n s'=>∃ i σ' H',Inv X pins σ' H' s'∧tn i s'.heap∧(∀ b∈fp,H' b=none)∧W i n σ' H') ?_ m0 ⟨0,σ,H2,I2,st2,fun b hb=>(f2 b hb).1,w0⟩
 rintro n s3 ⟨i,σ3,H3,I3,st3,fr3,w3⟩
 rcases turn i n σ3 H3 w3 with ⟨stop,qn⟩ | ⟨go,N,hN,step⟩
 ·refine wpAny_passesOwn hp (thn (T.done X rfl rfl rfl hc i pins s3 σ3 H3 X.xe I3 (stat fr3) st3 stop) fun r s4 hq0=>?_)
  obtain⟨hr,I4⟩:=hq0
  subst hr
  exact wpAny_execs_nil ⟨σ3,H3,I4,qn⟩
 ·refine wpAny_passesOwn hp (thn (T.item X rfl rfl rfl hc i pins s3 σ3 H3 X.xe I3 (stat fr3) st3 go) fun r s4 hq0=>?_)
  obtain⟨u,hr,h4⟩:=hq0
  subst hr
  refine wpAny_passesOwn hp (thn h4 fun _ s5 hq0=>?_)
  obtain⟨x,H5,I5,r5,y5,st5,fr5⟩:=hq0
  have I5':=I5.pinned (stat fr5) (T.obj _ _ st5)
  refine wpAny_passesOwn hp (thn (hg _ s5 σ3 H5 x u _ I5' r5 (step x H5 y5)) fun _ s6 hq0=>?_)
  obtain⟨σ6,H6,I6,q6⟩:=hq0
  refine wpAny_passesOwn hp (thn (hb _ s6 σ6 H6 _ I6 q6) fun f s7 q7=>?_)
  have again:∀ {σ7:St} {H7:Hp},Inv X (pins++pinsAt fp s5.heap) σ7 H7 s7→N σ7 H7→∃ m,m<n∧∃ i σ' H',Inv X pins σ' H' s7∧tn i s7.heap∧(∀ b∈fp,H' b=none)∧W i m σ' H':=fun {σ7 H7} I7 n7=>by
   obtain⟨m',hm,w7⟩:=hN σ7 H7 n7
   refine⟨m',hm,i+1,σ7,H7,I7.unpinned,T.keep _ _ _ st5 fun b hb o e=>(I7.pin (b,o) (List.mem_append_right _ (List.mem_append_right _ (mem_pinsAt hb e)))).1,fun b hb=>?_,w7⟩
   obtain⟨o,e,d⟩:=T.obj _ _ st5 b hb
   exact(I7.pin (b,o) (List.mem_append_right _ (List.mem_append_right _ (mem_pinsAt hb e)))).2.1
  cases f with
  | next=>obtain⟨σ7,H7,I7,n7⟩:=q7;exact again I7 n7
  | cont=>obtain⟨σ7,H7,I7,n7⟩:=q7;exact again I7 n7
  | brk=>obtain⟨σ7,H7,I7,q7⟩:=q7;exact⟨σ7,H7,I7.unpinned,q7⟩
  | ret v=>obtain⟨x7,σ7,H7,I7,r7,q7⟩:=q7;exact⟨x7,σ7,H7,I7.unpinned,r7,q7⟩
end
end L2
namespace L2
open PySem PySem.Spec PyProof.Rows
abbrev R2:=V→V→Hp→VK→Prop
def OpR(X:Cx)(f:Value→Value→Sem Value)(r:R2):Prop:=
 ∀ (pins:List (Addr×Obj)) (s:Shared) (σ:St) (H:Hp) (x y:V) (v u:Value) (Q:VK),Inv X pins σ H s→RelV x v→RelV y u→r x y H Q→
  wpAny (model X.prog X.w) X.A (f v u) (EP X pins σ Q) X.xe s
def UnR(X:Cx)(f:Value→Sem Value)(r:V→Hp→VK→Prop):Prop:=
 ∀ (pins:List (Addr×Obj)) (s:Shared) (σ:St) (H:Hp) (x:V) (v:Value) (Q:VK),Inv X pins σ H s→RelV x v→r x H Q→
  wpAny (model X.prog X.w) X.A (f v) (EP X pins σ Q) X.xe s
def CallR(X:Cx)(f:Value)(r:List V→Hp→VK→Prop):Prop:=
 ∀ (pins:List (Addr×Obj)) (s:Shared) (σ:St) (H:Hp) (xs:List V) (us:List Value) (Q:VK),Inv X pins σ H s→Vals xs us→r xs H Q→
  wpAny (model X.prog X.w) X.A (call f us) (EP X pins σ Q) X.xe s
def TruR(X:Cx)(r:V→Hp→(Bool→Hp→Prop)→Prop):Prop:=
 ∀ (pins:List (Addr×Obj)) (s:Shared) (σ:St) (H:Hp) (x:V) (v:Value) (Q:Bool→Hp→Prop),Inv X pins σ H s→RelV x v→r x H Q→
  wpAny (model X.prog X.w) X.A (truthy v) (TP X pins σ Q) X.xe s
def tOp(r:R2)(ta tb:TE):TE:=fun σ H Q=>ta σ H fun x H1=>tb σ H1 fun y H2=>r x y H2 Q
def tUn(r:V→Hp→VK→Prop)(ta:TE):TE:=fun σ H Q=>ta σ H fun x H1=>r x H1 Q
def rI(C:Int→Int→Prop)(g:Int→Int→V):R2:=fun x y H Q=>∃ i j,x=.int i∧y=.int j∧C i j∧Q (g i j) H
def rI0(g:Int→Int→V):R2:=fun x y H Q=>∃ i j,x=.int i∧y=.int j∧Q (g i j) H
def rU(g:Int→V):V→Hp→VK→Prop:=fun x H Q=>∃ i,x=.int i∧Q (g i) H
section
variable{X:Cx}{a b c:Expr}{ta tb tc:TE}{pos:Pos}
theorem binT(ha:PE X a ta)(hb:PE X b tb){pins:List (Addr×Obj)}{s:Shared}{σ:St}{H:Hp}{R:V→V→Hp→Prop}(I:Inv X pins σ H s)
  (h:ta σ H fun x H1=>tb σ H1 fun y H2=>R x y H2) {Q:Value→Shared→Prop} {f:Value→Value→Sem Value}
  (hf:∀ v u s2 x y H2,Inv X pins σ H2 s2→RelV x v→RelV y u→R x y H2→wpAny (model X.prog X.w) X.A (f v u) Q X.xe s2) :
  wpAny (model X.prog X.w) X.A (eval a X.env) (fun v s₁=>wpAny (model X.prog X.w) X.A (eval b X.env) (fun u s₂=>wpAny (model X.prog X.w) X.A (f v u) Q X.xe s₂) X.xe s₁) X.xe s:=by
 refine thn (ha pins s σ H _ I h) fun v s1 hq0=>?_
 obtain⟨x,H1,I1,r1,q1⟩:=hq0
 refine thn (hb pins s1 σ H1 _ I1 q1) fun u s2 hq0=>?_
 obtain⟨y,H2,I2,r2,q2⟩:=hq0
 exact hf v u s2 x y H2 I2 r1 r2 q2
theorem pe_op{op:Operator}{r:R2}(ho:OpR X (binaryOp op) r)(ha:PE X a ta)(hb:PE X b tb):PE X (.BinOp a op b pos) (tOp r ta tb):=by
 intro pins s σ H Q I h
 exact wpAny_BinOp (binT ha hb I h fun v u s2 x y H2 I2 rx ry q=>ho pins s2 σ H2 x y v u Q I2 rx ry q)
theorem pe_un{op:UnaryOp}{r:V→Hp→VK→Prop}(ho:UnR X (unaryOp op) r)(ha:PE X a ta):PE X (.UnaryOp op a pos) (tUn r ta):=by
 intro pins s σ H Q I h
 exact UnaryOp_ (thn (ha pins s σ H _ I h) fun v s1 ⟨x,H1,I1,r1,q1⟩=>ho pins s1 σ H1 x v Q I1 r1 q1)
theorem opI{f:Value→Value→Sem Value}{C:Int→Int→Prop}{g:Int→Int→Int}
  (rule:∀ (i j:Int) (t u:Tok) (s:Shared) (Q:Value→Shared→Prop) (E:Value→Shared→Prop),C i j→Q (.int (g i j) s.toks) { s with toks:=s.toks+1 }→wpAny (model X.prog X.w) X.A (f (.int i t) (.int j u)) Q E s) :
  OpR X f (rI C fun i j=>.int (g i j)):=by
 intro pins s σ H x y v u Q I rx ry h
 obtain⟨i,j,rfl,rfl,hc,q⟩:=h
 obtain⟨t,rfl⟩:=rx
 obtain⟨t',rfl⟩:=ry
 exact rule i j t t' s _ _ hc ⟨.int (g i j),H,I.tok _,⟨_,rfl⟩,q⟩
theorem opI0{f:Value→Value→Sem Value}{g:Int→Int→Int}
  (rule:∀ (i j:Int) (t u:Tok) (s:Shared) (Q:Value→Shared→Prop) (E:Value→Shared→Prop),Q (.int (g i j) s.toks) { s with toks:=s.toks+1 }→wpAny (model X.prog X.w) X.A (f (.int i t) (.int j u)) Q E s) :
  OpR X f (rI0 fun i j=>.int (g i j)):=by
 intro pins s σ H x y v u Q I rx ry h
 obtain⟨i,j,rfl,rfl,q⟩:=h
 obtain⟨t,rfl⟩:=rx
 obtain⟨t',rfl⟩:=ry
 exact rule i j t t' s _ _ ⟨.int (g i j),H,I.tok _,⟨_,rfl⟩,q⟩
theorem opB0{f:Value→Value→Sem Value}{g:Int→Int→Bool}
  (rule:∀ (i j:Int) (t u:Tok) (s:Shared) (Q:Value→Shared→Prop) (E:Value→Shared→Prop),Q (.bool (g i j)) s→wpAny (model X.prog X.w) X.A (f (.int i t) (.int j u)) Q E s) :
  OpR X f (rI0 fun i j=>.bl (g i j)):=by
 intro pins s σ H x y v u Q I rx ry h
 obtain⟨i,j,rfl,rfl,q⟩:=h
 obtain⟨t,rfl⟩:=rx
 obtain⟨t',rfl⟩:=ry
 exact rule i j t t' s _ _ ⟨.bl (g i j),H,I,rfl,q⟩
def CDiv(i j:Int):Prop:=0<j∧j<1073741824
def CMul(i j:Int):Prop:=(-(2 ^ 64)<i∧i<2 ^ 64)∨(-(2 ^ 64)<j∧j<2 ^ 64)
theorem CMul.ok{i j:Int}(h:CMul i j):IntMulOk i j:=by
 rcases h with ⟨h1,h2⟩ | ⟨h1,h2⟩
 ·exact .of_left (intBits_le_64 h1 h2)
 ·exact .of_right (intBits_le_64 h1 h2)
theorem op_add:OpR X (binaryOp .Add) (rI0 fun i j=>.int (i+j)):=opI0 fun _ _ _ _ _ _ _ q=>add_int q
theorem op_sub:OpR X (binaryOp .Sub) (rI0 fun i j=>.int (i-j)):=opI0 fun _ _ _ _ _ _ _ q=>sub_int q
theorem op_mul:OpR X (binaryOp .Mult) (rI CMul fun i j=>.int (i*j)):=opI fun _ _ _ _ _ _ _ hc q=>mul_int q hc.ok
theorem op_fdiv:OpR X (binaryOp .FloorDiv) (rI CDiv fun i j=>.int (i / j)):=opI fun i j _ _ _ _ _ hc q=>by
 have h1:(0:Int)<j:=hc.1
 have h2:j<1073741824:=hc.2
 exact floordiv_int (by omega) (by rw[Int.fdiv_eq_ediv_of_nonneg i (by omega)];exact q) (.inl (PyProof.noPylong_small (by omega)))
theorem op_mod:OpR X (binaryOp .Mod) (rI (fun _ j=>0<j) fun i j=>.int (i % j)):=opI fun i j _ _ _ _ _ hc q=>by
 have h1:(0:Int)<j:=hc
 exact mod_int' (by omega) (by rw[Int.fmod_eq_emod_of_nonneg i (by omega)];exact q)
theorem unI{f:Value→Sem Value}{g:Int→Int}
  (rule:∀ (i:Int) (t:Tok) (s:Shared) (Q:Value→Shared→Prop) (E:Value→Shared→Prop),Q (.int (g i) s.toks) { s with toks:=s.toks+1 }→wpAny (model X.prog X.w) X.A (f (.int i t)) Q E s) :
  UnR X f (rU fun i=>.int (g i)):=by
 intro pins s σ H x v Q I rx h
 obtain⟨i,rfl,q⟩:=h
 obtain⟨t,rfl⟩:=rx
 exact rule i t s _ _ ⟨.int (g i),H,I.tok _,⟨_,rfl⟩,q⟩
theorem un_neg:UnR X (unaryOp .USub) (rU fun i=>.int (-i)):=unI fun _ _ _ _ _ q=>neg_int q
end
def scal:V→V→Bool
 | .non,.non=>true | .non,.int _=>true | .int _,.non=>true | .non,.bl _=>true | .bl _,.non=>true | .non,.str _=>true | .str _,.non=>true
 | .int _,.int _=>true | .bl _,.bl _=>true | .str _,.str _=>true | .byt _,.byt _=>true
 | .int _,.str _=>true | .str _,.int _=>true | .bl _,.str _=>true | .str _,.bl _=>true
 | _,_=>false
def rEq:R2:=fun x y H Q=>scal x y=true∧Q (.bl (decide (x=y))) H
def rNe:R2:=fun x y H Q=>scal x y=true∧Q (.bl (!decide (x=y))) H
theorem dec_int{i j:Int}:decide (V.int i=V.int j)=(i==j):=by
 rw[Bool.eq_iff_iff]
 simp
theorem dec_bl{i j:Bool}:decide (V.bl i=V.bl j)=(i==j):=by
 rw[Bool.eq_iff_iff]
 simp
theorem dec_str{i j:Str}:decide (V.str i=V.str j)=(i==j):=by
 rw[Bool.eq_iff_iff]
 simp
theorem dec_byt{i j:Array UInt8}:decide (V.byt i=V.byt j)=(i.toList==j.toList):=by
 rw[Bool.eq_iff_iff]
 cases i
 cases j
 simp
section
variable{X:Cx}{a b c:Expr}{ta tb tc:TE}{pos:Pos}
theorem fin_bl{pins:List (Addr×Obj)}{σ:St}{H:Hp}{s:Shared}{Q:VK}{k k':Bool}(I:Inv X pins σ H s)(q:Q (.bl k) H)(e:k=k'):EP X pins σ Q (.bool k') s:=by
 subst e
 exact⟨.bl k,H,I,rfl,q⟩
theorem op_eq:OpR X (compareOp .Eq) rEq:=by
 intro pins s σ H x y v u Q I rx ry h
 obtain⟨hs,q⟩:=h
 cases x with
 | non=>
  cases rx
  cases y with
  | non=>cases ry;exact PySem.EqNone.eq_none_none (fin_bl I q (by simp))
  | bl j=>cases ry;exact PySem.EqNone.eq_none_bool (fin_bl I q (by simp))
  | int j=>obtain⟨t',rfl⟩:=ry;exact PySem.EqNone.eq_none_int (fin_bl I q (by simp))
  | str j=>obtain⟨t',rfl⟩:=ry;exact PySem.EqNone.eq_none_str (fin_bl I q (by simp))
  | _=>exact absurd (show false=true from hs) Bool.false_ne_true
 | bl i=>
  cases rx
  cases y with
  | non=>cases ry;exact PySem.EqNone.eq_bool_none (fin_bl I q (by simp))
  | bl j=>cases ry;exact eq_bool (fin_bl I q dec_bl)
  | str j=>obtain⟨t',rfl⟩:=ry;exact PySem.EqMixed.eq_bool_str (fin_bl I q (by simp))
  | _=>exact absurd (show false=true from hs) Bool.false_ne_true
 | int i=>
  obtain⟨t,rfl⟩:=rx
  cases y with
  | non=>cases ry;exact PySem.EqNone.eq_int_none (fin_bl I q (by simp))
  | int j=>obtain⟨t',rfl⟩:=ry;exact eq_int (fin_bl I q dec_int)
  | str j=>obtain⟨t',rfl⟩:=ry;exact PySem.EqMixed.eq_int_str (fin_bl I q (by simp))
  | _=>exact absurd (show false=true from hs) Bool.false_ne_true
 | str i=>
  obtain⟨t,rfl⟩:=rx
  cases y with
  | non=>cases ry;exact PySem.EqNone.eq_str_none (fin_bl I q (by simp))
  | bl j=>cases ry;exact PySem.EqMixed.eq_str_bool (fin_bl I q (by simp))
  | int j=>obtain⟨t',rfl⟩:=ry;exact PySem.EqMixed.eq_str_int (fin_bl I q (by simp))
  | str j=>obtain⟨t',rfl⟩:=ry;exact eq_str (fin_bl I q dec_str)
  | _=>exact absurd (show false=true from hs) Bool.false_ne_true
 | byt i=>
  obtain⟨t,rfl⟩:=rx
  cases y with
  | byt j=>obtain⟨t',rfl⟩:=ry;exact PySem.W.eq_bytes (fin_bl I q dec_byt)
  | _=>exact absurd (show false=true from hs) Bool.false_ne_true
 | _=>cases y<;>exact absurd (show false=true from hs) Bool.false_ne_true
theorem op_ne:OpR X (compareOp .NotEq) rNe:=by
 intro pins s σ H x y v u Q I rx ry h
 obtain⟨hs,q⟩:=h
 cases x with
 | non=>
  cases rx
  cases y with
  | non=>cases ry;exact PySem.EqNone.ne_none_none (fin_bl I q (by simp))
  | bl j=>cases ry;exact PySem.EqNone.ne_none_bool (fin_bl I q (by simp))
  | int j=>obtain⟨t',rfl⟩:=ry;exact PySem.EqNone.ne_none_int (fin_bl I q (by simp))
  | str j=>obtain⟨t',rfl⟩:=ry;exact PySem.EqNone.ne_none_str (fin_bl I q (by simp))
  | _=>exact absurd (show false=true from hs) Bool.false_ne_true
 | bl i=>
  cases rx
  cases y with
  | non=>cases ry;exact PySem.EqNone.ne_bool_none (fin_bl I q (by simp))
  | bl j=>cases ry;exact ne_bool (fin_bl I q (congrArg not dec_bl))
  | str j=>obtain⟨t',rfl⟩:=ry;exact PySem.EqMixed.ne_bool_str (fin_bl I q (by simp))
  | _=>exact absurd (show false=true from hs) Bool.false_ne_true
 | int i=>
  obtain⟨t,rfl⟩:=rx
  cases y with
  | non=>cases ry;exact PySem.EqNone.ne_int_none (fin_bl I q (by simp))
  | int j=>obtain⟨t',rfl⟩:=ry;exact ne_int (fin_bl I q (congrArg not dec_int))
  | str j=>obtain⟨t',rfl⟩:=ry;exact PySem.EqMixed.ne_int_str (fin_bl I q (by simp))
  | _=>exact absurd (show false=true from hs) Bool.false_ne_true
 | str i=>
  obtain⟨t,rfl⟩:=rx
  cases y with
  | non=>cases ry;exact PySem.EqNone.ne_str_none (fin_bl I q (by simp))
  | bl j=>cases ry;exact PySem.EqMixed.ne_str_bool (fin_bl I q (by simp))
  | int j=>obtain⟨t',rfl⟩:=ry;exact PySem.EqMixed.ne_str_int (fin_bl I q (by simp))
  | str j=>obtain⟨t',rfl⟩:=ry;exact ne_str (fin_bl I q (congrArg not dec_str))
  | _=>exact absurd (show false=true from hs) Bool.false_ne_true
 | byt i=>
  obtain⟨t,rfl⟩:=rx
  cases y with
  | byt j=>obtain⟨t',rfl⟩:=ry;exact PySem.W.ne_bytes (fin_bl I q (congrArg not dec_byt))
  | _=>exact absurd (show false=true from hs) Bool.false_ne_true
 | _=>cases y<;>exact absurd (show false=true from hs) Bool.false_ne_true
theorem op_lt:OpR X (compareOp .Lt) (rI0 fun i j=>.bl (decide (i<j))):=opB0 fun _ _ _ _ _ _ _ q=>lt_int q
theorem op_le:OpR X (compareOp .LtE) (rI0 fun i j=>.bl (decide (i≤j))):=opB0 fun _ _ _ _ _ _ _ q=>le_int q
theorem op_gt:OpR X (compareOp .Gt) (rI0 fun i j=>.bl (decide (j<i))):=opB0 fun _ _ _ _ _ _ _ q=>gt_int q
theorem op_ge:OpR X (compareOp .GtE) (rI0 fun i j=>.bl (decide (j≤i))):=opB0 fun _ _ _ _ _ _ _ q=>ge_int q
theorem op_in_str:OpR X (compareOp .In) (fun x y H Q=>∃ i j,x=.str i∧y=.str j∧Q (.bl (!(Builtin.Str.occurrences j i 0 j.length 1).isEmpty)) H):=by
 intro pins s σ H x y v u Q I rx ry h
 obtain⟨i,j,rfl,rfl,q⟩:=h
 obtain⟨t,rfl⟩:=rx
 obtain⟨t',rfl⟩:=ry
 exact in_str (fin_bl I q rfl)
theorem op_isN:OpR X (compareOp .Is) (fun x y H Q=>y=.non∧Q (.bl (decide (x=.non))) H):=by
 intro pins s σ H x y v u Q I rx ry h
 obtain⟨rfl,q⟩:=h
 cases ry
 refine is_none_gen (fin_bl I q ?_)
 cases x<;>first
  | (cases rx;rfl)
  | (obtain⟨t,rfl⟩:=rx;rfl)
theorem op_notN:OpR X (compareOp .IsNot) (fun x y H Q=>y=.non∧Q (.bl (!decide (x=.non))) H):=by
 intro pins s σ H x y v u Q I rx ry h
 obtain⟨rfl,q⟩:=h
 cases ry
 refine isnot_none_gen (fin_bl I q ?_)
 cases x<;>first
  | (cases rx;rfl)
  | (obtain⟨t,rfl⟩:=rx;rfl)
theorem OpR.or{f:Value→Value→Sem Value}{r r':R2}(h:OpR X f r)(h':OpR X f r'):OpR X f (fun x y H Q=>r x y H Q∨r' x y H Q):=by
 intro pins s σ H x y v u Q I rx ry q
 rcases q with q | q
 ·exact h pins s σ H x y v u Q I rx ry q
 ·exact h' pins s σ H x y v u Q I rx ry q
theorem pe_cmpR{op:CmpOp}{r:R2}(ho:OpR X (compareOp op) r)(ha:PE X a ta)(hb:PE X b tb)(hm:behindInMarks op b=false):PE X (.Compare a [op] [b] pos) (tOp r ta tb):=by
 intro pins s σ H Q I h
 exact wpAny_Compare1 (binT ha hb I h fun v u s2 x y H2 I2 rx ry q=>ho pins s2 σ H2 x y v u Q I2 rx ry q) hm
def tTest(t:TE):TT:=fun σ H Q=>t σ H fun x H'=>∃ k,x=.bl k∧Q k H'
theorem pt_cmpR{op:CmpOp}{r:R2}(ho:OpR X (compareOp op) r)(ha:PE X a ta)(hb:PE X b tb)(hm:behindInMarks op b=false):PT X (.Compare a [op] [b] pos) (tTest (tOp r ta tb)):=by
 intro pins s σ H Q I h
 refine wpAny_isTrue_Compare1 (thn (ha pins s σ H _ I h) fun v s1 ⟨x,H1,I1,r1,q1⟩=>thn (hb pins s1 σ H1 _ I1 q1) fun u s2 ⟨y,H2,I2,r2,q2⟩=>
  thn (ho pins s2 σ H2 x y v u _ I2 r1 r2 q2) fun c s3 ⟨z,H3,I3,r3,k,e,q3⟩=>?_) hm
 subst e
 cases r3
 exact wpAny_truthy_bool ⟨H3,I3,q3⟩
def tChain(r r':R2)(ta tb tc:TE):TE:=fun σ H Q=>ta σ H fun x H1=>tb σ H1 fun y H2=>r x y H2 fun z H3=>∃ k,z=.bl k∧
 (if k=true then tc σ H3 fun w' H4=>r' y w' H4 Q else Q (.bl false) H3)
theorem pe_chain{op op':CmpOp}{r r':R2}(ho:OpR X (compareOp op) r)(ho':OpR X (compareOp op') r')(ha:PE X a ta)(hb:PE X b tb)(hc:PE X c tc)
  (hm:lastMarks [op,op'] [b,c]=false:=by with_unfolding_all rfl):PE X (.Compare a [op,op'] [b,c] pos) (tChain r r' ta tb tc):=by
 intro pins s σ H Q I h
 refine Compare_chain (thn (ha pins s σ H _ I h) fun v s1 ⟨x,H1,I1,r1,q1⟩=>chain_link (thn (hb pins s1 σ H1 _ I1 q1) fun u s2 ⟨y,H2,I2,r2,q2⟩=>
  thn (ho pins s2 σ H2 x y v u _ I2 r1 r2 q2) fun d s3 ⟨z,H3,I3,r3,k,e,q3⟩=>?_)) hm
 subst e
 cases r3
 refine wpAny_truthy_bool ?_
 cases k with
 | false=>exact ite_ff ⟨.bl false,H3,I3,rfl,q3⟩
 | true=>exact ite_tt (chain_last (thn (hc pins s3 σ H3 _ I3 q3) fun w' s4 ⟨z',H4,I4,r4,q4⟩=>ho' pins s4 σ H4 y z' u w' Q I4 r2 r4 q4))
theorem pt_chain{op op':CmpOp}{r r':R2}(ho:OpR X (compareOp op) r)(ho':OpR X (compareOp op') r')(ha:PE X a ta)(hb:PE X b tb)(hc:PE X c tc)
  (hm:lastMarks [op,op'] [b,c]=false:=by with_unfolding_all rfl):PT X (.Compare a [op,op'] [b,c] pos) (tTest (tChain r r' ta tb tc)):=by
 intro pins s σ H Q I h
 refine isTrue_chain (thn (ha pins s σ H _ I h) fun v s1 ⟨x,H1,I1,r1,q1⟩=>test_link (thn (hb pins s1 σ H1 _ I1 q1) fun u s2 ⟨y,H2,I2,r2,q2⟩=>
  thn (ho pins s2 σ H2 x y v u _ I2 r1 r2 q2) fun d s3 ⟨z,H3,I3,r3,k,e,q3⟩=>?_)) hm
 subst e
 cases r3
 refine wpAny_truthy_bool ?_
 cases k with
 | false=>
  obtain⟨k',e',q'⟩:=q3
  cases e'
  exact ite_ff ⟨H3,I3,q'⟩
 | true=>
  refine ite_tt (test_last (thn (hc pins s3 σ H3 _ I3 q3) fun w' s4 ⟨z',H4,I4,r4,q4⟩=>thn (ho' pins s4 σ H4 y z' u w' _ I4 r2 r4 q4) fun d' s5 hq0=>?_))
  obtain⟨z2,H5,I5,r5,k2,e2,q5⟩:=hq0
  subst e2
  cases r5
  exact wpAny_truthy_bool ⟨H5,I5,q5⟩
def TruV(K:PySem.W.Frag)(x:V)(H:Hp)(k:Bool):Prop:=
 match x with
 | .non=>k=false
 | .bl b=>k=b
 | .int i=>k=(i != 0)
 | .str y=>y.length≤sizeLine∧k=((y.length:Int) != 0)
 | .byt y=>y.size≤sizeLine∧k=((y.size:Int) != 0)
 | .ref p=>(∃ xs,SqL K H p xs∧k=!xs.isEmpty)∨(∃ xs,SqT K H p xs∧k=!xs.isEmpty)∨∃ kvs,H p=some (.dK kvs)∧k=!kvs.isEmpty
 | _=>False
theorem isEmpty_kv{κ:Type}{kvs:List (κ×V)}{vs:List (κ×Value)}(r:KV kvs vs):(!vs.isEmpty)=!kvs.isEmpty:=by
 cases r<;>rfl
theorem isEmpty_of{xs:List V}{its:List Value}(r:Vals xs its):(!its.toArray.isEmpty)=!xs.isEmpty:=by
 cases r<;>simp
theorem line63:(sizeLine:Nat)<2 ^ 63:=by rw[sizeLine_eq];decide
theorem tru_ok:TruR X (fun x H Q=>∃ k,TruV X.K x H k∧Q k H):=by
 intro pins s σ H x v Q I rx h
 obtain⟨k,e,q⟩:=h
 have hl:=line63
 have hs:sizeLine=16777216:=sizeLine_eq
 cases x with
 | non=>
  cases rx
  have e':k=false:=e
  subst e'
  exact truthy_none ⟨H,I,q⟩
 | bl b=>
  cases rx
  have e':k=b:=e
  subst e'
  exact wpAny_truthy_bool ⟨H,I,q⟩
 | int i=>
  obtain⟨t,rfl⟩:=rx
  have e':k=(i != 0):=e
  subst e'
  exact PySem.P.truthy_int ⟨H,I,q⟩
 | str y=>
  obtain⟨t,rfl⟩:=rx
  obtain⟨hy,e'⟩:y.length≤sizeLine∧k=((y.length:Int) != 0):=e
  subst e'
  exact PySem.P.truthy_str (by omega) ⟨H,I.tok _,q⟩
 | byt y=>
  obtain⟨t,rfl⟩:=rx
  obtain⟨hy,e'⟩:y.size≤sizeLine∧k=((y.size:Int) != 0):=e
  subst e'
  exact PySem.W.truthy_bytes (by omega) ⟨H,I.tok _,q⟩
 | ref p=>
  cases rx
  have e':(∃ xs,SqL X.K H p xs∧k=!xs.isEmpty)∨(∃ xs,SqT X.K H p xs∧k=!xs.isEmpty)∨∃ kvs,H p=some (.dK kvs)∧k=!kvs.isEmpty:=e
  rcases e' with ⟨xs,hx,e'⟩ | ⟨xs,hx,e'⟩ | ⟨kvs,hx,e'⟩
  ·subst e'
   obtain⟨its,r,pl,hz⟩:=I.list hx
   have hlen:=r.length
   exact wpAny_truthy_list pl.isList (by simp only[List.size_toArray];omega) ⟨H,I.tok _,by rw[isEmpty_of r];exact q⟩
  ·subst e'
   obtain⟨its,r,pl,hz⟩:=I.tuple hx
   have hlen:=r.length
   exact truthy_tuple pl (by simp only[List.size_toArray];omega) ⟨H,I.tok _,by rw[isEmpty_of r];exact q⟩
  ·subst e'
   obtain⟨hz,hS,vs,r,m⟩:kvs.length≤sizeLine∧(p==sysModules)=false∧∃ vs,KV kvs vs∧s.heap.DictOf (mixKind X.prog X.w) p vs:=I.hok p _ hx
   have hlen:kvs.length=vs.length:=Paired.length r
   exact wpAny_truthy_dict hS m (by omega) ⟨H,I.tok _,by rw[isEmpty_kv r];exact q⟩
 | _=>exact(show False from e).elim
theorem pt_truth(ha:PE X a ta)(he:∀ whole,isTrue a X.env whole=(do let v ← whole;standAt a.pos;holding [v] (truthy v))):
  PT X a (fun σ H Q=>ta σ H fun x H'=>∃ k,TruV X.K x H' k∧Q k H'):=by
 intro pins s σ H Q I h
 exact isTrue_plain (thn (ha pins s σ H _ I h) fun v s1 ⟨x,H1,I1,r1,q1⟩=>tru_ok pins s1 σ H1 x v Q I1 r1 q1) (he _)
theorem op_add_str:OpR X (binaryOp .Add) (fun x y H Q=>∃ i j,x=.str i∧y=.str j∧i.length+j.length≤sizeLine∧Q (.str (i++j)) H):=by
 intro pins s σ H x y v u Q I rx ry h
 obtain⟨i,j,rfl,rfl,hz,q⟩:=h
 obtain⟨t,rfl⟩:=rx
 obtain⟨t',rfl⟩:=ry
 exact add_str (fun t' tk=>⟨.str (i++j),H,I.tok _,⟨_,rfl⟩,q⟩) hz
theorem vals1{x:V}{us:List Value}(r:Vals [x] us):∃ u,us=[u]∧RelV x u:=by
 cases r with
 | cons r1 r2=>cases r2;exact⟨_,rfl,r1⟩
theorem vals2{x y:V}{us:List Value}(r:Vals [x,y] us):∃ u w',us=[u,w']∧RelV x u∧RelV y w':=by
 cases r with
 | cons r1 r2=>
  cases r2 with
  | cons r3 r4=>cases r4;exact⟨_,_,rfl,r1,r3⟩
theorem call_max2(hc:X.calm=true):CallR X (.builtin "max") (fun xs H Q=>∃ i j,xs=[.int i,.int j]∧Q (.int (if j > i then j else i)) H):=by
 intro pins s σ H xs us Q I r h
 obtain⟨i,j,rfl,q⟩:=h
 obtain⟨u,w',rfl,⟨t,rfl⟩,⟨t',rfl⟩⟩:=vals2 r
 refine max_two_ints (I.ok.hd hc) fun h' tk k=>⟨_,H,I.kept k,?_,q⟩
 by_cases hj:j > i
 ·rw[if_pos hj,if_pos hj];exact⟨_,rfl⟩
 ·rw[if_neg hj,if_neg hj];exact⟨_,rfl⟩
theorem call_int1:CallR X (.type "int") (fun xs H Q=>(∃ i,xs=[.int i]∧Q (.int i) H)∨∃ k,xs=[.bl k]∧Q (.int (if k then 1 else 0)) H):=by
 intro pins s σ H xs us Q I r h
 rcases h with ⟨i,rfl,q⟩ | ⟨k,rfl,q⟩
 ·obtain⟨u,rfl,t,rfl⟩:=vals1 r
  exact call_int_int ⟨.int i,H,I,⟨_,rfl⟩,q⟩
 ·obtain⟨u,rfl,r1⟩:=vals1 r
  cases r1
  exact call_int_bool ⟨.int (if k then 1 else 0),H,I.tok _,⟨_,rfl⟩,q⟩
def LenV(K:PySem.W.Frag)(x:V)(H:Hp)(n:Nat):Prop:=
 match x with
 | .str y=>y.length≤sizeLine∧n=y.length
 | .byt y=>y.size≤sizeLine∧n=y.size
 | .ref p=>(∃ xs,SqL K H p xs∧n=xs.length)∨∃ xs,SqT K H p xs∧n=xs.length
 | _=>False
theorem call_len:CallR X (.builtin "len") (fun xs H Q=>∃ x n,xs=[x]∧LenV X.K x H n∧Q (.int n) H):=by
 intro pins s σ H xs us Q I r h
 obtain⟨x,n,rfl,e,q⟩:=h
 obtain⟨u,rfl,rx⟩:=vals1 r
 have hl:=line63
 have hs:sizeLine=16777216:=sizeLine_eq
 cases x with
 | str y=>
  obtain⟨t,rfl⟩:=rx
  obtain⟨hy,e'⟩:y.length≤sizeLine∧n=y.length:=e
  subst e'
  exact len_str (by omega) ⟨.int _,H,I.tok _,⟨_,rfl⟩,q⟩
 | byt y=>
  obtain⟨t,rfl⟩:=rx
  obtain⟨hy,e'⟩:y.size≤sizeLine∧n=y.size:=e
  subst e'
  exact PySem.W.len_bytes (by omega) ⟨.int _,H,I.tok _,⟨_,rfl⟩,q⟩
 | ref p=>
  cases rx
  have e':(∃ xs,SqL X.K H p xs∧n=xs.length)∨∃ xs,SqT X.K H p xs∧n=xs.length:=e
  rcases e' with ⟨xs,hx,e'⟩ | ⟨xs,hx,e'⟩
  ·subst e'
   obtain⟨its,r',pl,hz⟩:=I.list hx
   have hlen:=r'.length
   exact Calls.call_len_list pl.isList (by simp only[List.size_toArray];omega) ⟨.int xs.length,H,I.tok _,⟨_,by simp only[List.size_toArray];rw[hlen]⟩,q⟩
  ·subst e'
   obtain⟨its,r',pl,hz⟩:=I.tuple hx
   have hlen:=r'.length
   exact len_tuple pl (by simp only[List.size_toArray];omega) ⟨.int xs.length,H,I.tok _,⟨_,by simp only[List.size_toArray];rw[hlen]⟩,q⟩
 | _=>exact(show False from e).elim
end
end L2
namespace L2
open PySem PySem.Spec PyProof.Rows
section
variable{prog:Program}{w:World}{A:Around}{E:Value→Shared→Prop}{s:Shared}{K:PySem.W.Frag}{x dx C f:Addr}{mA:Str→Option Value}{name:Str}{v:Value}
end
section
variable{P:Program}{w:World}{H H':Hp}{h h':Heap}{a C dx:Addr}{fs fs':List (Str×V)}
end
structure Cls(K:PySem.W.Frag)(C:Addr):Prop where
 pg:PySem.W.plainGet K C Str.empty=true
 hd:PySem.W.hasDictIn K C=true
 po:PySem.W.plainOver K C=true
 sa:PySem.W.findIn K (.ref C) "__setattr__" = some (some (.builtin "object.__setattr__"))
section
variable{X:Cx}{pins:List (Addr×Obj)}{σ:St}{H:Hp}{s:Shared}{a C dx:Addr}{fs:List (Str×V)}{f:Str}{v:V}{A:Around}{E:Value→Shared→Prop}
end
section
variable{X:Cx}{o e value:Expr}{f:Str}{pos pos' tpos:Pos}{ta tv:TE}
end
section
variable{X:Cx}{pins:List (Addr×Obj)}{σ:St}{H:Hp}{s:Shared}{A:Around}{E:Value→Shared→Prop}{Q:Value→Shared→Prop}{c:Value}{b:Bool}
inductive TyOf (K:PySem.W.Frag) (H:Hp):V→Value→Prop where
 | non:TyOf K H .non (.type "NoneType")
 | bl (x:Bool):TyOf K H (.bl x) (.type "bool")
 | int (i:Int):TyOf K H (.int i) (.type "int")
 | str (x:Str):TyOf K H (.str x) (.type "str")
 | flt (x:UInt64):TyOf K H (.flt x) (.type "float")
 | lst {a:Addr} {xs:List V} (e:H a=some (.lst xs)):TyOf K H (.ref a) (.type "list")
 | frz {a:Addr} {o:Obj} {xs:List V} (e:H a=some (.frz o (.lst xs))):TyOf K H (.ref a) (.type "list")
 | tup {a:Addr} {xs:List V} (e:H a=some (.tup xs)):TyOf K H (.ref a) (.type "tuple")
 | dK {a:Addr} {kvs:List (Key×V)} (e:H a=some (.dK kvs)):TyOf K H (.ref a) (.type "dict")
 | dT {a:Addr} {kvs:List (List Key×V)} (e:H a=some (.dT kvs)):TyOf K H (.ref a) (.type "dict")
 | ins {a C dx:Addr} {fs:List (Str×V)} (e:H a=some (.ins C dx fs)) (cl:Cls K C) (ha:PySem.W.findIn K (.ref C) "__class__" = some (some (.builtin "object.__class__")))
   (hn:PySem.W.specialIn K (.builtin "object.__class__") "__get__" = some (some (.builtin "getset_descriptor.__get__"))) (htk:PySem.W.takesIn K (.builtin "object.__class__")=some true)
   (hm:PySem.W.mroIn K C (.type "object")=some true):TyOf K H (.ref a) (.ref C)
end
end L2
namespace L2
open PySem PySem.Spec PyProof.Rows
structure Room(k:Nat)(A:Around):Prop where
 hd:A.handled=none
 dp:A.depth+3*k+5<recursionLimit
 un:A.units+16*k+200<cLine
theorem Room.deeper{k:Nat}{A:Around}(r:Room (k+1) A)(env:Env):Room k (A.deeper env):=
 ⟨r.hd,by have:=r.dp;show A.depth+1+3*k+5<_;omega,by have:=r.un;show A.units+3+16*k+200<_;omega⟩
theorem Room.depth{k:Nat}{A:Around}(r:Room k A):A.depth<recursionLimit:=by have:=r.dp;omega
theorem Room.units{k:Nat}{A:Around}(r:Room k A):A.units+64<cLine:=by have:=r.un;omega
def tNil:TA:=fun _ H Q=>Q [] H
def tCons(ta:TE)(tr:TA):TA:=fun σ H Q=>ta σ H fun x H1=>tr σ H1 fun xs H2=>Q (x::xs) H2
section
variable{X:Cx}{e:Expr}{es:List Expr}{te:TE}{t:TA}{pos:Pos}
theorem pa_nil:PA X [] tNil:=fun _ _ _ _ H Q I h=>Calls.spliced_nil ⟨[],H,I,.nil,h⟩
theorem pa_cons(ha:PE X e te)(hr:PA X es t)(hs:starEach (e::es) X.env=(false,eval e X.env)::starEach es X.env:=by rfl):PA X (e::es) (tCons te t):=by
 intro pos pins s σ H Q I h
 rw[hs]
 show wpAny _ _ (spliced ((false,eval e X.env)::backTo pos (starEach es X.env))) _ _ s
 refine Calls.spliced_cons (thn (ha pins s σ H _ I h) fun u s1 hq0=>?_)
 obtain⟨x,H1,I1,r1,q1⟩:=hq0
 exact thn (hr pos pins s1 σ H1 _ I1 q1) fun us s2 ⟨xs,H2,I2,r2,q2⟩=>⟨x::xs,H2,I2,.cons r1 r2,q2⟩
def tLst(t:TA):TE:=fun σ H Q=>t σ H fun xs H1=>xs.length≤sizeLine∧∀ p,H1 p=none→Q (.ref p) (upd H1 p (.lst xs))
theorem pe_lst(h:PA X es t):PE X (.List es pos) (tLst t):=by
 intro pins s σ H Q I hq
 refine wpAny_List_spliced (thn (h pos pins s σ H _ I hq) fun us s1 ⟨xs,H1,I1,r,z,q⟩=>⟨by rw[← r.length];exact z,?_⟩)
 have hf:H1 s1.heap.objs.size=none:=I1.hok.fresh (Nat.le_refl _)
 refine⟨.ref s1.heap.objs.size,upd H1 s1.heap.objs.size (.lst xs),I1.laid (t':=s1.toks) (fun b u e=>Heap.get?_push_of_some _ e) (Nat.le_refl _) ?_,rfl,q _ hf⟩
 exact⟨z,us,0,r,Heap.get?_push_size _ rfl⟩
end
abbrev Sp:=List V→Hp→VK→XK→Prop
abbrev CXT:=List Env→Hp→Shared→XK→Value→Shared→Prop
structure Env0(P:Program)(w:World)(K:PySem.W.Frag)(mg:Str→Option Value)(base:Heap)(A:Around)(outer:List Env)(s:Shared)(H:Hp):Prop where
 frames:A.frames=some outer
 mod:Mod K mg base
 bs:∀ b o,base.get? b=some o→s.heap.get? b=some o∧H b=none
 bsz:base.objs.size≤s.heap.objs.size
 funs:s.heap.FunFrames base outer
 frf:∀ b∈frs outer,H b=none
 hok:HOk P w H s.heap
 bare:AllBare s.gens
def CE(outer:List Env)(P:Program)(w:World)(H:Hp)(s:Shared)(Q:VK)(u:Value)(s':Shared):Prop:=
 ∃ v H',s'.os=s.os∧AllBare s'.gens∧Un (frs outer) [] H H' s.heap s'.heap∧HOk P w H' s'.heap∧RelV v u∧Q v H'
def CR(CX:CXT)(outer:List Env)(P:Program)(w:World)(H:Hp)(s:Shared)(Q:VK)(E:XK)(r:Result)(s':Shared):Prop:=
 match r with
 | .ok (.ret u)=>CE outer P w H s Q u s'
 | .ok _=>False
 | .error e=>CX outer H s E e s'
structure FnOk(P:Program)(w:World)(K:PySem.W.Frag)(mg:Str→Option Value)(base:Heap)(CX:CXT)(k:Nat)(f:Addr)(fd:FuncData)(ps:List Str)(sp:Sp):Prop where
 len:∀ vs H Q E,sp vs H Q E→vs.length=ps.length
 run:∀ (A:Around) (outer:List Env) (s:Shared) (H:Hp) (args:Args) (us:List Value) (vs:List V) (Q:VK) (E:XK),Room k A→Env0 P w K mg base A outer s H→BindsTo s fd args (ps.zip us)→Vals vs us→sp vs H Q E→
  codeAny (model P w) A (.call (.ref f) args) (CR CX outer P w H s Q E) s
theorem FnOk.imp{P:Program}{w:World}{K:PySem.W.Frag}{mg:Str→Option Value}{base:Heap}{CX:CXT}{k:Nat}{f:Addr}{fd:FuncData}{ps:List Str}{sp sp':Sp}(F:FnOk P w K mg base CX k f fd ps sp)
  (h:∀ vs H Q E,sp' vs H Q E→sp vs H Q E):FnOk P w K mg base CX k f fd ps sp':=
 ⟨fun vs H Q E q=>F.len vs H Q E (h _ _ _ _ q),fun A outer s H args us vs Q E hr he hb hv hs=>F.run A outer s H args us vs Q E hr he hb hv (h _ _ _ _ hs)⟩
section
variable{X:Cx}{pins:List (Addr×Obj)}{σ:St}{H:Hp}{s s':Shared}
theorem Inv.env0(I:Inv X pins σ H s):Env0 X.prog X.w X.K X.mg X.base X.A X.stack s H:=
 ⟨I.ok.frames,I.ok.mod,I.bs,Nat.le_trans I.ok.bsz I.sz,I.stack,I.stkFree,I.hok,I.bare⟩
theorem Inv.after{Q:VK}{u:Value}(I:Inv X pins σ H s)(h:CE X.stack X.prog X.w H s Q u s'):EP X pins σ Q u s':=by
 obtain⟨v,H',os,bare,un,hok,r,q⟩:=h
 obtain⟨hh,g,d,t,os'⟩:=s'
 obtain rfl:os'=s.os:=os
 exact⟨v,H',I.call (h':=hh) (g':=g) (d':=d) (t':=t) (ch:=[]) un hok bare (fun b z=>absurd z (by simp)),r,q⟩
end
def tCall(sp:Sp)(dvs:List V)(E:XK)(t:TA):TE:=fun σ H Q=>t σ H fun vs H1=>sp (vs++dvs) H1 Q E
def Binds(K:PySem.W.Frag)(fd:FuncData)(ps:List Str)(ds:List Value):Prop:=
 ∀ (s:Shared) (us:List Value),K.In s.heap→(us++ds).length=ps.length→BindsTo s fd ⟨us,[]⟩ (ps.zip (us++ds))
theorem Binds.all{K:PySem.W.Frag}{fd:FuncData}{ps:List Str}(h:∀ us:List Value,us.length=ps.length→bindArgs fd ⟨us,[]⟩=pure (ps.zip us)):Binds K fd ps []:=fun s us _ hl=>by
 rw[List.append_nil]at hl ⊢
 exact .of_eq (h us hl)
def Passes(CX:CXT)(X:Cx)(E:XK):Prop:=∀ (pins:List (Addr×Obj)) (σ:St) (H:Hp) (s:Shared) (e:Value) (s':Shared),Inv X pins σ H s→CX X.stack H s E e s'→X.xe e s'
section
variable{X:Cx}{CX:CXT}{k:Nat}{f C:Addr}{fd:FuncData}{ps:List Str}{sp:Sp}{dvs:List V}{ds:List Value}{E:XK}{x m:Str}{p pos apos:Pos}{e o:Expr}{es:List Expr}{ta:TE}{t:TA}
theorem run_fn{pins:List (Addr×Obj)}{σ:St}{H:Hp}{s:Shared}{Q:VK}{us:List Value}{vs:List V}(F:FnOk X.prog X.w X.K X.mg X.base CX k f fd ps sp)(hr:Room k X.A)(hb:Binds X.K fd ps ds)(hd:Vals dvs ds)(hx:Passes CX X E)
  (I:Inv X pins σ H s) (r:Vals vs us) (h:sp (vs++dvs) H Q E):wpAny (model X.prog X.w) X.A (call (.ref f) us) (EP X pins σ Q) X.xe s:=by
 have r2:Vals (vs++dvs) (us++ds):=r.append hd
 have hl:(us++ds).length=ps.length:=by rw[← r2.length];exact F.len _ _ _ _ h
 refine wpAny_call (codeAny_mono (F.run X.A X.stack s H ⟨us,[]⟩ (us++ds) (vs++dvs) Q E hr I.env0 (hb s us I.kIn hl) r2 h) fun r s' hq=>?_)
 cases r with
 | error e=>exact hx pins σ H s e s' I hq
 | ok fl=>
  cases fl with
  | ret u=>exact I.after hq
  | next=>exact False.elim hq
  | brk=>exact False.elim hq
  | cont=>exact False.elim hq
theorem pe_call(F:FnOk X.prog X.w X.K X.mg X.base CX k f fd ps sp)(hr:Room k X.A)(hg:Gl X x)(hm:X.mg x=some (.ref f))(hk:PySem.W.keepIn X.K (.ref f)=true)(hb:Binds X.K fd ps ds)(hd:Vals dvs ds)(hx:Passes CX X E)
  (ha:PA X (e::es) t) (hdb:(x==("__debug__" : Str))=false:=by decide) (he:starEach (e::es) X.env=(false,eval e X.env)::starEach es X.env:=by rfl) (hpl:(backTo pos (starEach es X.env)).any (·.1)=false:=by rfl) :
  PE X (.Call (.Name x p) (e::es) [] pos) (tCall sp dvs E t):=by
 intro pins s σ H Q I h
 refine wpAny_Call_Name_kw (ld_glob I hg hm ?_ hdb)
 refine PySem.W.callWith_K (h₀:=X.base) I.ok.mod.kin hk (thn (ha pos pins s σ H _ I h) fun us s1 ⟨vs,H1,I1,r,q⟩=>⟨I1.kIn,?_⟩) he hpl
 exact run_fn F hr hb hd hx I1 r q
end
section
variable{X:Cx}{CX:CXT}{k:Nat}{f C:Addr}{fd:FuncData}{ps ks:List Str}{sp:Sp}{E:XK}{x m:Str}{p pos apos kpos:Pos}{e o:Expr}{es:List Expr}{kws:List Keyword}{te ta:TE}{t tk:TA}{nm:Option Str}
variable{g:List Value→List Value→List Value}{gV:List V→List V→List V}
end
structure FnScope(N P:List Str)(sc:Scope):Prop where
 kind:sc.kind=.function
 co:sc.isCoroutine=false
 gen:sc.isGenerator=false
 nd:N.Nodup
 pre:N.take P.length=P
 par:∀ x∈P,sc.names.lookup x=some .local∨sc.names.lookup x=some .cell
 nofree:∀ y∈sc.names,y.2≠.free
theorem bindL_out{kindOf:Str→Option NameKind}{x:Str}:∀ {binds:List (Str×Value)} {m:Str→Option Value},(∀ v,(x,v)∉binds)→bindL kindOf binds m x=m x
 | [],_,_=>rfl
 | (n,v)::r,m,h=>by
  unfold bindL
  rw[bindL_out fun w hw=>h w (List.mem_cons_of_mem _ hw)]
  split
  ·have:x≠n:=by rintro rfl;exact h v List.mem_cons_self
   simp[this]
  ·rfl
theorem bindC_out{kindOf:Str→Option NameKind}{x:Str}:∀ {binds:List (Str×Value)} {m:Str→Option Value},(∀ v,(x,v)∉binds)→bindC kindOf binds m x=m x
 | [],_,_=>rfl
 | (n,v)::r,m,h=>by
  unfold bindC
  rw[bindC_out fun w hw=>h w (List.mem_cons_of_mem _ hw)]
  split
  ·rfl
  ·have:x≠n:=by rintro rfl;exact h v List.mem_cons_self
   simp[this]
theorem bindL_get{kindOf:Str→Option NameKind}{x:Str}{v:Value}:∀ {P:List Str} {vs:List Value} {i:Nat} {m:Str→Option Value},P.Nodup→P[i]?=some x→vs[i]?=some v→kindOf x=some .local→
  bindL kindOf (P.zip vs) m x=some v
 | [],_,_,_,_,h,_,_=>by simp at h
 | _::_,[],_,_,_,_,h,_=>by simp at h
 | p::P,w::vs,0,m,nd,h1,h2,hk=>by
  simp at h1 h2;subst h1;subst h2
  show bindL kindOf ((p,w)::P.zip vs) m p=_
  unfold bindL
  rw[bindL_out fun v hv=>(List.nodup_cons.mp nd).1 (List.of_mem_zip hv).1,if_pos hk]
  simp
 | p::P,w::vs,i+1,m,nd,h1,h2,hk=>by
  show bindL kindOf ((p,w)::P.zip vs) m x=_
  unfold bindL
  exact bindL_get (i:=i) (List.nodup_cons.mp nd).2 (by simpa using h1) (by simpa using h2) hk
theorem bindC_get{kindOf:Str→Option NameKind}{x:Str}{v:Value}:∀ {P:List Str} {vs:List Value} {i:Nat} {m:Str→Option Value},P.Nodup→P[i]?=some x→vs[i]?=some v→kindOf x≠some .local→
  bindC kindOf (P.zip vs) m x=some v
 | [],_,_,_,_,h,_,_=>by simp at h
 | _::_,[],_,_,_,_,h,_=>by simp at h
 | p::P,w::vs,0,m,nd,h1,h2,hk=>by
  simp at h1 h2;subst h1;subst h2
  show bindC kindOf ((p,w)::P.zip vs) m p=_
  unfold bindC
  rw[bindC_out fun v hv=>(List.nodup_cons.mp nd).1 (List.of_mem_zip hv).1,if_neg hk]
  simp
 | p::P,w::vs,i+1,m,nd,h1,h2,hk=>by
  show bindC kindOf ((p,w)::P.zip vs) m x=_
  unfold bindC
  exact bindC_get (i:=i) (List.nodup_cons.mp nd).2 (by simpa using h1) (by simpa using h2) hk
def start(N:List Str)(vs:List V):St:=vs.map some++List.replicate (N.length-vs.length) none
def cxOf(CX:CXT)(P:Program)(w:World)(K:PySem.W.Frag)(mg:Str→Option Value)(base:Heap)(N:List Str)(qual:Str)(scope:Scope)(f:Addr)(cd:Value)(A:Around)(outer:List Env)(s:Shared)(H:Hp)(E:XK):Cx where
 prog:=P
 w:=w
 K:=K
 mg:=mg
 base:=base
 A:=A.deeper (envOfC qual scope s.heap.objs.size f cd)
 N:=N
 s₀:=s
 H₀:=H
 env:=envOfC qual scope s.heap.objs.size f cd
 outer:=outer
 stack:=envOfC qual scope s.heap.objs.size f cd::outer
 ex:=[]
 calm:=true
 fn:=fun _=>true
 pn:=[]
 xe:=fun e s'=>wpAny (model P w) (A.deeper (envOfC qual scope s.heap.objs.size f cd)) (leaving (envOfC qual scope s.heap.objs.size f cd) e) (fun _ s''=>CX outer H s E e s'') (fun e' s''=>CX outer H s E e' s'') s'
theorem cell_has{sc:Scope}{n:Nat}{x:Str}(h:sc.names.lookup x=some .cell):∃ c,(cellsFrom n sc.names []).lookup x=some c:=by
 have q:=PySem.W.cellsFrom_some sc.names n [] (.inl h)
 exact Option.isSome_iff_exists.mp q
theorem inv_start{CX:CXT}{P:Program}{w:World}{K:PySem.W.Frag}{mg:Str→Option Value}{base:Heap}{N ps:List Str}{qual:Str}{scope:Scope}{f:Addr}{cd:Value}{A:Around}{outer:List Env}{s s1:Shared}{H:Hp}{E:XK}{us:List Value}{vs:List V}
  (S:FnScope N ps scope) (hd:A.handled=none) (e0:Env0 P w K mg base A outer s H) (hl:vs.length=ps.length) (r:Vals vs us)
  (x:InCallC s s.heap.objs.size (bindL (envOfC qual scope s.heap.objs.size f cd).kindOf (ps.zip us) fun _=>none) (cellsFrom (s.heap.objs.size+1) scope.names []) (bindC (envOfC qual scope s.heap.objs.size f cd).kindOf (ps.zip us) fun _=>none) s1) :
  Inv (cxOf CX P w K mg base N qual scope f cd A outer s H E) [] (start N vs) H s1:=by
 have hpl:ps.length≤N.length:=by have:=congrArg List.length S.pre;rw[List.length_take]at this;omega
 obtain⟨h1,tk,rfl,hk⟩:=x.done
 have noA:∀ b:Addr,b∉(cxOf CX P w K mg base N qual scope f cd A outer s H E).ex:=fun b z=>absurd (show b∈([]:List Addr) from z) (by simp)
 refine⟨⟨e0.mod,S.kind,rfl,rfl,Nat.le_refl _,fun y z c h1 h2=>?_,fun y hy=>?_,fun y c _ h=>?_,fun _=>hd,Around.frames_deeper e0.frames,.inr ⟨rfl,rfl⟩,fun b z=>absurd z (noA b),e0.bs,e0.bsz,fun b _ _=>noA b,fun b z=>absurd z (noA b),e0.funs,e0.frf⟩,
  rfl,e0.bare,Un.kept hk,⟨_,x.toInCall.ns,fun i y v h1 h2 h3=>?_⟩,fun y c h=>⟨_,x.cell y c h⟩,e0.hok.fresh (Nat.le_refl _),fun y c h=>?_,fun p hp=>absurd (show p∈([]:List (Addr×Obj)) from hp) (by simp),e0.hok.kept hk,?_⟩
 ·exact name_of_addr x.apart (PySem.mem_of_lookup h1) (PySem.mem_of_lookup h2)
 ·have hy:scope.names.lookup y=some .cell∨scope.names.lookup y=some .free:=hy
  rcases hy with hy | hy
  ·exact cell_has hy
  ·exact absurd rfl (S.nofree _ (PySem.mem_of_lookup hy))
 ·exact Nat.le_of_lt (x.above y c (PySem.mem_of_lookup h))
 ·have hi:i<vs.length:=by
   unfold start at h2
   by_cases hi:i<vs.length
   ·exact hi
   ·rw[List.getElem?_append_right (by simpa using hi)]at h2
    rw[List.getElem?_replicate]at h2
    split at h2<;>cases h2
  have ha:vs[i]?=some v:=by
   unfold start at h2
   rw[List.getElem?_append_left (by simpa using hi),List.getElem?_map]at h2
   cases e:vs[i]? with
   | none=>rw[e]at h2;cases h2
   | some a=>rw[e]at h2;cases h2;rfl
  obtain⟨u,hu,rv⟩:=r.get ha
  have hp:ps[i]?=some y:=by
   rw[← S.pre,List.getElem?_take_of_lt (by omega)];exact h1
  have ndP:ps.Nodup:=by rw[← S.pre];exact S.nd.sublist (List.take_sublist _ _)
  refine⟨u,rv,?_⟩
  rcases S.par y (List.mem_of_getElem? hp) with k | k
  ·exact .inl ⟨k,bindL_get ndP hp hu k⟩
  ·obtain⟨c,e⟩:=cell_has (n:=s.heap.objs.size+1) k
   refine .inr ⟨.inl k,c,e,?_⟩
   have q:=x.cell y c e
   rw[bindC_get ndP hp hu (by show scope.names.lookup y≠_;rw[k];decide)]at q
   exact q
 ·exact e0.hok.fresh (Nat.le_of_lt (x.above y c (PySem.mem_of_lookup h)))
 ·unfold start
  show _=N.length
  rw[List.length_append,List.length_map,List.length_replicate]
  omega
theorem fn_of{CX:CXT}{P:Program}{w:World}{K:PySem.W.Frag}{mg:Str→Option Value}{base:Heap}{k:Nat}{f:Addr}{name qual:Str}{params:Arguments}{body:List Stmt}{scope:Scope}{dV kV doc pm cdv ct oc:Value}{an od:Option Addr}
  {osl:Array (Option Value)} {N ps:List Str} {sp:Sp} (lk:K.lookup f=some ⟨oc,od,.func (PySem.W.fnOf name qual params body scope dV kV doc pm an cdv ct),osl⟩) (hcd:PySem.W.codeIn K cdv qual=true) (S:FnScope N ps scope)
  (len:∀ vs H Q E,sp vs H Q E→vs.length=ps.length)
  (hbody:∀ (A:Around) (outer:List Env) (s:Shared) (H:Hp) (vs:List V) (Q:VK) (E:XK),Room k (A.deeper (envOfC qual scope s.heap.objs.size f cdv))→sp vs H Q E→
   ∃ t,PSs (cxOf CX P w K mg base N qual scope f cdv A outer s H E) body t∧t { nx:=fun _ H'=>Q .non H',rt:=Q } (start N vs) H) :
  FnOk P w K mg base CX (k+1) f (PySem.W.fnOf name qual params body scope dV kV doc pm an cdv ct) ps sp:=by
 refine⟨len,fun A outer s H args us vs Q E hr e0 hb r hsp=>?_⟩
 have hl:=len _ _ _ _ hsp
 have KX:K.In s.heap:=e0.mod.kin.keeps fun b o e=>(e0.bs b o e).1
 have lim:s.heap.NoLimit:=e0.mod.nolimit.keeps fun b o e=>(e0.bs b o e).1
 have hkind:∀ y∈ps.zip us,scope.names.lookup y.1=some .local∨(scope.names.lookup y.1=some .cell∧((cellsFrom (s.heap.objs.size+1) scope.names []).lookup y.1).isSome=true):=fun⟨n,v⟩ hy=>by
  rcases S.par n (List.of_mem_zip hy).1 with q | q
  ·exact .inl q
  ·exact .inr ⟨q,PySem.W.cellsFrom_some _ _ _ (.inl q)⟩
 refine codeAny_call_function hr.depth (KX _ _ lk) rfl S.co S.gen rfl (PySem.W.codeRec_of KX hcd) (hb _ _ _ _ ?_)
 refine wpAny_newFunctionEnv_cells S.kind hkind fun env he s1 x=>?_
 subst he
 refine⟨lim.keeps x.toInCall.keep,codeAny_func ?_⟩
 obtain⟨t,ht,hq⟩:=hbody A outer s H vs Q E (hr.deeper _) hsp
 have I:Inv (cxOf CX P w K mg base N qual scope f cdv A outer s H E) [] (start N vs) H s1:=inv_start S hr.hd e0 hl r x
 refine wpAny_mono (ht [] s1 (start N vs) H _ I hq) (fun fl s' hs=>?_) fun e s' hs=>hs
 have fin:∀ {σ':St} {H':Hp} {v:V} {u:Value},Inv (cxOf CX P w K mg base N qual scope f cdv A outer s H E) [] σ' H' s'→RelV v u→Q v H'→CE outer P w H s Q u s':=
  fun {σ' H' v u} J rv q=>⟨v,H',J.os,J.bare,J.base,J.hok,rv,q⟩
 cases fl with
 | ret u=>
  obtain⟨v,σ',H',J,rv,q⟩:=hs
  exact fin J rv q
 | next=>
  obtain⟨σ',H',J,q⟩:=hs
  exact fin (v:=V.non) (u:=Value.none) J rfl q
 | brk=>
  obtain⟨_,_,_,q⟩:=hs
  exact False.elim q
 | cont=>
  obtain⟨_,_,_,q⟩:=hs
  exact False.elim q
end L2
namespace L2
open PySem PySem.Spec PyProof.Rows
section
variable{X:Cx}{x:Str}{p pos:Pos}{e:Expr}{es:List Expr}{t:TA}{id T:String}{r:List V→Hp→VK→Prop}
def tCB(r:List V→Hp→VK→Prop)(t:TA):TE:=fun σ H Q=>t σ H fun vs H1=>r vs H1 Q
theorem pe_callB(hc:CallR X (.builtin id) r)(hg:Gl X x)(hm:X.mg x=none)(hv:bootBuiltins x=some (.builtin id))(ha:PA X (e::es) t)(hn:x≠"__name__":=by decide)(hdb:(x==("__debug__" : Str))=false:=by decide)
  (he:starEach (e::es) X.env=(false,eval e X.env)::starEach es X.env:=by rfl) (hpl:(backTo pos (starEach es X.env)).any (·.1)=false:=by rfl):PE X (.Call (.Name x p) (e::es) [] pos) (tCB r t):=by
 intro pins s σ H Q I h
 refine wpAny_Call_Name_kw (ld_blt I hg hm hv ?_ hn hdb)
 exact PyProof.Rows.callWith_builtin1 (thn (ha pos pins s σ H _ I h) fun us s1 ⟨vs,H1,I1,r1,q1⟩=>hc pins s1 σ H1 vs us Q I1 r1 q1) he hpl
theorem pe_callTy(hc:CallR X (.type T) r)(hg:Gl X x)(hm:X.mg x=none)(hv:bootBuiltins x=some (.type T))(ha:PA X (e::es) t)(hn:x≠"__name__":=by decide)(hdb:(x==("__debug__" : Str))=false:=by decide)
  (he:starEach (e::es) X.env=(false,eval e X.env)::starEach es X.env:=by rfl) (hpl:(backTo pos (starEach es X.env)).any (·.1)=false:=by rfl):PE X (.Call (.Name x p) (e::es) [] pos) (tCB r t):=by
 intro pins s σ H Q I h
 refine wpAny_Call_Name_kw (ld_blt I hg hm hv ?_ hn hdb)
 exact PyProof.Rows.callWith_type1 (thn (ha pos pins s σ H _ I h) fun us s1 ⟨vs,H1,I1,r1,q1⟩=>hc pins s1 σ H1 vs us Q I1 r1 q1) he hpl
end
end L2
namespace HT
open PySem PyProof.Rows
section
open PySem.SeqAt
open PySem.AutoSeq1 (wpAny_loadPart')
open PySem.MeetsSeq PySem.MeetsSeq2 PySem.MeetsSeq3
end
section
variable{prog:Program}{w:World}{A:Around}{E:Value→Shared→Prop}{s:Shared}
theorem cat_tup{t b:Addr}{vs ws:List Value}{Q:Value→Shared→Prop}(ht:IsTup s.heap t vs.toArray)(hb:IsTup s.heap b ws.toArray)(hv:vs≠[])
  (h1:ws=[]→Q (.ref t) s) (h2:ws≠[]→Q (.ref s.heap.objs.size) { s with heap:=s.heap.push { cls:=.type "tuple",data:=.seq (vs++ws).toArray } })
  (hsz:vs.length+ws.length≤sizeLine):wpAny (model prog w) A (binaryOp .Add (.ref t) (.ref b)) Q E s:=by
 obtain⟨⟨cls,dd,data,sl⟩,ho,hc,n,hd⟩:=id ht
 obtain⟨⟨cls2,dd2,data2,sl2⟩,ho2,hc2,n2,hd2⟩:=id hb
 simp only at hc hd hc2 hd2
 subst hc hd hc2 hd2
 have e:vs.toArray++ws.toArray=(vs++ws).toArray:=by simp
 by_cases hw:ws=[]
 ·exact concat_meets ⟨_,ho,rfl⟩ ⟨_,ho2,rfl⟩ noFill_tuple_add seq_tuple_add PySem.F.slot_tuple_add PySem.F.entry_tuple_add (PySem.F.args_tuple_add_2 _ _)
   (tuple_addW1 t b vs.toArray ws.toArray n n2 dd dd2 sl sl2 (by simpa using hv) (by simp[hw])) ⟨ho,ho2,h1 hw⟩
 ·refine concat_meets ⟨_,ho,rfl⟩ ⟨_,ho2,rfl⟩ noFill_tuple_add seq_tuple_add PySem.F.slot_tuple_add PySem.F.entry_tuple_add (PySem.F.args_tuple_add_2 _ _)
   (tuple_addW2 t b vs.toArray ws.toArray n n2 dd dd2 sl sl2 (by simpa using hv) (by simpa using hw) (by rw[List.size_toArray,List.size_toArray];exact hsz)) ⟨ho,ho2,?_⟩
  rw[e]
  exact h2 hw
def sIx(n d:Nat):Option Int→Nat
 | none=>d
 | some v=>if v<0 then (v+(n:Int)).toNat else min v.toNat n
theorem sIx_nat(n d k:Nat):sIx n d (some (k:Int))=min k n:=by
 show (if (k:Int)<0 then ((k:Int)+(n:Int)).toNat else min (k:Int).toNat n)=min k n
 rw[if_neg (by omega),Int.toNat_natCast]
theorem sIx_le(n d:Nat)(hd:d≤n)(o:Option Int):sIx n d o≤n:=by
 cases o with
 | none=>exact hd
 | some v=>
  show (if v<0 then (v+(n:Int)).toNat else min v.toNat n)≤n
  by_cases hv:v<0
  ·rw[if_pos hv];omega
  ·rw[if_neg hv];exact Nat.min_le_right _ _
theorem clip_eq(v:Int)(n d:Nat):(if v<0 then max (v+(n:Int)) 0 else min v (n:Int))=((sIx n d (some v):Nat):Int):=by
 show (if v<0 then max (v+(n:Int)) 0 else min v (n:Int))=(((if v<0 then (v+(n:Int)).toNat else min v.toNat n):Nat):Int)
 by_cases hv:v<0
 ·simp only[if_pos hv];omega
 ·simp only[if_neg hv];omega
theorem adjust_gen(lo hi:Option Int)(n:Nat):Builtin.Slice.sliceAdjust lo hi 1 (n:Int)=(((sIx n 0 lo:Nat):Int),((sIx n n hi:Nat):Int)):=by
 have h1:¬ ((1:Int)<0):=by omega
 unfold Builtin.Slice.sliceAdjust
 simp only[h1,if_false]
 refine Prod.ext ?_ ?_
 ·cases lo with
  | none=>rfl
  | some v=>exact clip_eq v n 0
 ·cases hi with
  | none=>rfl
  | some v=>exact clip_eq v n n
theorem places_gen(i j:Nat):Builtin.Slice.slicePlaces (i:Int) (j:Int) 1=j-i:=by
 unfold Builtin.Slice.slicePlaces
 have h1:(1:Int) > 0:=by omega
 simp only[h1,if_true,Int.ediv_one]
 split<;>omega
theorem slicePart_{v:Value}{o:Option Int}{Q:Option Int→Shared→Prop}(p:IsPart v o)(h:Q o s):wpAny (model prog w) A (Builtin.Slice.slicePartIndex v) Q E s:=by
 cases p with
 | none=>exact slicePart_none h
 | int i t=>exact slicePart_int h
theorem sliceApplied_gen{sl:Addr}{vl vu:Value}{lo hi:Option Int}{n:Nat}{Q:Int×Int×Nat→Shared→Prop}(hs:s.heap.IsSliceOf sl vl vu .none)(pl:IsPart vl lo)(pu:IsPart vu hi)
  (h:Q (((sIx n 0 lo:Nat):Int),1,sIx n n hi-sIx n 0 lo) s):wpAny (model prog w) A (Builtin.Slice.sliceApplied (.ref sl) (pure (n:Int))) Q E s:=by
 obtain⟨os,hos,hcs,hds⟩:=id hs
 unfold Builtin.Slice.sliceApplied Builtin.Slice.sliceFields
 refine wpAny_bind (wpAny_bind (wpAny_field hos hds (x:=vl) rfl (wpAny_bind (wpAny_field hos hds (x:=vu) rfl (wpAny_bind (wpAny_field hos hds (x:=.none) rfl (wpAny_pure ?_)))))))
 refine wpAny_bind (slicePart_none ?_)
 show wpAny _ _ (if ((1:Int)==0)=true then _ else _) _ _ s
 rw[if_neg (by decide)]
 refine wpAny_bind (slicePart_ pl (wpAny_bind (slicePart_ pu (wpAny_bind (wpAny_pure ?_)))))
 show wpAny _ _ (match Builtin.Slice.sliceAdjust lo hi 1 (n:Int) with | (lo,hi)=>pure (lo,(1:Int),Builtin.Slice.slicePlaces lo hi 1)) _ _ s
 rw[adjust_gen lo hi n]
 show wpAny _ _ (pure (((sIx n 0 lo:Nat):Int),(1:Int),Builtin.Slice.slicePlaces ((sIx n 0 lo:Nat):Int) ((sIx n n hi:Nat):Int) 1)) _ _ s
 rw[places_gen]
 exact wpAny_pure h
theorem pick_gen(xs:Array Value)(i k:Nat):((List.range k).filterMap fun(m:Nat)=>xs[((i:Int)+(m:Int)*1).toNat]?).toArray=((xs.toList.drop i).take k).toArray:=by
 have e:(fun(m:Nat)=>xs[((i:Int)+(m:Int)*1).toNat]?)=fun m=>xs[i+m]?:=by
  funext m
  have:((i:Int)+(m:Int)*1).toNat=i+m:=by omega
  rw[this]
 rw[e]
 have:=pick_run xs i k
 rw[List.filterMap_map]at this
 have e2:((fun x=>xs[x]?)∘fun x=>i+x)=fun m=>xs[i+m]?:=rfl
 rw[e2]at this
 rw[this]
theorem getItem_tuple_cut{t sl:Addr}{items:Array Value}{vl vu:Value}{lo hi:Option Int}{Q:Value→Shared→Prop}(ht:IsTup s.heap t items)(hs:s.heap.IsSliceOf sl vl vu .none)(pl:IsPart vl lo)(pu:IsPart vu hi)
  (hw:¬ (sIx items.size 0 lo=0∧sIx items.size items.size hi=items.size))
  (h:Q (.ref s.heap.objs.size) { s with heap:=s.heap.push { cls:=.type "tuple",data:=.seq ((items.toList.drop (sIx items.size 0 lo)).take (sIx items.size items.size hi-sIx items.size 0 lo)).toArray } })
  (hsz:items.size≤sizeLine):wpAny (model prog w) A (getItem (.ref t) (.ref sl)) Q E s:=by
 have htake:sizeOk (.seq ((items.toList.drop (sIx items.size 0 lo)).take (sIx items.size items.size hi-sIx items.size 0 lo)).toArray):=by
  show ((items.toList.drop (sIx items.size 0 lo)).take (sIx items.size items.size hi-sIx items.size 0 lo)).toArray.size≤sizeLine
  rw[List.size_toArray,List.length_take,List.length_drop,Array.length_toList]
  omega
 have hj:sIx items.size items.size hi≤items.size:=sIx_le _ _ (Nat.le_refl _) hi
 obtain⟨os,hos,hcs,hds⟩:=id hs
 have hTs:s.TypeIs (.ref sl) "slice":=⟨os,hos,hcs⟩
 unfold getItem
 try with_reducible refine wpAny_holding ?_
 first | refine wpAny_bind (wpAny_pure ?_) | skip
 refine wpAny_bind (wpAny_sequenceKey ht.typeIs (by decide) ?_)
 refine wpAny_bind (wpAny_callSpecial?_slot (name:=Str.ofString "__getitem__") ht.typeIs PyProof.Rows.slot_tuple_getitem
  (wpAny_call_entry PyProof.Rows.slot_tuple_getitem ht.typeIs entry_tuple_getitem ?_ (args_tuple_getitem _ _)))
 show wpAny _ _ (Builtin.Tuple.tupleItemsOf (.ref t) >>= _) _ _ s
 refine wpAny_bind (tupleItemsOf_ ht ?_)
 refine wpAny_bind (wpAny_typeOf hTs ?_)
 rw[if_pos (by decide)]
 refine wpAny_bind (sliceApplied_gen hs pl pu ?_)
 have hno:¬ ((((sIx items.size 0 lo:Nat):Int)==0&&(1:Int)==1&&(sIx items.size items.size hi-sIx items.size 0 lo)==items.size)=true):=by
  intro q
  rw[Bool.and_eq_true,Bool.and_eq_true]at q
  have q1:((sIx items.size 0 lo:Nat):Int)=0:=eq_of_beq q.1.1
  have q2:sIx items.size items.size hi-sIx items.size 0 lo=items.size:=eq_of_beq q.2
  exact hw ⟨by omega,by omega⟩
 show wpAny _ _ (if (((sIx items.size 0 lo:Nat):Int)==0&&(1:Int)==1&&(sIx items.size items.size hi-sIx items.size 0 lo)==items.size)=true then _ else _) _ _ s
 rw[if_neg hno,pick_gen]
 first
  | exact wpAny_bind (m:=Builtin.Tuple.tupleExact _) (wpAny_newObj_type (wpAny_pure ⟨_,rfl,wpAny_pure h⟩) htake)
  | exact wpAny_bind (m:=Builtin.Tuple.tupleExact _) (wpAny_newObj_type (wpAny_bind (wpAny_pure (wpAny_pure ⟨_,rfl,wpAny_pure h⟩))) htake)
  | exact wpAny_bind (wpAny_bind (m:=Builtin.Tuple.tupleExact _) (wpAny_newObj_type (wpAny_pure (wpAny_pure ⟨_,rfl,wpAny_pure h⟩)) htake))
  | exact wpAny_bind (wpAny_bind (m:=Builtin.Tuple.tupleExact _) (wpAny_newObj_type (wpAny_pure ⟨_,rfl,wpAny_pure h⟩) htake))
end
end HT
namespace L2
open PySem PySem.Spec PyProof.Rows
abbrev TO:=St→Hp→(Option Int→Hp→Prop)→Prop
def PO(X:Cx)(e:Option Expr)(t:TO):Prop:=
 ∀ (pins:List (Addr×Obj)) (s:Shared) (σ:St) (H:Hp) (Q:Option Int→Hp→Prop),Inv X pins σ H s→t σ H Q→
  wpAny (model X.prog X.w) X.A (evalPart e X.env) (fun u s'=>∃ o H',Inv X pins σ H' s'∧IsPart u o∧Q o H') X.xe s
def tNoPart:TO:=fun _ H Q=>Q none H
def tPart(t:TE):TO:=fun σ H Q=>t σ H fun x H1=>∃ i,x=.int i∧Q (some i) H1
theorem intsAre_of{ns:List Int}:∀ {us:List Value},Vals (ns.map V.int) us→IntsAre us ns:=by
 induction ns with
 | nil=>intro us r;rw[List.map_nil]at r;cases r;exact .nil
 | cons n ns ih=>
  intro us r
  rw[List.map_cons]at r
  cases r with
  | cons r1 r2=>
   obtain⟨t,e⟩:=r1
   subst e
   exact .cons n t (ih r2)
section
variable{X:Cx}{e:Expr}{te:TE}{lo hi:Option Expr}{tl th:TO}{pos p2:Pos}
theorem po_none:PO X none tNoPart:=by
 intro pins s σ H Q I h
 rw[evalPart_none]
 exact wpAny_pure ⟨none,H,I,.none,h⟩
theorem po_some(h:PE X e te):PO X (some e) (tPart te):=by
 intro pins s σ H Q I hw
 rw[evalPart_some]
 refine thn (h pins s σ H _ I hw) fun u s1 hq0=>?_
 obtain⟨x,H1,I1,r1,q1⟩:=hq0
 obtain⟨i,rfl,q⟩:=q1
 obtain⟨t,rfl⟩:=r1
 exact⟨some i,H1,I1,.int i t,q⟩
def SlR(X:Cx)(r:V→Option Int→Option Int→Hp→VK→Prop):Prop:=
 ∀ (pins:List (Addr×Obj)) (s:Shared) (σ:St) (H:Hp) (x:V) (v vl vu:Value) (lo hi:Option Int) (sl:Addr) (Q:VK),Inv X pins σ H s→RelV x v→s.heap.IsSliceOf sl vl vu .none→IsPart vl lo→IsPart vu hi→r x lo hi H Q→
  ∃ T id,typeLookup (.type T) "__getitem__" = pure (some (.builtin id))∧s.TypeIs v T∧wpAny (model X.prog X.w) X.A (getItem v (.ref sl)) (EP X pins σ Q) X.xe s
theorem SlR.or{r r':V→Option Int→Option Int→Hp→VK→Prop}(h:SlR X r)(h':SlR X r'):SlR X (fun x lo hi H Q=>r x lo hi H Q∨r' x lo hi H Q):=by
 intro pins s σ H x v vl vu lo hi sl Q I rx hs pl pu q
 rcases q with q | q
 ·exact h pins s σ H x v vl vu lo hi sl Q I rx hs pl pu q
 ·exact h' pins s σ H x v vl vu lo hi sl Q I rx hs pl pu q
def tSl(r:V→Option Int→Option Int→Hp→VK→Prop)(te:TE)(tl th:TO):TE:=fun σ H Q=>te σ H fun x H1=>tl σ H1 fun l H2=>th σ H2 fun u H3=>r x l u H3 Q
theorem pe_slice{r:V→Option Int→Option Int→Hp→VK→Prop}(hr:SlR X r)(he:PE X e te)(hl:PO X lo tl)(hu:PO X hi th):PE X (.Subscript e (.Slice lo hi none p2) pos) (tSl r te tl th):=by
 intro pins s σ H Q I h
 refine Subscript_ (thn (he pins s σ H _ I h) fun v s1 hq0=>?_)
 obtain⟨x,H1,I1,r1,q1⟩:=hq0
 refine wpAny_Slice (thn (hl pins s1 σ H1 _ I1 q1) fun vl s2 ⟨l,H2,I2,pl,q2⟩=>thn (hu pins s2 σ H2 _ I2 q2) fun vu s3 hq0=>?_)
 obtain⟨u,H3,I3,pu,q3⟩:=hq0
 rw[evalPart_none]
 refine wpAny_pure ?_
 have I4:Inv X pins σ H3 { s3 with heap:=s3.heap.push { cls:=.type "slice",data:=.fields #[vl,vu,.none] } }:=I3.kept (t':=s3.toks) fun b ob q=>Heap.get?_push_of_some _ q
 obtain⟨T,id,hT,ht,hg⟩:=hr pins { s3 with heap:=s3.heap.push { cls:=.type "slice",data:=.fields #[vl,vu,.none] } } σ H3 x v vl vu l u s3.heap.objs.size Q I4 r1 (Heap.IsSliceOf.new ..) pl pu q3
 show wpAny (model X.prog X.w) X.A (subscriptTail e (.Slice lo hi none p2) v (.ref s3.heap.objs.size)) (EP X pins σ Q) X.xe { s3 with heap:=s3.heap.push { cls:=.type "slice",data:=.fields #[vl,vu,.none] } }
 exact tail_any (ops:=[.ref s3.heap.objs.size,v]) ht hT hg (by with_unfolding_all rfl)
def cutV(xs:List V)(lo hi:Option Int):List V:=(xs.drop (HT.sIx xs.length 0 lo)).take (HT.sIx xs.length xs.length hi-HT.sIx xs.length 0 lo)
theorem cutV_length(xs:List V)(lo hi:Option Int):(cutV xs lo hi).length≤xs.length:=by
 unfold cutV
 rw[List.length_take,List.length_drop]
 omega
theorem Vals.nil_iff{xs:List V}{us:List Value}(r:Vals xs us):us=[]↔xs=[]:=by
 cases r with
 | nil=>simp
 | cons _ _=>simp
theorem call_tupleT:CallR X (.type "tuple") (fun xs H Q=>∃ a ys,xs=[.ref a]∧SqT X.K H a ys∧Q (.ref a) H):=by
 intro pins s σ H xs us Q I r h
 obtain⟨a,ys,rfl,ha,q⟩:=h
 obtain⟨u,rfl,ru⟩:=vals1 r
 cases ru
 obtain⟨its,_,p1,_⟩:=I.tuple ha
 exact call_tuple_same (items:=its.toArray) p1 ⟨.ref a,H,I,rfl,q⟩
end
end L2
namespace L2
open PySem PySem.Spec PyProof.Rows
def ixN(n:Nat)(i:Int):Option Nat:=if 0≤i then (if i<n then some i.toNat else none) else if -(n:Int)≤i then some (i+n).toNat else none
def atI{α:Type}(xs:List α)(i:Int):Option α:=(ixN xs.length i).bind fun j=>xs[j]?
theorem ixN_seq{n:Nat}{i:Int}{j:Nat}(h:ixN n i=some j):seqIndex? i n=some j∧j<n∧-(n:Int)≤i∧i<n:=by
 unfold ixN at h
 by_cases h0:0≤i
 ·rw[if_pos h0]at h
  by_cases h1:i<n
  ·rw[if_pos h1]at h
   have e:i.toNat=j:=Option.some.inj h
   exact⟨by rw[seqIndex_of h0 h1,e],by omega,by omega,h1⟩
  ·rw[if_neg h1]at h;cases h
 ·rw[if_neg h0]at h
  by_cases h1:-(n:Int)≤i
  ·rw[if_pos h1]at h
   have e:(i+n).toNat=j:=Option.some.inj h
   exact⟨by rw[seqIndex_neg (by omega) h1,e],by omega,h1,by omega⟩
  ·rw[if_neg h1]at h;cases h
theorem atI_get{α:Type}{xs:List α}{i:Int}{v:α}(h:atI xs i=some v):∃ j,seqIndex? i xs.length=some j∧xs[j]?=some v∧j<xs.length∧-(xs.length:Int)≤i∧i<xs.length:=by
 unfold atI at h
 cases e:ixN xs.length i with
 | none=>rw[e]at h;cases h
 | some j=>
  rw[e]at h
  obtain⟨h1,h2,h3,h4⟩:=ixN_seq e
  exact⟨j,h1,h,h2,h3,h4⟩
def PlainIx(b:Expr):Prop:=∀ o i,subscripted b false o i=operate [o,i] (getItem o i)
def IxR(X:Cx)(r:R2):Prop:=
 ∀ (value slice:Expr) (pins:List (Addr×Obj)) (s:Shared) (σ:St) (H:Hp) (x y:V) (v u:Value) (Q:VK),Inv X pins σ H s→RelV x v→RelV y u→r x y H Q→
  subscripted slice false v u=operate [v,u] (getItem v u)→wpAny (model X.prog X.w) X.A (subscriptTail value slice v u) (EP X pins σ Q) X.xe s
def MtR(X:Cx)(id:String)(r:V→List V→Hp→VK→Prop):Prop:=
 ∀ (pins:List (Addr×Obj)) (s:Shared) (σ:St) (H:Hp) (x:V) (xs:List V) (v:Value) (us:List Value) (Q:VK),Inv X pins σ H s→RelV x v→Vals xs us→r x xs H Q→
  wpAny (model X.prog X.w) X.A (call (.builtin id) (v::us)) (EP X pins σ Q) X.xe s
section
variable{X:Cx}{a b:Expr}{ta tb:TE}{pos:Pos}
theorem IxR.or{r r':R2}(h:IxR X r)(h':IxR X r'):IxR X (fun x y H Q=>r x y H Q∨r' x y H Q):=by
 intro value slice pins s σ H x y v u Q I rx ry q hs
 rcases q with q | q
 ·exact h value slice pins s σ H x y v u Q I rx ry q hs
 ·exact h' value slice pins s σ H x y v u Q I rx ry q hs
theorem pe_ix{r:R2}(hr:IxR X r)(ha:PE X a ta)(hb:PE X b tb)(hs:PlainIx b):PE X (.Subscript a b pos) (tOp r ta tb):=by
 intro pins s σ H Q I h
 exact Subscript_ (binT ha hb I h fun v u s2 x y H2 I2 rx ry q=>hr a b pins s2 σ H2 x y v u Q I2 rx ry q (hs _ _))
def rIxL(K:PySem.W.Frag):R2:=fun x y H Q=>∃ p xs i v,x=.ref p∧y=.int i∧SqL K H p xs∧atI xs i=some v∧Q v H
def rIxT(K:PySem.W.Frag):R2:=fun x y H Q=>∃ p xs i v,x=.ref p∧y=.int i∧SqT K H p xs∧atI xs i=some v∧Q v H
def rIxS:R2:=fun x y H Q=>∃ z i c,x=.str z∧y=.int i∧z.length≤sizeLine∧atI z.cps.toList i=some c∧Q (.str ⟨#[c]⟩) H
theorem ix_list:IxR X (rIxL X.K):=by
 intro value slice pins s σ H x y v u Q I rx ry h hs
 obtain⟨p,xs,i,z,rfl,rfl,hq,he,q⟩:=h
 cases rx
 obtain⟨t,rfl⟩:=ry
 obtain⟨its,r,pl,hz⟩:=I.list hq
 obtain⟨j,h1,h2,h3,h4,h5⟩:=atI_get he
 obtain⟨w,ew,rw'⟩:=r.get h2
 have hl:=r.length
 have hn:=line63
 have fin:EP X pins σ Q w s:=⟨z,H,I,rw',q⟩
 by_cases h0:0≤i
 ·have hj:i.toNat=j:=by
   rw[seqIndex_of h0 h5]at h1
   exact Option.some.inj h1
  exact item_listR pl.isList h0 (by omega) (by rw[hj];simpa using ew) fin hs
 ·have hj:(i+(its.toArray.size:Int)).toNat=j:=by
   rw[seqIndex_neg (by omega) h4]at h1
   rw[List.size_toArray,← hl]
   exact Option.some.inj h1
  exact subscriptTail_builtinR (x:=w) pl.isList.typeIs slot_list_getitem.lookup
   (wpAny_getItem_list_neg (Q:=fun r s'=>r=w∧EP X pins σ Q r s') pl.isList (by omega) (by rw[List.size_toArray]<;>omega) (by omega) (by rw[hj];simpa using ew) ⟨rfl,fin⟩) hs
theorem ix_tup:IxR X (rIxT X.K):=by
 intro value slice pins s σ H x y v u Q I rx ry h hs
 obtain⟨p,xs,i,z,rfl,rfl,hq,he,q⟩:=h
 cases rx
 obtain⟨t,rfl⟩:=ry
 obtain⟨its,r,pl,hz⟩:=I.tuple hq
 obtain⟨j,h1,h2,h3,h4,h5⟩:=atI_get he
 obtain⟨w,ew,rw'⟩:=r.get h2
 have hl:=r.length
 have hn:=line63
 have fin:EP X pins σ Q w s:=⟨z,H,I,rw',q⟩
 exact subscriptTail_builtinR (x:=w) pl.typeIs slot_tuple_getitem.lookup
  (getItem_tuple (j:=j) (Q:=fun r s'=>r=w∧EP X pins σ Q r s') pl (by omega) (by omega) (by rw[List.size_toArray,← hl];exact h1) (by simpa using ew) ⟨rfl,fin⟩) hs
theorem ix_str:IxR X rIxS:=by
 intro value slice pins s σ H x y v u Q I rx ry h hs
 obtain⟨z,i,c,rfl,rfl,hz,he,q⟩:=h
 obtain⟨t,rfl⟩:=rx
 obtain⟨t',rfl⟩:=ry
 obtain⟨j,h1,h2,h3,h4,h5⟩:=atI_get he
 have hl:z.cps.toList.length=z.length:=by simp[Str.length]
 rw[hl]at h1 h4 h5
 have hn:=line63
 exact tail_any (typeIs_str s z t) slot_str_getitem.lookup (getItem_str (c:=c) (by
  have e1:decide (i < -(2 ^ 63:Int))=false:=decide_eq_false (by omega)
  have e2:decide (i≥2 ^ 63)=false:=decide_eq_false (by omega)
  rw[e1,e2,Bool.or_false]) (by rw[h1];simpa using h2) ⟨.str ⟨#[c]⟩,H,I.tok _,⟨_,rfl⟩,q⟩) hs
def rIx(K:PySem.W.Frag):R2:=fun x y H Q=>rIxL K x y H Q∨rIxT K x y H Q∨rIxS x y H Q
theorem ix_seq:IxR X (rIx X.K):=ix_list.or (ix_tup.or ix_str)
theorem slice_bounds(lo hi:Option Int)(n:Nat):(sliceBounds lo hi none n).1=((HT.sIx n 0 lo:Nat):Int)∧(sliceBounds lo hi none n).2.1=((HT.sIx n n hi:Nat):Int)∧(sliceBounds lo hi none n).2.2=1:=by
 refine⟨?_,?_,rfl⟩
 ·cases lo with
  | none=>simp[sliceBounds,HT.sIx]
  | some i=>
   simp only[sliceBounds,HT.sIx,Option.getD_none,show (1:Int) > 0 by decide,if_true]
   by_cases h:i<0
   ·simp only[h,if_true]<;>omega
   ·simp only[h,if_false]<;>omega
 ·cases hi with
  | none=>simp[sliceBounds,HT.sIx]
  | some i=>
   simp only[sliceBounds,HT.sIx,Option.getD_none,show (1:Int) > 0 by decide,if_true]
   by_cases h:i<0
   ·simp only[h,if_true]<;>omega
   ·simp only[h,if_false]<;>omega
theorem slicePick_cut(its:List Value)(lo hi:Option Int):slicePick its.toArray lo hi none=((its.drop (HT.sIx its.length 0 lo)).take (HT.sIx its.length its.length hi-HT.sIx its.length 0 lo)).toArray:=by
 obtain⟨h1,h2,h3⟩:=slice_bounds lo hi its.toArray.size
 unfold slicePick
 rw[h1,h2,h3]
 simp only[sliceRange_one,pick_run,List.size_toArray]<;>rfl
def rSlL(K:PySem.W.Frag):V→Option Int→Option Int→Hp→VK→Prop:=fun x lo hi H Q=>∃ a xs,x=.ref a∧SqL K H a xs∧∀ p,H p=none→Q (.ref p) (upd H p (.lst (cutV xs lo hi)))
theorem sl_list:SlR X (rSlL X.K):=by
 intro pins s σ H x v vl vu lo hi sl Q I rx hs pl pu h
 obtain⟨a,xs,rfl,hx,q⟩:=h
 cases rx
 obtain⟨its,r,ht,hz⟩:=I.list hx
 have hlen:=r.length
 refine⟨"list",_,slot_list_getitem.lookup,ht.isList.typeIs,?_⟩
 refine wpAny_getItem_list_slice ht.isList hs pl pu .none (by simp) ?_ (by rw[List.size_toArray]<;>omega)
 rw[slicePick_cut,← hlen]
 refine⟨.ref s.heap.objs.size,_,I.laid (t':=s.toks) (o:=.lst (cutV xs lo hi)) (fun b ob q=>Heap.get?_push_of_some _ q) (Nat.le_refl _) ?_,rfl,q _ (I.hok.fresh (Nat.le_refl _))⟩
 exact⟨Nat.le_trans (cutV_length xs lo hi) hz,_,0,(r.drop (HT.sIx xs.length 0 lo)).take (HT.sIx xs.length xs.length hi-HT.sIx xs.length 0 lo),Heap.get?_push_size _ rfl⟩
def flatV:V→Bool
 | .non=>true
 | .bl _=>true
 | .int _=>true
 | .str _=>true
 | _=>false
def eqV:V→V→Bool
 | .non,.non=>true
 | .bl a,.bl b=>a==b
 | .bl a,.int b=>(if a then 1 else 0)==b
 | .int a,.bl b=>a==(if b then 1 else 0)
 | .int a,.int b=>a==b
 | .str a,.str b=>a==b
 | _,_=>false
theorem eqAt_V{A:Around}{s:Shared}{y x:V}{u v:Value}(ry:RelV y u)(rx:RelV x v)(fy:flatV y=true)(fx:flatV x=true):SeqAt.EqAt A s u v (eqV y x):=by
 cases y with
 | non=>
  cases ry
  cases x with
  | non=>cases rx;exact SeqAt.EqAt.same _
  | bl b=>cases rx;exact SeqAt.EqAt.none_bool b
  | int b=>obtain⟨t,rfl⟩:=rx;exact SeqAt.EqAt.none_int b t
  | str b=>obtain⟨t,rfl⟩:=rx;exact SeqAt.EqAt.none_str b t
  | _=>exact absurd (show false=true from fx) Bool.false_ne_true
 | bl a=>
  cases ry
  cases x with
  | non=>cases rx;exact SeqAt.EqAt.bool_none a
  | bl b=>cases rx;exact SeqAt.EqAt.bool_bool a b
  | int b=>obtain⟨t,rfl⟩:=rx;exact SeqAt.EqAt.bool_int a b t
  | str b=>obtain⟨t,rfl⟩:=rx;exact SeqAt.EqAt.bool_str a b t
  | _=>exact absurd (show false=true from fx) Bool.false_ne_true
 | int a=>
  obtain⟨t',rfl⟩:=ry
  cases x with
  | non=>cases rx;exact SeqAt.EqAt.int_none a t'
  | bl b=>cases rx;exact SeqAt.EqAt.int_bool a t' b
  | int b=>obtain⟨t,rfl⟩:=rx;exact SeqAt.EqAt.int_int a t' b t
  | str b=>obtain⟨t,rfl⟩:=rx;exact SeqAt.EqAt.int_str a t' b t
  | _=>exact absurd (show false=true from fx) Bool.false_ne_true
 | str a=>
  obtain⟨t',rfl⟩:=ry
  cases x with
  | non=>cases rx;exact SeqAt.EqAt.str_none a t'
  | bl b=>cases rx;exact SeqAt.EqAt.str_bool a t' b
  | int b=>obtain⟨t,rfl⟩:=rx;exact SeqAt.EqAt.str_int a t' b t
  | str b=>obtain⟨t,rfl⟩:=rx;exact SeqAt.EqAt.str_str a t' b t
  | _=>exact absurd (show false=true from fx) Bool.false_ne_true
 | _=>exact absurd (show false=true from fy) Bool.false_ne_true
def eqU(x:V)(u:Value):Bool:=match u with
 | .none=>eqV .non x
 | .bool b=>eqV (.bl b) x
 | .int i _=>eqV (.int i) x
 | .str z _=>eqV (.str z) x
 | _=>false
theorem eqU_of{x y:V}{u:Value}(r:RelV y u)(f:flatV y=true):eqU x u=eqV y x:=by
 cases y with
 | non=>cases r;rfl
 | bl b=>cases r;rfl
 | int i=>obtain⟨t,rfl⟩:=r;rfl
 | str z=>obtain⟨t,rfl⟩:=r;rfl
 | _=>exact absurd (show false=true from f) Bool.false_ne_true
theorem any_eqU{x:V}:∀ {xs:List V} {us:List Value},Vals xs us→xs.all flatV=true→us.any (eqU x)=xs.any fun y=>eqV y x
 | _,_,.nil,_=>rfl
 | y::xs,u::us,.cons r t,f=>by
  rw[List.all_cons,Bool.and_eq_true]at f
  rw[List.any_cons,List.any_cons,eqU_of r f.1,any_eqU t f.2]
theorem mem_eqAt{A:Around}{s:Shared}{x:V}{v:Value}(rx:RelV x v)(fx:flatV x=true):∀ {xs:List V} {us:List Value},Vals xs us→xs.all flatV=true→∀ u∈us,SeqAt.EqAt A s u v (eqU x u)
 | _,_,.nil,_=>fun u hu=>by cases hu
 | y::xs,u::us,.cons r t,f=>fun u' hu=>by
  rw[List.all_cons,Bool.and_eq_true]at f
  rcases List.mem_cons.mp hu with rfl | hu
  ·rw[eqU_of r f.1];exact eqAt_V r rx f.1 fx
  ·exact mem_eqAt rx fx t f.2 u' hu
def inV(x:V)(xs:List V):Bool:=xs.any fun y=>eqV y x
def rIn(K:PySem.W.Frag)(neg:Bool):R2:=fun x y H Q=>∃ p xs,y=.ref p∧(SqL K H p xs∨SqT K H p xs)∧flatV x=true∧xs.all flatV=true∧Q (.bl (if neg then !inV x xs else inV x xs)) H
theorem op_in_seq:OpR X (compareOp .In) (rIn X.K false):=by
 intro pins s σ H x y v u Q I rx ry h
 obtain⟨p,xs,rfl,hq,fx,fs,q⟩:=h
 cases ry
 rcases hq with hq | hq
 ·obtain⟨its,r,pl,hz⟩:=I.list hq
  refine SeqAt.in_listAt (eqU x) pl.isList (fun w hw=>mem_eqAt rx fx r fs w (by simpa using hw)) ⟨.bl _,H,I,rfl,?_⟩
  rw[show its.toArray.any (eqU x)=its.any (eqU x) by simp,any_eqU r fs]
  exact q
 ·obtain⟨its,r,pl,hz⟩:=I.tuple hq
  refine SeqAt.in_tupleAt (eqU x) pl (fun w hw=>mem_eqAt rx fx r fs w (by simpa using hw)) ⟨.bl _,H,I,rfl,?_⟩
  rw[show its.toArray.any (eqU x)=its.any (eqU x) by simp,any_eqU r fs]
  exact q
theorem CallR.or{f:Value}{r r':List V→Hp→VK→Prop}(h:CallR X f r)(h':CallR X f r'):CallR X f (fun xs H Q=>r xs H Q∨r' xs H Q):=by
 intro pins s σ H xs us Q I rs q
 rcases q with q | q
 ·exact h pins s σ H xs us Q I rs q
 ·exact h' pins s σ H xs us Q I rs q
theorem call_list_of:CallR X (.type "list") (fun xs H Q=>∃ p ys,xs=[.ref p]∧(SqL X.K H p ys∨SqT X.K H p ys)∧∀ l,H l=none→Q (.ref l) (upd H l (.lst ys))):=by
 intro pins s σ H xs us Q I r h
 obtain⟨p,ys,rfl,hq,q⟩:=h
 obtain⟨u,rfl,rx⟩:=vals1 r
 cases rx
 have fin:∀ (its:List Value),Vals ys its→ys.length≤sizeLine→∀ (h':Heap) (c':Nat),(∀ b o',s.heap.get? b=some o'→h'.get? b=some o')→
   h'.get? s.heap.objs.size=some { cls:=.type "list",dict:=none,data:=.seq its.toArray c',slots:=#[] }→EP X pins σ Q (.ref s.heap.objs.size) { s with heap:=h' }:=fun its r' hz h' c' kp e=>
  ⟨.ref s.heap.objs.size,_,I.laid (t':=s.toks) kp (Nat.le_refl _) (show ObjOk X.prog X.w _ h' _ (.lst ys) from ⟨hz,its,c',r',e⟩),rfl,q _ (I.hok.fresh (Nat.le_refl _))⟩
 rcases hq with hq | hq
 ·obtain⟨its,r',pl,hz⟩:=I.list hq
  have hlen:=r'.length
  obtain⟨o,ho,hc,n,hd⟩:=pl.isList
  exact call_list_seq p (.inl rfl) ho hc hd (fun h' c' kp e=>fin its r' hz h' c' kp e) (by simp only[List.size_toArray]<;>omega)
 ·obtain⟨its,r',pl,hz⟩:=I.tuple hq
  have hlen:=r'.length
  obtain⟨o,ho,hc,n,hd⟩:=pl
  exact call_list_seq p (.inr rfl) ho hc hd (fun h' c' kp e=>fin its r' hz h' c' kp e) (by simp only[List.size_toArray]<;>omega)
def tyV(K:PySem.W.Frag)(T:String)(x:V)(H:Hp):Prop:=match x with
 | .str _=>T = "str"
 | .int _=>T = "int"
 | .ref p=>(T = "list"∧∃ xs,SqL K H p xs)∨(T = "tuple"∧∃ o,K.lookup p=some o∧o.cls=.type "tuple"∧o.dict=none)∨
   (T = "dict"∧((∃ kvs,H p=some (.dK kvs))∨∃ kvs,H p=some (.dT kvs)))∨(T = "set"∧∃ S n,H p=some (.set S n))
 | _=>False
theorem tyV_is{pins:List (Addr×Obj)}{σ:St}{H:Hp}{s:Shared}{T:String}{x:V}{v:Value}(I:Inv X pins σ H s)(r:RelV x v)(ty:tyV X.K T x H):
  s.TypeIs v T∧∀ a,v=.ref a→∃ ob,s.heap.get? a=some ob∧ob.dict=none:=by
 cases x with
 | str z=>
  obtain⟨t,rfl⟩:=r
  cases (show T = "str" from ty)
  exact⟨typeIs_str s z t,fun _ e=>nomatch e⟩
 | int i=>
  obtain⟨t,rfl⟩:=r
  cases (show T = "int" from ty)
  exact⟨typeIs_int s i t,fun _ e=>nomatch e⟩
 | ref p=>
  cases r
  rcases ty with ⟨rfl,xs,hq⟩ | ⟨rfl,o,hk,hc,hd⟩ | ⟨rfl,hk⟩ | ⟨rfl,S,n,hk⟩
  ·obtain⟨its,_,pl,_⟩:=I.list hq
   refine⟨pl.isList.typeIs,fun a e=>?_⟩
   cases e
   obtain⟨o,n,e,c,hd,_⟩:=pl
   exact⟨o,e,hd⟩
  ·refine⟨⟨o,I.kIn p o hk,hc⟩,fun a e=>?_⟩
   cases e
   exact⟨o,I.kIn _ o hk,hd⟩
  ·have z:∃ o,s.heap.get? p=some o∧o.ExactDict:=by
    rcases hk with ⟨kvs,hk⟩ | ⟨kvs,hk⟩
    ·obtain⟨_,_,_,_,o,_,_,e,ex,_⟩:=I.hok p _ hk
     exact⟨o,e,ex⟩
    ·obtain⟨_,_,_,_,o,_,_,e,ex,_⟩:=I.hok p _ hk
     exact⟨o,e,ex⟩
   obtain⟨o,e,ex⟩:=z
   refine⟨⟨o,e,ex.1⟩,fun a e2=>?_⟩
   cases e2
   exact⟨o,e,ex.2.1⟩
  ·obtain⟨o,_,_,_,e,ex,_⟩:=I.hok p _ hk
   refine⟨⟨o,e,ex.1⟩,fun a e2=>?_⟩
   cases e2
   exact⟨o,e,ex.2.1⟩
 | _=>exact False.elim ty
def tBM(K:PySem.W.Frag)(T:String)(r:V→List V→Hp→VK→Prop)(to:TE)(t:TA):TE:=fun σ H Q=>to σ H fun x H1=>tyV K T x H1∧t σ H1 fun xs H2=>r x xs H2 Q
variable{o e:Expr}{es:List Expr}{to:TE}{t:TA}{name:Str}{apos cpos:Pos}{T id:String}{r:V→List V→Hp→VK→Prop}
theorem pe_bm(pa:PlainAttrs T)(slot:Slot T name id)(hty:typeOf (.builtin id)=pure (.type "method_descriptor"))(hm:MtR X id r)(ho:PE X o to)(ha:PA X (e::es) t)
  (hbase:attributeBase o name X.env (eval o X.env)=eval o X.env:=by rfl)
  (hfew:((backTo cpos (starEach (e::es) X.env)).all (fun x=>!x.1)&&(backToKw cpos (keywordEach [] X.env)).all (fun x=>x.1.isSome)
   &&decide ((e::es).length+([]:List Keyword).length+(if ([]:List Keyword).isEmpty then 0 else 1)<30))=true:=by rfl)
  (hline:(apos.endLine==cpos.line)=true:=by rfl) (hs:starEach (e::es) X.env=(false,eval e X.env)::starEach es X.env:=by rfl) (hplain:(backTo cpos (starEach es X.env)).any (·.1)=false:=by rfl) :
  PE X (.Call (.Attribute o name apos) (e::es) [] cpos) (tBM X.K T r to t):=by
 intro pins s σ H Q I h
 refine wpAny_Call_method_late hbase hfew hline rfl (thn (ho pins s σ H _ I h) fun v s1 hq0=>?_)
 obtain⟨x,H1,I1,r1,ty,q1⟩:=hq0
 obtain⟨h1,h2⟩:=tyV_is I1 r1 ty
 refine⟨T,id,pa,slot,hty,h1,h2,?_⟩
 have hA:=ha cpos pins s1 σ H1 _ I1 q1
 rw[hs]at hA ⊢
 refine Calls.callWith_builtin (by show (false||(backTo cpos (starEach es X.env)).any (·.1))=false;rw[hplain]<;>rfl) (Calls.evalArgs_plain ?_)
 exact thn hA fun us s2 ⟨vs,H2,I2,r2,q2⟩=>hm pins s2 σ H2 x vs v us Q I2 r1 r2 q2
/- xs.append(e),list.index on a module's tuple .. are MtR facts of 06m -/
end
end L2
namespace L2
open PySem PySem.Spec PyProof.Rows
def MtM(X:Cx)(id:String)(r:V→List V→Hp→VK→Prop):Prop:=
 ∀ (pins:List (Addr×Obj)) (s:Shared) (σ:St) (H:Hp) (x:V) (xs:List V) (v:Value) (us:List Value) (Q:VK),Inv X pins σ H s→RelV x v→Vals xs us→r x xs H Q→
  wpAny (model X.prog X.w) X.A (call (.builtin id) (v::us)) (EP X pins σ Q) X.xe s
theorem Vals.one:∀ {x:V} {us:List Value},Vals [x] us→∃ u,us=[u]∧RelV x u
 | _,_,.cons r .nil=>⟨_,rfl,r⟩
theorem Vals.two:∀ {x y:V} {us:List Value},Vals [x,y] us→∃ u v,us=[u,v]∧RelV x u∧RelV y v
 | _,_,_,.cons r (.cons q .nil)=>⟨_,_,rfl,r,q⟩
theorem Vals.zero:∀ {us:List Value},Vals [] us→us=[]
 | _,.nil=>rfl
theorem Vals.dropLast{xs:List V}{us:List Value}(h:Vals xs us):Vals xs.dropLast us.dropLast:=by
 induction h with
 | nil=>exact .nil
 | cons r t ih=>
  cases t with
  | nil=>exact .nil
  | cons q t'=>exact .cons r ih
section
variable{X:Cx}{pins:List (Addr×Obj)}{σ:St}{H:Hp}{s:Shared}{l b:Addr}{xs ys zs:List V}
theorem Inv.lset{its its':List Value}{n:Nat}{f:Array Value→Array Value}{t':Nat}(I:Inv X pins σ H s)(hH:H l=some (.lst xs))
  (e:s.heap.get? l=some { cls:=.type "list",data:=.seq its.toArray n }) (hf:f its.toArray=its'.toArray) (hv:Vals ys its') (hz:ys.length≤sizeLine) :
  Inv X pins σ (upd H l (.lst ys)) { s with heap:=s.heap.update l (Obj.mapSeq f),toks:=t' }:=by
 have q:=PySem.IsL.update e f
 rw[hf]at q
 refine I.write (x:=l) (e:=l) (by rw[hH];exact trivial) (.inl rfl) (fun b' u hb hu=>(Heap.get?_update_other s.heap (Obj.mapSeq f) (Ne.symm hb)).trans hu) ⟨_,q⟩ ?_
 exact⟨hz,its',_,hv,q⟩
theorem Inv.lnew{its:List Value}{t':Nat}(I:Inv X pins σ H s)(hv:Vals ys its)(hz:ys.length≤sizeLine):
  Inv X pins σ (upd H s.heap.objs.size (.lst ys)) { s with heap:=s.heap.push { cls:=.type "list",data:=.seq its.toArray },toks:=t' }:=
 I.laid (fun _ _ q=>Heap.get?_push_of_some _ q) (Nat.le_refl _) ⟨hz,its,0,hv,Heap.get?_push_size _ rfl⟩
theorem Inv.fresh(I:Inv X pins σ H s):H s.heap.objs.size=none:=I.hok.fresh (Nat.le_refl _)
theorem Inv.lstM(I:Inv X pins σ H s)(hH:H l=some (.lst xs)):xs.length≤sizeLine∧∃ (its:List Value) (n:Nat),Vals xs its∧xs.length=its.length∧s.heap.get? l=some { cls:=.type "list",data:=.seq its.toArray n }:=by
 obtain⟨z,its,n,r,e⟩:=I.hok l _ hH
 exact⟨z,its,n,r,r.length,e⟩
end
section
variable{X:Cx}
def rAppend:V→List V→Hp→VK→Prop:=fun x vs H Q=>∃ l xs y,x=.ref l∧vs=[y]∧H l=some (.lst xs)∧xs.length<sizeLine∧Q .non (upd H l (.lst (xs++[y])))
theorem mt_append:MtM X "list.append" rAppend:=by
 intro pins s σ H x vs v us Q I rx rv h
 obtain⟨l,xs,y,rfl,rfl,hH,hz,q⟩:=h
 cases rx
 obtain⟨u,rfl,ru⟩:=rv.one
 obtain⟨z,its,n,r,hl,e⟩:=I.lstM hH
 refine call_meets F.slot_list_append ⟨_,e,rfl⟩ F.entry_list_append (F.args_list_append_2 _ _) (PySem.list_append l its.toArray n u (by rw[List.size_toArray];omega)) ⟨e,?_⟩
 refine⟨.non,_,I.lset (its':=its++[u]) hH e (by simp) (r.append (.cons ru .nil)) ?_,rfl,q⟩
 rw[List.length_append,List.length_singleton]
 omega
end
section
variable{prog:Program}{w:World}{A:Around}{E:Value→Shared→Prop}{s:Shared}
end
section
variable{X:Cx}
end
end L2
namespace L2
open PySem PySem.Spec PyProof.Rows
section
variable{κ:Type}[DecidableEq κ]
def valV(kvs:List (κ×V))(k:κ):Option V:=(kvs.find? fun kv=>decide (kv.1=k)).map (·.2)
def putK(kvs:List (κ×V))(k:κ)(v:V):List (κ×V):=
 if (kvs.any fun kv=>decide (kv.1=k))=true then kvs.map (fun kv=>if kv.1=k then (kv.1,v) else kv) else kvs++[(k,v)]
theorem valV_pos{p:κ×V}{r:List (κ×V)}{k:κ}(e:p.1=k):valV (p::r) k=some p.2:=by simp[valV,List.find?_cons,e]
theorem valV_neg{p:κ×V}{r:List (κ×V)}{k:κ}(e:¬ p.1=k):valV (p::r) k=valV r k:=by simp[valV,List.find?_cons,e]
theorem valV_any(k:κ):∀ kvs:List (κ×V),(kvs.any fun kv=>decide (kv.1=k))=(valV kvs k).isSome
 | []=>rfl
 | p::r=>by
  rw[List.any_cons]
  by_cases e:p.1=k
  ·simp only[valV_pos e,decide_eq_true e,Bool.true_or,Option.isSome_some]
  ·rw[valV_neg e,decide_eq_false e,Bool.false_or];exact valV_any k r
theorem RelO.isSome_eq{o:Option V}{u:Option Value}(r:RelO o u):o.isSome=u.isSome:=by
 cases o with
 | none=>cases u with
  | none=>rfl
  | some _=>exact(show False from r).elim
 | some _=>cases u with
  | none=>exact(show False from r).elim
  | some _=>rfl
theorem KV.any{kvs:List (κ×V)}{vs:List (κ×Value)}(r:KV kvs vs)(k:κ):(kvs.any fun kv=>decide (kv.1=k))=vs.any fun kv=>decide (kv.1=k):=by
 unfold KV at r
 induction r with
 | nil=>rfl
 | cons h t ih=>rw[List.any_cons,List.any_cons,ih,h.1]
theorem KV.repl{kvs:List (κ×V)}{vs:List (κ×Value)}(r:KV kvs vs)(k:κ){y:V}{u:Value}(ry:RelV y u):
  KV (kvs.map fun kv=>if kv.1=k then (kv.1,y) else kv) (vs.map fun kv=>if kv.1=k then (kv.1,u) else kv):=by
 unfold KV at r ⊢
 induction r with
 | nil=>exact .nil
 | @cons p q ps qs h t ih=>
  rw[List.map_cons,List.map_cons]
  refine .cons ?_ ih
  obtain⟨h1,h2⟩:=h
  by_cases e:p.1=k
  ·rw[if_pos e,if_pos (h1.symm.trans e)];exact⟨h1,ry⟩
  ·rw[if_neg e,if_neg (fun z=>e (h1.trans z))];exact⟨h1,h2⟩
theorem KV.put{kvs:List (κ×V)}{vs:List (κ×Value)}(r:KV kvs vs)(k:κ){y:V}{u:Value}(ry:RelV y u):KV (putK kvs k y) (stored vs k u):=by
 unfold putK stored
 rw[r.any k]
 by_cases e:(vs.any fun kv=>decide (kv.1=k))=true
 ·rw[if_pos e,if_pos e];exact r.repl k ry
 ·rw[if_neg e,if_neg e];exact Paired.snoc r ⟨rfl,ry⟩
theorem KV.length{kvs:List (κ×V)}{vs:List (κ×Value)}(r:KV kvs vs):kvs.length=vs.length:=Paired.length r
end
abbrev KT(H:Hp):List (List Key×V)→List (List Key×Addr×Value)→Prop:=Paired fun p q=>p.1=q.1∧H q.2.1=some (.tup (p.1.map kV))∧RelV p.2 q.2.2
theorem KT.val{H:Hp}{kvs:List (List Key×V)}{xs:List (List Key×Addr×Value)}(r:KT H kvs xs)(k:List Key):RelO (valV kvs k) ((atKey xs k).map (·.2)):=by
 induction r with
 | nil=>exact True.intro
 | @cons p q ps qs h t ih=>
  obtain⟨h1,_,h2⟩:=h
  by_cases e:p.1=k
  ·have e':q.1=k:=h1.symm.trans e
   have b:atKey (q::qs) k=some q.2:=by simp[atKey,List.find?_cons,e']
   rw[valV_pos e,b];exact h2
  ·have e':¬ q.1=k:=fun z=>e (h1.trans z)
   have b:atKey (q::qs) k=atKey qs k:=by simp[atKey,List.find?_cons,e']
   rw[valV_neg e,b];exact ih
theorem KT.repl{H:Hp}{kvs:List (List Key×V)}{xs:List (List Key×Addr×Value)}(r:KT H kvs xs)(k:List Key){y:V}{u:Value}(ry:RelV y u):
  KT H (kvs.map fun kv=>if kv.1=k then (kv.1,y) else kv) (xs.map (putAt k u)):=by
 induction r with
 | nil=>exact .nil
 | @cons p q ps qs h t ih=>
  rw[List.map_cons,List.map_cons]
  refine .cons ?_ ih
  obtain⟨h1,h2,h3⟩:=h
  unfold putAt
  by_cases e:p.1=k
  ·rw[if_pos e,if_pos (h1.symm.trans e)];exact⟨h1,h2,ry⟩
  ·rw[if_neg e,if_neg (fun z=>e (h1.trans z))];exact⟨h1,h2,h3⟩
theorem KT.put{H:Hp}{kvs:List (List Key×V)}{xs:List (List Key×Addr×Value)}(r:KT H kvs xs)(k:List Key){b:Addr}{y:V}{u:Value}(hb:H b=some (.tup (k.map kV)))(ry:RelV y u):
  KT H (putK kvs k y) (storedH xs k b u):=by
 have e:(kvs.any fun kv=>decide (kv.1=k))=(atKey xs k).isSome:=by
  rw[valV_any,(r.val k).isSome_eq,Option.isSome_map]
 unfold putK storedH
 rw[e]
 by_cases q:(atKey xs k).isSome=true
 ·rw[if_pos q,if_pos q];exact r.repl k ry
 ·rw[if_neg q,if_neg q];exact Paired.snoc r ⟨rfl,hb,ry⟩
theorem KT.keeps{H H':Hp}{kvs:List (List Key×V)}{xs:List (List Key×Addr×Value)}(r:KT H kvs xs)(ht:∀ b ys,H b=some (.tup ys)→H' b=some (.tup ys)):KT H' kvs xs:=
 Paired.mapP r fun _ _ z=>⟨z.1,ht _ _ z.2.1,z.2.2⟩
section
variable{P:Program}{w:World}{H:Hp}{h:Heap}{a:Addr}
theorem rd_of{u:HO}(ok:HOk P w H h)(e:Rd H a u):ObjOk P w H h a u:=e.ok ok
theorem dk_rd{kvs:List (Key×V)}(ok:HOk P w H h)(e:Rd H a (.dK kvs)):kvs.length≤sizeLine∧(a==sysModules)=false∧∃ vs,KV kvs vs∧h.DictOf (mixKind P w) a vs:=
 show ObjOk P w H h a (.dK kvs) from rd_of ok e
end
def DPut(H:Hp)(a:Addr)(y v:V)(H':Hp):Prop:=
 (∃ kvs k,H a=some (.dK kvs)∧y=kV k∧kvs.length<sizeLine∧H'=upd H a (.dK (putK kvs k v)))∨
 ∃ kvs k b,H a=some (.dT kvs)∧y=.ref b∧H b=some (.tup (k.map kV))∧kvs.length<sizeLine∧H'=upd H a (.dT (putK kvs k v))
theorem DPut.k{H:Hp}{a:Addr}{kvs:List (Key×V)}{k:Key}{v:V}(e:H a=some (.dK kvs))(hl:kvs.length<sizeLine):DPut H a (kV k) v (upd H a (.dK (putK kvs k v))):=.inl ⟨kvs,k,e,rfl,hl,rfl⟩
section
variable{X:Cx}{pins:List (Addr×Obj)}{σ:St}{H:Hp}{s:Shared}{a:Addr}{y v:V}{u r:Value}{o:Option V}{A:Around}{E:Value→Shared→Prop}
end
section
variable{X:Cx}{pins:List (Addr×Obj)}{σ:St}{H:Hp}{s:Shared}{a:Addr}{kvs:List (Key×V)}{k:Key}{u:Value}{A:Around}{E:Value→Shared→Prop}
theorem d_len{Q:Value→Shared→Prop}(I:Inv X pins σ H s)(e:Rd H a (.dK kvs))(h:∀ t s',Inv X pins σ H s'→Q (.int kvs.length t) s'):wpAny (model X.prog X.w) A (call (.builtin "len") [.ref a]) Q E s:=by
 obtain⟨z,hd,vs,rel,dd⟩:=dk_rd I.hok e
 refine call_len_dict hd dd (by rw[← rel.length];rw[sizeLine_eq]at z;omega) ?_
 rw[← rel.length]
 exact h _ _ (I.tok _)
end
section
variable{X:Cx}{o i e value:Expr}{pos pos' tpos:Pos}{td ty tv:TE}
end
section
variable{X:Cx}{pos:Pos}
end
structure M1(X:Cx)(o:Expr)(m:Str)(apos:Pos)(e:Expr)(cpos:Pos):Prop where
 base:attributeBase o m X.env (eval o X.env)=eval o X.env
 few:((backTo cpos (starEach [e] X.env)).all (fun x=>!x.1)&&(backToKw cpos (keywordEach [] X.env)).all (fun x=>x.1.isSome)
  &&decide (([e]:List Expr).length+([]:List Keyword).length+(if ([]:List Keyword).isEmpty then 0 else 1)<30))=true
 line:(apos.endLine==cpos.line)=true
 trees:backTo cpos (starEach [e] X.env)=[(false,eval e X.env)]
structure M2(X:Cx)(o:Expr)(m:Str)(apos:Pos)(e f:Expr)(cpos:Pos):Prop where
 base:attributeBase o m X.env (eval o X.env)=eval o X.env
 few:((backTo cpos (starEach [e,f] X.env)).all (fun x=>!x.1)&&(backToKw cpos (keywordEach [] X.env)).all (fun x=>x.1.isSome)
  &&decide (([e,f]:List Expr).length+([]:List Keyword).length+(if ([]:List Keyword).isEmpty then 0 else 1)<30))=true
 line:(apos.endLine==cpos.line)=true
 trees:backTo cpos (starEach [e,f] X.env)=[(false,eval e X.env),(false,eval f X.env)]
section
variable{X:Cx}{pins:List (Addr×Obj)}{σ:St}{H:Hp}{s:Shared}{a:Addr}{y d:V}{u r:Value}{o:Option V}{A:Around}{E:Value→Shared→Prop}
end
section
variable{X:Cx}{o e f:Expr}{apos cpos:Pos}{td ty tx:TE}
end
section
variable{X:Cx}{pins:List (Addr×Obj)}{σ:St}{H:Hp}{s:Shared}{a:Addr}{kvs:List (Key×V)}{A:Around}{E:Value→Shared→Prop}
end
section
variable{X:Cx}{pins:List (Addr×Obj)}{σ:St}{H:Hp}{s:Shared}{a:Addr}{y:V}{u:Value}{A:Around}{E:Value→Shared→Prop}
end
end L2
namespace Att
open PySem PySem.W PySem.Calls PyProof.Rows
theorem ints_of_wellAll{P:Params}{h:Heap}:∀ (ns:List Int) (vs:List Value),WellAll P h vs (ns.map WData.int)→IntsAre vs ns:=by
 intro ns
 induction ns with
 | nil=>
  intro vs w
  rw[List.map_nil]at w
  cases w
  exact .nil
 | cons n ns ih=>
  intro vs w
  rw[List.map_cons]at w
  cases w with
  | cons a b=>
   cases a
   exact .cons _ _ (ih _ b)
theorem script_of{l:OpenLaw}{n:Nat}(hn:l.most=some n){P:Params}{h:Heap}{args:List WData}{vals:List Value}
  (hpre:l.row.toRowW.claim.pre args=true) (hwl:WellAll P h vals args) :
  ∃ a vs ns,vals=[Value.ref a]∧args=[WData.list (ns.map WData.int)]∧h.get? a=some { cls:=.type "list",data:=.seq vs.toArray }∧IntsAre vs ns∧ns.length≤n:=by
 have hsh:WShape.hasAll [] args [.list .int]=true:=(pre_splitW hpre).1
 have hc:l.pre.holds [] { args:=args }=true:=(pre_splitW hpre).2
 obtain⟨d,r,rfl,h1,h2⟩:=hasAllW_cons hsh
 obtain rfl:=hasAllW_nil h2
 obtain⟨xs,rfl,h3⟩:=hasW_list h1
 obtain⟨ns,rfl⟩:=items_int h3
 have hlen:ns.length≤n:=by
  unfold OpenLaw.pre at hc
  have h4:(WTm.not (.lt (.lit (.int (n:Int))) (.len (.arg 0)))).holds [] { args:=[.list (ns.map .int)] }=true:=by
   have h4:=(holds_andW hc).1
   rw[hn]at h4
   exact h4
  have h5:=condW_of h4 (w_not (w_lt w_lit (w_len_list (w_arg rfl))))
  rw[List.length_map]at h5
  refine Nat.le_of_not_lt fun q=>?_
  have q':(n:Int)<((ns.length:Nat):Int):=by omega
  first
   | (rw[decide_eq_true q']at h5;exact absurd h5 (by decide))
   | (simp at h5;omega)
 cases hwl with
 | cons w1 w2=>
  cases w2
  cases w1 with
  | list ho hall=>exact⟨_,_,ns,rfl,rfl,ho,ints_of_wellAll ns _ hall,hlen⟩
theorem post_true(l:OpenLaw)(args:List WData):l.row.toRowW.claim.post args (.bool true) args=true:=
 postW_of (r:=l.row.toRowW) (X:=(true==true))
  (show WShape.has [] (.bool true) .bool=true by first | rfl | decide | simp[WShape.has,WShape.arms,WShape.armsAll])
  (show (WTm.eq .res (.lit (.bool true))).value [] { args:=args,res:=some (.bool true),after:=args }=some (.bool (true==true)) from w_eq_bool (w_res rfl) w_lit) rfl
theorem attach_call{l:OpenLaw}{n:Nat}{q:Program}{loose:List Str}{XP:(Str→Option Value)→Heap→Prop}{YP:World→Heap→Prop}{d:DefRec}
  (hn:l.most=some n) (hdf:d.params.defaults=[])
  (call:∀ (w:World) (s₀ s₁:Shared) (mg mb:Str→Option Value) (fa:Addr) (o:Obj) (pm cd doc:Value) (a:Addr) (vs:List Value) (ns:List Int),
   Ground q loose [] XP w s₀ mg mb s₁.heap→YP w s₁.heap→
   s₁.heap.get? fa=some o→o.data=.func (docDef d.name d.params d.body d.scope pm cd doc)→s₁.heap.CodeRec cd d.name→mg d.name=some (.ref fa)→
   s₁.heap.get? a=some { cls:=.type "list",data:=.seq vs.toArray }→IntsAre vs ns→ns.length≤n→s₁.gens=#[]→
   codeAny (model l.prog w) callerA (.call (.ref fa) ⟨[.ref a],[]⟩) (fun r s'=>r=.ok (.ret (.bool true))∧OldK s₁.heap s'.heap∧s'.os=s₁.os∧AllBare s'.gens) s₁) :
  WalkO q loose XP YP l.row.toRowW d [] (fun f vs=>PySem.call f vs):=by
 intro w s₀ s₁ mg mb G Y fa o pm cd doc dV kV ho hd hcd hD hmg hg args vals as hpre hlay hrd hwl hlo
 obtain rfl:dV=.none:=Dflts.none hD hdf
 obtain rfl:kV=.none:=Dflts.noKw hD
 obtain⟨a,vs,ns,rfl,rfl,hobj,hints,hlen⟩:=script_of hn hpre hwl
 refine enter_call (codeAny_mono (call w s₀ s₁ mg mb fa o pm cd doc a vs ns G Y ho (fd_plain hd) hcd hmg hobj hints hlen hg) fun r s' hq=>?_)
 obtain⟨rfl,h2,h3,h4⟩:=hq
 exact⟨.inl ⟨.bool true,.bool true,[],rfl,fun _=>rfl,.bool true,post_true l _,fun _=>⟨List.Pairwise.nil,fun _ hm=>(nomatch hm)⟩⟩,h2,h3,h4⟩
section
variable{prog:Program}{w:World}{A:Around}{E:Value→Shared→Prop}{s:Shared}{K:Frag}
def noObjs(h:Heap):Heap:={ h with objs:=#[] }
theorem noObjs_get(h:Heap)(b:Addr):(noObjs h).get? b=none:=by
 cases e:(noObjs h).get? b with
 | none=>rfl
 | some o=>exact absurd (Heap.lt_size e) (Nat.not_lt_zero _)
theorem fr_all{h:Heap}{L:Addr}{m:Str→Option Value}(n:h.Ns L m):Fr (noObjs h) L h m:=
 ⟨n,fun b o e=>(by rw[noObjs_get]at e;cases e),Nat.zero_le _⟩
end
end Att
namespace L2
open PySem PySem.Spec PyProof.Rows
theorem vals_ints:∀ {vs:List Value} {ns:List Int},IntsAre vs ns→Vals (ns.map V.int) vs
 | _,_,.nil=>.nil
 | _,_,.cons n t h=>.cons ⟨t,rfl⟩ (vals_ints h)
def Only(H:Hp):Prop:=∀ b,H b=none∨∃ o xs,H b=some (.frz o (.lst xs))
theorem law_call{P:Program}{w:World}{K:PySem.W.Frag}{mg mb:Str→Option Value}{CX:CXT}{k:Nat}{fa a:Addr}{fd:FuncData}{x:Str}{sp:Sp}{s₁:Shared}{vs:List Value}{ns:List Int}
  (KX:K.In s₁.heap) (hns:s₁.heap.Ns mainGlobals mg) (hb:s₁.heap.Ns builtinsNs mb) (hbb:∀ x:Str,x≠"__name__"→mb x=bootBuiltins x) (hlim:s₁.heap.NoLimit) (hg:s₁.gens=#[])
  (ha:s₁.heap.get? a=some { cls:=.type "list",data:=.seq vs.toArray }) (hi:IntsAre vs ns) (hl:ns.length≤sizeLine) (hr:Room k callerA)
  (F:∀ base:Heap,K.In base→base.Ns mainGlobals mg→FnOk P w K mg base CX k fa fd [x] sp) (hbind:∀ (s:Shared) (u:Value),BindsTo s fd ⟨[u],[]⟩ [(x,u)])
  (hsp:∀ H:Hp,Only H→SqL K H a (ns.map V.int)→sp [.ref a] H (fun v _=>v=.bl true) fun _ _ _=>False)
  (hCX:∀ H e s',CX [] H s₁ (fun _ _ _=>False) e s'→False) :
  codeAny (model P w) callerA (.call (.ref fa) ⟨[.ref a],[]⟩) (fun r s'=>r=.ok (.ret (.bool true))∧OldK s₁.heap s'.heap∧s'.os=s₁.os∧AllBare s'.gens) s₁:=by
 have rv:=vals_ints hi
 have lenV:=hi.length
 have core:∀ H:Hp,Only H→SqL K H a (ns.map V.int)→HOk P w H s₁.heap→(∀ b,H b≠none→b=a)→(H a≠none→K.lookup a=none)→
   codeAny (model P w) callerA (.call (.ref fa) ⟨[.ref a],[]⟩) (fun r s'=>r=.ok (.ret (.bool true))∧OldK s₁.heap s'.heap∧s'.os=s₁.os∧AllBare s'.gens) s₁:=by
  intro H hO hS hok hA hK
  have base_of:∀ {b:Addr} {o:Obj},s₁.heap.get? b=some o→H b=none→(hidT s₁.heap H).get? b=some o:=fun e n=>hidT_get e n
  have noA:∀ {b:Addr} {o:Obj} {es:Array DictEntry} {ep:Nat},s₁.heap.get? b=some o→o.data=.dict es ep→H b=none:=fun {b o es ep} e d=>by
   cases q:H b with
   | none=>rfl
   | some u=>
    have e':b=a:=hA b (by rw[q];simp)
    subst e'
    rw[ha]at e;cases e
    have d':Data.seq vs.toArray _=Data.dict es ep:=d
    cases d'
  have nsK:∀ {b:Addr} {m:Str→Option Value},s₁.heap.Ns b m→(hidT s₁.heap H).Ns b m:=fun {b m} ⟨o,es,ep,e,d,r⟩=>⟨o,es,ep,base_of e (noA e d),d,r⟩
  have hKb:K.In (hidT s₁.heap H):=fun b o e=>base_of (KX b o e) (by
   cases q:H b with
   | none=>rfl
   | some u=>
    have e':b=a:=hA b (by rw[q];simp)
    subst e'
    rw[hK (by rw[q];simp)]at e;cases e)
  have hM:Mod K mg (hidT s₁.heap H):=⟨hKb,nsK hns,⟨mb,nsK hb,hbb⟩,let ⟨mc,h1,h2⟩:=hlim;⟨mc,nsK h1,h2⟩⟩
  have e0:Env0 P w K mg (hidT s₁.heap H) callerA [] s₁ H:=⟨rfl,hM,fun b o e=>of_hidT e,Nat.le_of_eq (hidT_size _ _),trivial,fun b hb=>absurd (show b∈([]:List Addr) from hb) (by simp),hok,.of_eq hg⟩
  refine codeAny_mono ((F _ hKb (nsK hns)).run callerA [] s₁ H ⟨[.ref a],[]⟩ [.ref a] [.ref a] _ _ hr e0 (hbind s₁ (.ref a)) (.cons rfl .nil) (hsp H hO hS)) fun r s' h=>?_
  cases r with
  | error e=>exact(hCX H e s' h).elim
  | ok fl=>
   cases fl with
   | next=>exact False.elim h
   | brk=>exact False.elim h
   | cont=>exact False.elim h
   | ret u=>
    obtain⟨v,H',os,bare,un,hok',r',q⟩:=h
    have q':v=.bl true:=q
    subst q'
    obtain rfl:u=Value.bool true:=r'
    refine⟨rfl,OldK.of_keep fun b o e=>?_,os,bare⟩
    cases q:H b with
    | none=>exact un.keep b o e q (by intro z;exact absurd (show b∈([]:List Addr) from z) (by simp)) (by simp)
    | some u=>
     rcases hO b with z | ⟨ob,xs,z⟩
     ·rw[q]at z;cases z
     ·have z2:=un.frzs b ob _ z
      obtain⟨e1,_⟩:=hok b _ z
      obtain⟨e2,_⟩:=hok' b _ z2
      rw[e]at e1;cases e1
      exact e2
 cases hk:K.lookup a with
 | some o=>
  have e:=KX a o hk
  rw[ha]at e
  cases e
  refine core (fun _=>none) (fun _=>.inl rfl) (.inr ⟨_,vs.toArray,_,hk,rfl,rfl,rfl,by rw[List.size_toArray,lenV];exact hl,by simpa using rv⟩) (fun b u z=>by have z':(none:Option HO)=some u:=z;cases z') (fun b z=>absurd rfl z) fun z=>absurd rfl z
 | none=>
  refine core (fun b=>if b=a then some (.frz { cls:=.type "list",data:=.seq vs.toArray } (.lst (ns.map V.int))) else none) (fun b=>?_) (.inl (.inr ⟨{ cls:=.type "list",data:=.seq vs.toArray },if_pos rfl⟩)) (fun b u z=>?_) (fun b z=>?_) fun _=>hk
  ·by_cases hb:b=a
   ·exact .inr ⟨_,_,if_pos hb⟩
   ·exact .inl (if_neg hb)
  ·by_cases hb:b=a
   ·have z':=(if_pos hb).symm.trans z
    cases z'
    subst hb
    exact⟨ha,by rw[List.length_map];exact hl,vs,_,rv,ha⟩
   ·have z':=(if_neg hb).symm.trans z
    cases z'
  ·by_cases hb:b=a
   ·exact hb
   ·exact absurd (if_neg hb) z
end L2
namespace L2
open PySem PySem.Spec PyProof.Rows
abbrev KOf{K:PySem.W.Frag}{h:Heap}(_:K.In h):PySem.W.Frag:=K
theorem walk_of{l:PySem.W.OpenLaw}{n k:Nat}{q:Program}{loose:List Str}{XP:(Str→Option Value)→Heap→Prop}{YP:World→Heap→Prop}{d:DefRec}{K:Params→PySem.W.Frag}{CX:World→CXT}{sp:World→Sp}{x:Str}
  (hn:l.most=some n) (hn2:n≤sizeLine) (hdf:d.params.defaults=[]) (hr:Room k callerA)
  (hY:∀ (w:World) (h:Heap),YP w h→(K w.params).In h)
  (F:∀ (w:World) (mg:Str→Option Value) (fa:Addr) (h:Heap),(K w.params).In h→h.Ns mainGlobals mg→mg d.name=some (.ref fa)→
   ∃ fd:FuncData,(∀ (s:Shared) (u:Value),BindsTo s fd ⟨[u],[]⟩ [(x,u)])∧
    ∀ base:Heap,(K w.params).In base→base.Ns mainGlobals mg→FnOk l.prog w (K w.params) mg base (CX w) k fa fd [x] (sp w))
  (hsp:∀ (w:World) (H:Hp) (a:Addr) (ns:List Int),ns.length≤n→Only H→SqL (K w.params) H a (ns.map V.int)→sp w [.ref a] H (fun v _=>v=.bl true) fun _ _ _=>False)
  (hCX:∀ (w:World) (H:Hp) (s:Shared) (e:Value) (s':Shared),CX w [] H s (fun _ _ _=>False) e s'→False) :
  PySem.W.WalkO q loose XP YP l.row.toRowW d [] (fun f vs=>PySem.call f vs):=by
 refine Att.attach_call hn hdf fun w s₀ s₁ mg mb fa o pm cd doc a vs ns G Y ho hd hcd hmg hobj hints hlen hg=>?_
 have KX:=hY w _ Y
 obtain⟨fd,hb,hF⟩:=F w mg fa _ KX G.T.g hmg
 exact law_call KX G.T.g G.T.b G.T.builtins G.T.nolimit hg hobj hints (Nat.le_trans hlen hn2) hr hF hb (fun H hO hS=>hsp w H a ns hlen hO hS) fun H e s'=>hCX w H s₁ e s'
end L2
/- THE LAST THEOREM (shape;LID,My.* are yours):
  My.Adr: a structure of the addresses that your layer names (classes,functions);My.Txt K t: a structure (Prop) of the equations over K;
  My.txt_mk:{K} {implicit addresses ..} (e1:nsIn K mainGlobals "law" = some (some (.ref f))) (e2:K.lookup f=some ⟨oc,od,.func (fnOf "law" "law" params body scope dV kV doc pm an cdv ct),sl⟩) (e3:codeIn K cdv "law" = true) ..:∃ t,My.Txt K t
set_option maxRecDepth 100000 in
set_option maxHeartbeats 0 in
theorem PySem.Challenge.cw_LID_holds:PySem.Challenge.rw_LID.Holds:=by
 w_on;o_law;k_head;(case hw=>w_witness2)
 k_fill
 refine L2.walk_of (l:=PySem.Challenge.rw_LID) (n:=63) (k:=40) (x:="script") (CX:=fun w=>..) (sp:=fun _=>My.sp_law) rfl (by decide) rfl ⟨rfl,by decide,by decide⟩ (fun w h Y=>PySem.W.kIn_of Y) ?F ?S ?C
 case F=>
  intro w mg fa h KX G hmg
  have T:∃ t,My.Txt (L2.KOf KX) t:=by
   dsimp only[L2.KOf] -- K must stand as «<heap const> w.params» for k_is
   refine' My.txt_mk ?e1 ?e2 ?e3 ..
   (case e1=>PySem.W.k_is) -- in the order: a name -> its address -> its object -> its parts
   (case e2=>PySem.W.k_is)
   ..
  obtain⟨t,T⟩:=T
  have e0:=hmg.symm.trans (PySem.W.mg_of KX G T.law)
  cases e0 -- fa is the law's own address
  exact⟨_,fun s u=>.of_eq rfl,fun base kb nb=>My.law_fn T kb nb⟩ -- if «.of_eq rfl» comes too early: refine' ⟨_,?b,fun base kb nb=>My.law_fn T kb nb⟩;exact fun s u=>.of_eq rfl
 case S=>exact fun w H a ns hl hO hS=>..
 case C=>exact ..
(the tactic k_is has no namespace: write k_is) -/
namespace L2
open PySem PySem.Spec PyProof.Rows
def defArgs(s:Stmt):Arguments:=match s with
 | .FunctionDef _ a _ _ _ _ _ _ _ _=>a
 | _=>{ posonlyargs:=[],args:=[],vararg:=none,kwonlyargs:=[],kw_defaults:=[],kwarg:=none,defaults:=[] }
def defBody(s:Stmt):List Stmt:=match s with
 | .FunctionDef _ _ b _ _ _ _ _ _ _=>b
 | _=>[]
def defScope(s:Stmt):Scope:=match s with
 | .FunctionDef _ _ _ _ _ _ sc _ _ _=>sc
 | _=>{ kind:=.function,names:=[],isGenerator:=false,isCoroutine:=false }
abbrev CX0:CXT:=fun _ _ _ _ _ _=>False
abbrev E0:XK:=fun _ _ _=>False
theorem pass0{X:Cx}:Passes CX0 X E0:=fun _ _ _ _ _ _ _ h=>h.elim
structure Fun(K:PySem.W.Frag)(x qual:Str)(st:Stmt)(f:Addr)(fd:FuncData):Prop where
 ex:∃ (oc:Value) (od:Option Addr) (kV doc pm:Value) (an:Option Addr) (cdv ct:Value) (osl:Array (Option Value)),
  fd=PySem.W.fnOf x qual (defArgs st) (defBody st) (defScope st) .none kV doc pm an cdv ct∧K.lookup f=some ⟨oc,od,.func fd,osl⟩∧PySem.W.codeIn K cdv qual=true
 kp:PySem.W.keepIn K (.ref f)=true
section
variable{P:Program}{w:World}{K:PySem.W.Frag}{mg:Str→Option Value}{base:Heap}
theorem Fun.ok{x qual:Str}{st:Stmt}{f:Addr}{fd:FuncData}{N ps:List Str}{k:Nat}{sp:Sp}(F:Fun K x qual st f fd)(S:FnScope N ps (defScope st))(len:∀ vs H Q E,sp vs H Q E→vs.length=ps.length)
  (hbody:∀ (cdv:Value) (A:Around) (outer:List Env) (s:Shared) (H:Hp) (vs:List V) (Q:VK) (E:XK),Room k (A.deeper (envOfC qual (defScope st) s.heap.objs.size f cdv))→sp vs H Q E→
   ∃ t,PSs (cxOf CX0 P w K mg base N qual (defScope st) f cdv A outer s H E).nox (defBody st) t∧t { nx:=fun _ H'=>Q .non H',rt:=Q } (start N vs) H):FnOk P w K mg base CX0 (k+1) f fd ps sp:=by
 obtain⟨oc,od,kV,doc,pm,an,cdv,ct,osl,rfl,lk,hcd⟩:=F.ex
 refine fn_of lk hcd S len fun A outer s H vs Q E hr hsp=>?_
 obtain⟨t,h,q⟩:=hbody cdv A outer s H vs Q E hr hsp
 exact⟨t,h.nox,q⟩
theorem Fun.binds{x qual:Str}{st:Stmt}{f:Addr}{fd:FuncData}{ps:List Str}(F:Fun K x qual st f fd)
  (h:∀ (kV doc pm:Value) (an:Option Addr) (cdv ct:Value) (us:List Value),us.length=ps.length→bindArgs (PySem.W.fnOf x qual (defArgs st) (defBody st) (defScope st) .none kV doc pm an cdv ct) ⟨us,[]⟩=pure (ps.zip us)):Binds K fd ps []:=by
 obtain⟨oc,od,kV,doc,pm,an,cdv,ct,osl,rfl,lk,hcd⟩:=F.ex
 exact .all (h kV doc pm an cdv ct)
theorem fun_mk{x qual:Str}{st:Stmt}{f:Addr}{oc:Value}{od an:Option Addr}{osl:Array (Option Value)}{kV doc pm cdv ct:Value}(l:K.lookup f=some ⟨oc,od,.func (PySem.W.fnOf x qual (defArgs st) (defBody st) (defScope st) .none kV doc pm an cdv ct),osl⟩)
  (c:PySem.W.codeIn K cdv qual=true) (k:PySem.W.keepIn K (.ref f)=true):Fun K x qual st f (PySem.W.fnOf x qual (defArgs st) (defBody st) (defScope st) .none kV doc pm an cdv ct):=⟨⟨oc,od,kV,doc,pm,an,cdv,ct,osl,rfl,l,c⟩,k⟩
end
theorem hu_of{A:Around}{k:Nat}(hr:Room k A):A.units+1<cLine:=Nat.lt_of_le_of_lt (Nat.add_le_add_left (by decide:1≤64) _) hr.units
section
variable{X:Cx}
theorem pv(i:Nat){x:Str}{pos:Pos}(hN:X.N[i]?=some x:=by rfl)(hv:Vis X.env.scope x:=by first | exact Or.inl rfl | exact Or.inr (Or.inl rfl) | exact Or.inr (Or.inr rfl))(hd:(x==("__debug__" : Str))=false:=by decide)
  (hcd:(x==("__classdict__" : Str))=false:=by decide):PE X (.Name x pos) (tVar i):=pe_var hN hv hd hcd
end
def Same(H H':Hp):Prop:=∀ b o,H b=some o→H' b=some o
theorem Same.refl(H:Hp):Same H H:=fun _ _ h=>h
section
variable{X:Cx}
end
section
variable{κ:Type}[DecidableEq κ]
end
end L2
end
section
namespace WW
inductive Op where
 | sum | times | less
 deriving DecidableEq
def Op.ap:Op→Int→Int→Int
 | .sum,a,b=>(a+b) % 997
 | .times,a,b=>(a*b) % 997
 | .less,a,b=>if a<b then 1 else 0
section
variable{N:Type}
inductive Tm (N:Type) where
 | num (n:Int)
 | nam (x:N)
 | bin (o:Op) (a b:Tm N)
def Tm.val(f:N→Int):Tm N→Int
 | .num n=>n
 | .nam x=>f x
 | .bin o a b=>o.ap (a.val f) (b.val f)
def Tm.dep:Tm N→Nat
 | .num _=>0
 | .nam _=>0
 | .bin _ a b=>max a.dep b.dep+1
def Tm.names:Tm N→List N
 | .num _=>[]
 | .nam x=>[x]
 | .bin _ a b=>a.names++b.names
def Tm.Ok(P:N→Prop):Tm N→Prop
 | .num n=>0≤n∧n<997
 | .nam x=>P x
 | .bin _ a b=>a.Ok P∧b.Ok P
theorem Tm.Ok.names{P:N→Prop}:∀ {t:Tm N},t.Ok P→∀ x∈t.names,P x
 | .num _,_,x,hx=>by simp[Tm.names]at hx
 | .nam y,h,x,hx=>by
  have:x=y:=by simpa[Tm.names] using hx
  rw[this];exact h
 | .bin _ a b,h,x,hx=>by
  rcases List.mem_append.mp hx with hx | hx
  ·exact h.1.names x hx
  ·exact h.2.names x hx
mutual
inductive Dd (N:Type) where
 | put (x:N) (t:Tm N)
 | sho (l:Int) (t:Tm N)
 | ite (t:Tm N) (b c:Bl N)
 | whl (t:Tm N) (b:Bl N)
inductive Bl (N:Type) where
 | nil
 | cons (d:Dd N) (b:Bl N)
end
def Bl.list:Bl N→List (Dd N)
 | .nil=>[]
 | .cons d b=>d::b.list
def Bl.of:List (Dd N)→Bl N
 | []=>.nil
 | d::r=>.cons d (Bl.of r)
theorem Bl.list_of:∀ l:List (Dd N),(Bl.of l).list=l
 | []=>rfl
 | d::r=>by show d::(Bl.of r).list=_;rw[Bl.list_of r]
def Bl.app:Bl N→Bl N→Bl N
 | .nil,c=>c
 | .cons d b,c=>.cons d (b.app c)
theorem Bl.list_app:∀ b c:Bl N,(b.app c).list=b.list++c.list
 | .nil,_=>rfl
 | .cons d b,c=>by show d::(b.app c).list=_;rw[Bl.list_app b c];rfl
mutual
def Dd.size:Dd N→Nat
 | .put _ _=>1
 | .sho _ _=>1
 | .ite _ b c=>b.size+c.size+1
 | .whl _ b=>b.size+1
def Bl.size:Bl N→Nat
 | .nil=>0
 | .cons d b=>d.size+b.size
end
mutual
def Dd.dep:Dd N→Nat
 | .put _ t=>t.dep
 | .sho _ t=>t.dep
 | .ite t b c=>max t.dep (max b.dep c.dep)+1
 | .whl t b=>max t.dep b.dep+1
def Bl.dep:Bl N→Nat
 | .nil=>0
 | .cons d b=>max d.dep b.dep
end
mutual
def Dd.Ok(P:N→Prop):Dd N→Prop
 | .put x t=>P x∧t.Ok P
 | .sho l t=>(0≤l∧l<3)∧t.Ok P
 | .ite t b c=>t.Ok P∧b.Ok P∧c.Ok P
 | .whl t b=>t.Ok P∧b.Ok P
def Bl.Ok(P:N→Prop):Bl N→Prop
 | .nil=>True
 | .cons d b=>d.Ok P∧b.Ok P
end
theorem Dd.size_pos:∀ d:Dd N,0<d.size
 | .put _ _=>Nat.one_pos
 | .sho _ _=>Nat.one_pos
 | .ite _ _ _=>Nat.succ_pos _
 | .whl _ _=>Nat.succ_pos _
def sizes:List (Dd N)→Nat
 | []=>0
 | d::r=>d.size+sizes r
theorem sizes_list:∀ b:Bl N,sizes b.list=b.size
 | .nil=>rfl
 | .cons d b=>by show d.size+sizes b.list=d.size+b.size;rw[sizes_list b]
theorem size_mem:∀ {l:List (Dd N)} {d:Dd N},d∈l→d.size≤sizes l
 | [],_,h=>nomatch h
 | e::r,d,h=>by
  rcases List.mem_cons.mp h with h | h
  ·subst h;exact Nat.le_add_right _ _
  ·exact Nat.le_trans (size_mem h) (Nat.le_add_left _ _)
theorem Bl.Ok.mem{P:N→Prop}:∀ {b:Bl N},b.Ok P→∀ d∈b.list,d.Ok P
 | .nil,_,d,h=>nomatch h
 | .cons e b,h,d,hd=>by
  rcases List.mem_cons.mp hd with hd | hd
  ·subst hd;exact h.1
  ·exact Bl.Ok.mem h.2 d hd
theorem Bl.dep_mem:∀ {b:Bl N} {d:Dd N},d∈b.list→d.dep≤b.dep
 | .nil,_,h=>nomatch h
 | .cons e b,d,h=>by
  rcases List.mem_cons.mp h with h | h
  ·subst h;exact Nat.le_max_left _ _
  ·exact Nat.le_trans (Bl.dep_mem h) (Nat.le_max_right _ _)
variable [DecidableEq N]
def setF(f:N→Int)(x:N)(v:Int):N→Int:=fun y=>if y=x then v else f y
structure S(N:Type) where
 st:List (Dd N)
 f:N→Int
 sh:List (Int×Int)
 t:Int
structure R(N:Type) where
 t:Option Int
 f:N→Int
 sh:List (Int×Int)
def step(most:Int)(s:S N):S N ⊕ R N:=match s.st with
 | []=>.inr ⟨some s.t,s.f,s.sh⟩
 | .put x e::r=>.inl ⟨r,setF s.f x (e.val s.f),s.sh,s.t⟩
 | .sho l e::r=>.inl ⟨r,s.f,s.sh++[(l,e.val s.f)],s.t⟩
 | .ite e b c::r=>.inl ⟨(if e.val s.f≠0 then b.list else c.list)++r,s.f,s.sh,s.t⟩
 | .whl e b::r=>if e.val s.f≠0 then (if s.t≥most then .inr ⟨none,s.f,s.sh⟩ else .inl ⟨b.list++.whl e b::r,s.f,s.sh,s.t+1⟩) else .inl ⟨r,s.f,s.sh,s.t⟩
inductive Runs (most:Int):S N→R N→Prop where
 | done {s:S N} {r:R N}:step most s=.inr r→Runs most s r
 | next {s s':S N} {r:R N}:step most s=.inl s'→Runs most s' r→Runs most s r
inductive Reach (most:Int):S N→S N→Prop where
 | refl {s:S N}:Reach most s s
 | tail {s s' s'':S N}:Reach most s s'→step most s'=.inl s''→Reach most s s''
def page(sh:List (Int×Int))(l:Int):List Int:=(sh.filter fun p=>p.1=l).map (·.2)
end
end WW
end
section
namespace L2
open PySem PySem.Spec PyProof.Rows
def closL(cells:List (Str×Addr)):List (Str×NameKind)→List (Str×Addr)→List (Str×Addr)
 | [],acc=>acc
 | (n,k)::r,acc=>closL cells r (if k==.free then (match cells.lookup n with | some c=>(n,c)::acc | none=>acc) else acc)
theorem closL_sub{cells:List (Str×Addr)}:∀ {names:List (Str×NameKind)} {acc:List (Str×Addr)} {x:Str} {c:Addr},(∀ x c,acc.lookup x=some c→cells.lookup x=some c)→
  (closL cells names acc).lookup x=some c→cells.lookup x=some c
 | [],acc,x,c,h,e=>h x c e
 | (n,k)::r,acc,x,c,h,e=>by
  refine closL_sub (names:=r) (fun y d q=>?_) e
  by_cases hk:(k==NameKind.free)=true
  ·rw[if_pos hk]at q
   cases hl:cells.lookup n with
   | none=>rw[hl]at q;exact h y d q
   | some c'=>
    rw[hl]at q
    simp only[List.lookup_cons]at q
    cases hy:y==n with
    | true=>
     rw[hy]at q
     have:y=n:=by simpa using hy
     subst this
     cases q
     exact hl
    | false=>rw[hy]at q;exact h y d q
  ·rw[if_neg hk]at q
   exact h y d q
theorem closL_keep{cells:List (Str×Addr)}:∀ {names:List (Str×NameKind)} {acc:List (Str×Addr)} {x:Str},(acc.lookup x).isSome=true→((closL cells names acc).lookup x).isSome=true
 | [],_,_,h=>h
 | (n,k)::r,acc,x,h=>by
  refine closL_keep (names:=r) ?_
  split
  ·split
   ·simp only[List.lookup_cons]
    cases hx:x==n with
    | true=>rfl
    | false=>exact h
   ·exact h
  ·exact h
theorem closL_has{cells:List (Str×Addr)}:∀ {names:List (Str×NameKind)} {acc:List (Str×Addr)} {x:Str},(x,NameKind.free)∈names→(cells.lookup x).isSome=true→((closL cells names acc).lookup x).isSome=true
 | [],_,_,h,_=>nomatch h
 | (n,k)::r,acc,x,h,hc=>by
  rcases List.mem_cons.mp h with e | h
  ·cases e
   refine closL_keep (names:=r) ?_
   rw[if_pos (by rfl)]
   cases hl:cells.lookup n with
   | none=>rw[hl]at hc;cases hc
   | some c=>simp[List.lookup_cons]
  ·exact closL_has (names:=r) h hc
theorem closureFor_eq{scope:Scope}{env:Env}(h:∀ y∈scope.names,y.2=.free→(env.cells.lookup y.1).isSome=true):closureFor scope env=pure (closL env.cells scope.names []):=by
 have go:∀ (names:List (Str×NameKind)) (acc:List (Str×Addr)),(∀ y∈names,y.2=.free→(env.cells.lookup y.1).isSome=true)→
   (forIn names acc (fun(x:Str×NameKind) (cs:List (Str×Addr))=>match x with
    | (name,kind)=>if (kind==NameKind.free)=true then (do let c ← cellOf env name;pure (ForInStep.yield ((name,c)::cs)):Sem _) else pure (ForInStep.yield cs)):Sem _)=pure (closL env.cells names acc):=by
  intro names
  induction names with
  | nil=>intro acc _;rfl
  | cons y r ih=>
   intro acc hy
   obtain⟨n,k⟩:=y
   rw[List.forIn_cons]
   by_cases hk:(k==NameKind.free)=true
   ·have hs:=hy (n,k) List.mem_cons_self (by simpa using hk)
    obtain⟨c,hc⟩:=Option.isSome_iff_exists.mp hs
    have hc:env.cells.lookup n=some c:=hc
    have e:cellOf env n=pure c:=by unfold cellOf;rw[hc]
    have e2:=ih ((n,c)::acc) fun z hz=>hy z (List.mem_cons_of_mem _ hz)
    simp only[hk,if_true,e,closL,hc]
    exact e2
   ·have e2:=ih acc fun z hz=>hy z (List.mem_cons_of_mem _ hz)
    simp only[hk,closL]
    exact e2
 unfold closureFor
 have g:=go scope.names [] h
 exact(congrArg (fun m=>m >>= fun cs=>(pure cs:Sem _)) g).trans rfl
abbrev blkEnv(X:Cx)(scope:Scope)(C:Addr):Env:=compEnvC scope (closL X.env.cells scope.names []) C X.env
abbrev cxC(X:Cx)(scope:Scope)(own:List Str)(C:Addr)(s₀:Shared)(H₀:Hp)(ex:List Addr):Cx where
 prog:=X.prog
 w:=X.w
 K:=X.K
 mg:=X.mg
 base:=X.base
 A:=X.A
 N:=X.N++own
 s₀:=s₀
 H₀:=H₀
 env:=blkEnv X scope C
 outer:=X.stack
 stack:=X.stack
 ex:=ex
 fn:=fun _=>false
 calm:=X.calm
 pn:=[]
 xe:=fun _ _=>False
structure BlkOk(X:Cx)(scope:Scope)(own:List Str):Prop where
 kind:scope.kind=.function
 fr:(scope.names.all fun y=>y.2 != .free||X.env.kindOf y.1==some .cell)=true
 cell:(scope.names.all fun y=>y.2 != .cell)=true
 nm:(scope.names.all fun y=>y.2 != .local||scope.names.lookup y.1==some .local)=true
 apart:(X.N.all fun x=>scope.names.lookup x != some .local)=true
 fun':X.env.scope.kind=.function
theorem BlkOk.fr'{X:Cx}{scope:Scope}{own:List Str}(B:BlkOk X scope own):∀ y∈scope.names,y.2=.free→X.env.kindOf y.1=some .cell:=fun y hy e=>by
 have:=List.all_eq_true.mp B.fr y hy
 rw[e]at this
 simpa using this
theorem BlkOk.cell'{X:Cx}{scope:Scope}{own:List Str}(B:BlkOk X scope own):∀ y∈scope.names,y.2≠.cell:=fun y hy e=>by
 have:=List.all_eq_true.mp B.cell y hy
 rw[e]at this
 simp at this
theorem BlkOk.nm'{X:Cx}{scope:Scope}{own:List Str}(B:BlkOk X scope own):∀ y∈scope.names,y.2=.local→scope.names.lookup y.1=some .local:=fun y hy e=>by
 have:=List.all_eq_true.mp B.nm y hy
 rw[e]at this
 simpa using this
theorem relabel_cell{X:Cx}{scope:Scope}{own:List Str}(B:BlkOk X scope own):∀ {names:List (Str×NameKind)} {x:Str},(∀ y∈names,y∈scope.names)→
  ((names.map fun(n,k)=>if (k==NameKind.free&&X.env.scope.kind==.function&&X.env.kindOf n==some .cell) then (n,NameKind.cell) else (n,k)).lookup x=some .cell∨
   (names.map fun(n,k)=>if (k==NameKind.free&&X.env.scope.kind==.function&&X.env.kindOf n==some .cell) then (n,NameKind.cell) else (n,k)).lookup x=some .free)→(x,NameKind.free)∈names∧X.env.kindOf x=some .cell
 | [],x,_,h=>by simp at h
 | (n,k)::r,x,hs,h=>by
  have ih:=@relabel_cell X scope own B r x (fun y hy=>hs y (List.mem_cons_of_mem _ hy))
  have hn:=hs (n,k) List.mem_cons_self
  simp only[List.map_cons]at h
  by_cases hx:(x==n)=true
  ·have e:x=n:=by simpa using hx
   subst e
   by_cases hk:k=.free
   ·subst hk
    exact⟨List.mem_cons_self,B.fr' _ hn rfl⟩
   ·have hc:=B.cell' _ hn
    have hkf:(k==NameKind.free)=false:=by simpa using hk
    simp only[hkf,Bool.false_and,Bool.false_eq_true,if_false,List.lookup_cons,beq_self_eq_true]at h
    rcases h with h | h
    ·cases h;exact absurd rfl hc
    ·cases h;exact absurd rfl hk
  ·have hx':(x==n)=false:=by simpa using hx
   have key:∀ kk:NameKind,(List.lookup x ((if (k==NameKind.free&&X.env.scope.kind==.function&&X.env.kindOf n==some .cell)=true then (n,NameKind.cell) else (n,k))::(r.map fun(n,k)=>if (k==NameKind.free&&X.env.scope.kind==.function&&X.env.kindOf n==some .cell) then (n,NameKind.cell) else (n,k)))=some kk)→
     (r.map fun(n,k)=>if (k==NameKind.free&&X.env.scope.kind==.function&&X.env.kindOf n==some .cell) then (n,NameKind.cell) else (n,k)).lookup x=some kk:=by
    intro kk q
    split at q<;>simpa only [List.lookup_cons,hx'] using q
   have:=ih (h.imp (key _) (key _))
   exact⟨List.mem_cons_of_mem _ this.1,this.2⟩
theorem relabel_local{X:Cx}{scope:Scope}{own:List Str}(B:BlkOk X scope own):∀ {names:List (Str×NameKind)} {x:Str},(∀ y∈names,y∈scope.names)→
  (names.map fun(n,k)=>if (k==NameKind.free&&X.env.scope.kind==.function&&X.env.kindOf n==some .cell) then (n,NameKind.cell) else (n,k)).lookup x=some .local→scope.names.lookup x=some .local
 | [],x,_,h=>by simp at h
 | (n,k)::r,x,hs,h=>by
  have ih:=@relabel_local X scope own B r x (fun y hy=>hs y (List.mem_cons_of_mem _ hy))
  have hn:=hs (n,k) List.mem_cons_self
  simp only[List.map_cons]at h
  by_cases hx:(x==n)=true
  ·have e:x=n:=by simpa using hx
   subst e
   split at h
   ·simp only[List.lookup_cons,beq_self_eq_true]at h
    cases h
   ·simp only[List.lookup_cons,beq_self_eq_true]at h
    cases h
    exact B.nm' _ hn rfl
  ·have hx':(x==n)=false:=by simpa using hx
   refine ih ?_
   split at h<;>simpa only [List.lookup_cons,hx'] using h
section
variable{X:Cx}{scope:Scope}{own:List Str}{pins:List (Addr×Obj)}{σ:St}{H:Hp}{s:Shared}{fp:List Addr}
theorem blk_start(B:BlkOk X scope own)(I:Inv X pins σ H s)(hf:∀ b∈fp,FpOk X pins H b)(hfo:∀ b∈fp,∃ o,s.heap.get? b=some o){h':Heap}{t':Nat}
  (hn:h'.Ns s.heap.objs.size (fun _=>none)) (hk:∀ b o,s.heap.get? b=some o→h'.get? b=some o) :
  Inv (cxC X scope own s.heap.objs.size s H fp) [] (σ++List.replicate own.length none) H { s with heap:=h',toks:=t' }:=by
 have hcl:∀ x c,(closL X.env.cells scope.names []).lookup x=some c→X.env.cells.lookup x=some c:=fun x c e=>closL_sub (names:=scope.names) (acc:=[]) (fun _ _ z=>by simp at z) e
 have hhas:∀ x,(x,NameKind.free)∈scope.names→X.env.kindOf x=some .cell→∃ c,(closL X.env.cells scope.names []).lookup x=some c:=fun x hx hk=>by
  obtain⟨c,e⟩:=I.ok.has x (.inl hk)
  exact Option.isSome_iff_exists.mp (closL_has hx (by rw[e];rfl))
 have fpl:∀ b∈fp,b<s.heap.objs.size:=fun b hb=>let ⟨o,e⟩:=hfo b hb;Heap.lt_size e
 refine⟨⟨I.mod,B.kind,I.ok.glob,I.ok.blt,Nat.le_refl _,fun x y c h1 h2=>I.ok.inj x y c (hcl x c h1) (hcl y c h2),fun x hx=>?_,fun x c hf _=>absurd hf Bool.false_ne_true,I.ok.hd,I.ok.frames,.inl rfl,fun b hb=>⟨Nat.ne_of_lt (fpl b hb),fun x c e=>(hf b hb).2.2.2.2.1 x c (hcl x c e)⟩,
   I.bs,Nat.le_trans I.ok.bsz I.sz,fun b o e hb=>?_,fun b hb z=>?_,I.stack,I.stkFree⟩,rfl,I.bare,Un.kept hk,⟨_,hn,fun i x v e1 e2 e3=>?_⟩,fun x c e=>?_,I.hok.fresh (Nat.le_refl _),fun x c e=>I.freeC x c (hcl x c e),fun p hp=>absurd (show p∈([]:List (Addr×Obj)) from hp) (by simp),I.hok.kept hk,?_⟩
 ·have q:=relabel_cell B (names:=scope.names) (x:=x) (fun _ z=>z) hx
  exact hhas x q.1 q.2
 ·rcases(hf b hb).2.2.2.1 with z | z
  ·exact I.ok.noex b o e z
  ·exact absurd (Nat.lt_of_lt_of_le (Heap.lt_size e) (Nat.le_trans I.ok.bsz z)) (Nat.lt_irrefl _)
 ·rcases List.mem_cons.mp (I.stkSub b z) with e | e
  ·exact(hf b hb).2.1 e
  ·exact(hf b hb).2.2.1 e
 ·have hi:i<σ.length:=by
   by_cases hi:i<σ.length
   ·exact hi
   ·rw[List.getElem?_append_right (Nat.le_of_not_lt hi),List.getElem?_replicate]at e2
    split at e2<;>cases e2
  rw[List.getElem?_append_left hi]at e2
  rw[List.getElem?_append_left (by rw[← I.len];exact hi)]at e1
  obtain⟨m,hm,hl⟩:=I.loc
  have nl:scope.names.lookup x≠some .local:=by
   have:=List.all_eq_true.mp B.apart x (List.mem_of_getElem? e1)
   simpa using this
  have q:(x,NameKind.free)∈scope.names∧X.env.kindOf x=some .cell:=by
   rcases e3 with e3 | e3 | e3
   ·exact absurd (relabel_local B (names:=scope.names) (fun _ z=>z) e3) nl
   ·exact relabel_cell B (names:=scope.names) (fun _ z=>z) (.inl e3)
   ·exact relabel_cell B (names:=scope.names) (fun _ z=>z) (.inr e3)
  obtain⟨u,r,lk⟩:=hl i x v e1 e2 (.inr (.inl q.2))
  refine⟨u,r,?_⟩
  rcases lk with ⟨k1,_⟩ | ⟨_,c,ec,z⟩
  ·rw[q.2]at k1;cases k1
  ·obtain⟨c',ec'⟩:=hhas x q.1 q.2
   have:c'=c:=by
    have:=hcl x c' ec'
    rw[ec]at this
    exact(Option.some.inj this).symm
   subst this
   refine .inr ⟨?_,c',ec',?_⟩
   ·rcases e3 with e3 | e3 | e3
    ·exact absurd (relabel_local B (names:=scope.names) (fun _ z=>z) e3) nl
    ·exact .inl e3
    ·exact .inr e3
   ·obtain⟨o,ho,hd⟩:=z
    exact⟨o,hk _ _ ho,hd⟩
 ·obtain⟨v,o,ho,hd⟩:=I.cell x c (hcl x c e)
  exact⟨v,o,hk _ _ ho,hd⟩
 ·show (σ++List.replicate own.length none).length=(X.N++own).length
  rw[List.length_append,List.length_append,List.length_replicate,I.len]
theorem blk_end(I:Inv X pins σ H s)(hf:∀ b∈fp,FpOk X pins H b){σ':St}{H':Hp}{s':Shared}{h'':Heap}
  (J:Inv (cxC X scope own s.heap.objs.size s H fp) [] σ' H' s') (hs:Heap.SameBut s.heap.objs.size s'.heap h''):Inv X pins σ H' { s' with heap:=h'' }:=by
 have hC:H' s.heap.objs.size=none:=J.free
 have hok:HOk X.prog X.w H' h'':=fun b u e=>(J.hok b u e).stay (fun c v hc q=>(hs.2 c ?_).trans q) (fun _ q=>q) fun _ _ q=>q
 ·refine I.call' (s':={ s' with heap:=h'' }) (ch:=fp) J.os ⟨fun b o e n hb hx=>?_,fun b o e n hb hx=>?_,J.base.free,fun b o e hx=>?_,J.base.tups,J.base.frzs,J.base.tbls⟩ hok J.bare fun b hb=>?_
  ·exact(hs.2 b (Nat.ne_of_lt (Heap.lt_size e))).trans (J.base.keep b o e n hb hx)
  ·obtain⟨sl,q⟩:=J.base.slot b o e n hb hx
   exact⟨sl,(hs.2 b (Nat.ne_of_lt (Heap.lt_size e))).trans q⟩
  ·obtain⟨o',q⟩:=J.base.there b o e hx
   exact⟨o',(hs.2 b (Nat.ne_of_lt (Heap.lt_size e))).trans q⟩
  ·obtain⟨_,f1,_,f3,f4,f5⟩:=hf b hb
   exact⟨f3,f1,f4,f5⟩
 ·intro z
  subst z
  rcases hc with z | z
  ·rw[← z,hC]at e;cases e
  ·rw[hC]at z;cases z
end
def PTs(X:Cx)(ifs:List Expr)(t:TT):Prop:=
 ∀ (pins:List (Addr×Obj)) (s:Shared) (σ:St) (H:Hp) (Q:Bool→Hp→Prop),Inv X pins σ H s→t σ H Q→
  wpAny (model X.prog X.w) X.A (forIn ifs true fun c r=>if r=true then do let ok ← isTrue c X.env (eval c X.env);pure (ForInStep.yield ok) else pure (ForInStep.yield r)) (TP X pins σ Q) X.xe s
def tYes:TT:=fun _ H Q=>Q true H
theorem pts_nil{X:Cx}:PTs X [] tYes:=fun _ _ _ H _ I h=>wpAny_tests_nil ⟨H,I,h⟩
theorem pts_one{X:Cx}{c:Expr}{t:TT}(h:PT X c t):PTs X [c] t:=fun pins s σ H Q I hw=>wpAny_tests_one (h pins s σ H Q I hw)
section
variable{prog:Program}{w:World}{A:Around}{R:Result→Shared→Prop}{s:Shared}
theorem compLoop_any{elt target iter:Expr}{ifs:List Expr}{scope:Scope}{pos:Pos}{it acc:Value}{env:Env}(I:Nat→Shared→Prop)
  (turn:∀ n s,I n s→wpAny (model prog w) A (pyNext it) (fun r s₁=>match r with
   | none=>R (.ok .next) s₁
   | some v=>wpAny (model prog w) A (letOwnedTupleGo target it v) (fun _ s₁=>wpAny (model prog w) A (assign target env v) (fun _ s₂=>
     wpAny (model prog w) A (forIn ifs true fun c r=>if r=true then do let ok ← isTrue c env (eval c env);pure (ForInStep.yield ok) else pure (ForInStep.yield r)) (fun ok s₃=>
      if ok=true then wpAny (model prog w) A (eval elt env) (fun x s₄=>
       wpAny (model prog w) A (call (.builtin "list.append") [acc,x]) (fun _ s₅=>∃ m,m<n∧I m s₅) (fun _ _=>False) s₄) (fun _ _=>False) s₃
      else ∃ m,m<n∧I m s₃) (fun _ _=>False) s₂) (fun _ _=>False) s₁) (fun _ _=>False) s₁) (fun _ _=>False) s)
  (n:Nat) (h:I n s) :
  codeAny (model prog w) A (.compLoop (.ListComp elt [⟨target,iter,ifs,0⟩] scope pos) 0 it acc env) R s:=by
 refine codeAny_loop rfl I (fun n s hI=>?_) n h
 show wpAny _ A ((compTurn (.ListComp elt [⟨target,iter,ifs,0⟩] scope pos) 0 it acc env).onRaise (fun x=>do noteFrame x env;theTreesLotGoes x)) _ _ s
 refine wpAny_noted ?_
 rw[compTurn_list]
 refine wpAny_bind (wpAny_standAt (wpAny_bind (wpAny_mono (turn n s hI) (fun r s₁ h₁=>?_) fun _ _ h'=>h'.elim)))
 cases r with
 | none=>exact wpAny_pure h₁
 | some v=>
  refine wpAny_bind (wpAny_mono h₁ (fun _ s₁ h₁=>?_) fun _ _ h'=>h'.elim)
  refine wpAny_bind (wpAny_mono h₁ (fun _ s₂ h₂=>wpAny_bind (wpAny_mono h₂ (fun ok s₃ h₃=>?_) fun _ _ h'=>h'.elim)) fun _ _ h'=>h'.elim)
  cases ok with
  | false=>exact wpAny_pure ⟨rfl,h₃⟩
  | true=>
   exact wpAny_bind (wpAny_bind (wpAny_mono h₃ (fun x s₄ h₄=>wpAny_bind (wpAny_mono h₄ (fun _ s₅ h₅=>wpAny_pure (wpAny_pure ⟨rfl,h₅⟩)) fun _ _ h'=>h'.elim)) fun _ _ h'=>h'.elim))
end
def tComp(wi:TI)(k:Nat)(g:TG)(tt:TT)(te:TE):TE:=fun σ H Q=>wi σ H fun J H1=>∀ D,H1 D=none→∃ W:Nat→Nat→St→Hp→Prop,
 (∃ m,W 0 m (σ++List.replicate k none) (upd H1 D (.lst [])))∧∀ i m σ' H',W i m σ' H'→
  (J.stop i H'∧Q (.ref D) H')∨(J.go i H'∧∀ x H2,J.yld i H' x H2→g x σ' H2 fun σ2 H3=>tt σ2 H3 fun c H4=>
   if c=true then te σ2 H4 fun y H5=>∃ ys,H5 D=some (.lst ys)∧ys.length<sizeLine∧∃ m',m'<m∧W (i+1) m' σ2 (upd H5 D (.lst (ys++[y])))
   else ∃ m',m'<m∧W (i+1) m' σ2 H4)
section
variable{X:Cx}{scope:Scope}{own:List Str}{elt tg iter:Expr}{ifs:List Expr}{pos:Pos}{wi:TI}{g:TG}{tt:TT}{te:TE}
theorem blk_run(B:BlkOk X scope own)(hc:X.calm=true)(hg:∀ C s₀ H₀ ex,PG (cxC X scope own C s₀ H₀ ex) tg g)(ht:∀ C s₀ H₀ ex,PTs (cxC X scope own C s₀ H₀ ex) ifs tt)(he:∀ C s₀ H₀ ex,PE (cxC X scope own C s₀ H₀ ex) elt te)
  {pins:List (Addr×Obj)} {σ:St} {H2:Hp} {s₂:Shared} {it:Addr} {fp:List Addr} {tn:Nat→Heap→Prop} {J:It} {Q:VK} {E:Value→Shared→Prop} (I2:Inv X pins σ H2 s₂) (T:Turn X.prog X.w X.K tg J fp it tn) (st:tn 0 s₂.heap) (f2:∀ b∈fp,FpOk X pins H2 b)
  (q2:∀ D,H2 D=none→∃ W:Nat→Nat→St→Hp→Prop,
   (∃ m,W 0 m (σ++List.replicate own.length none) (upd H2 D (.lst [])))∧∀ i m σ' H',W i m σ' H'→
    (J.stop i H'∧Q (.ref D) H')∨(J.go i H'∧∀ x H2,J.yld i H' x H2→g x σ' H2 fun σ2 H3=>tt σ2 H3 fun c H4=>
     if c=true then te σ2 H4 fun y H5=>∃ ys,H5 D=some (.lst ys)∧ys.length<sizeLine∧∃ m',m'<m∧W (i+1) m' σ2 (upd H5 D (.lst (ys++[y])))
     else ∃ m',m'<m∧W (i+1) m' σ2 H4))
  {RR:Value→Addr→Result→Shared→Prop}
  (hR:∀ D C H' s' m,s'.heap.Ns C m→(∀ h'',Heap.SameBut C s'.heap h''→Inv X pins σ H' { s' with heap:=h'' })→C≠X.env.locals→(∀ x c,X.env.cells.lookup x=some c→c≠C)→s₂.heap.objs.size<C→H' C=none→Q (.ref D) H'→RR (.ref D) C (.ok .next) s') :
  wpAny (model X.prog X.w) X.A (newList []) (fun acc s₃=>wpAny (model X.prog X.w) X.A (newFunctionEnv scope X.env.globals (closL X.env.cells scope.names []) [] X.env.qual none .none (some X.env)) (fun cenv s₄=>
   codeAny (model X.prog X.w) X.A (.compStart (.ListComp elt [⟨tg,iter,ifs,0⟩] scope pos) 0 (.ref it) acc { cenv with scope:=relabel scope X.env }) (RR acc cenv.locals) s₄) E s₃) E s₂:=by
 have I3:=I2.lnew (ys:=[]) (its:=[]) (t':=s₂.toks) .nil (by simp)
 refine wpAny_newObj_type (wpAny_newFunctionEnv B.cell' (by intro y hy;simp at hy) (fun h₁ hns₁ hsb₁=>?_) B.kind)
 have hfr:H2 s₂.heap.objs.size=none:=I2.fresh
 obtain⟨W,⟨m0,w0⟩,turn⟩:=q2 s₂.heap.objs.size hfr
 generalize hs3:({ s₂ with heap:=s₂.heap.push { cls:=.type "list",data:=.seq ([]:List Value).toArray },toks:=s₂.toks }:Shared)=s₃ at I3
 have e3:s₃.heap=s₂.heap.push { cls:=.type "list",data:=.seq ([]:List Value).toArray }:=by rw[← hs3]
 have k3:∀ b o,s₂.heap.get? b=some o→s₃.heap.get? b=some o:=fun b o e=>by rw[e3];exact Heap.get?_push_of_some _ e
 have f3:∀ b∈fp,FpOk X pins (upd H2 s₂.heap.objs.size (.lst [])) b:=fun b hb=>by
  obtain⟨o,e,_⟩:=T.obj 0 _ st b hb
  refine⟨?_,(f2 b hb).2⟩
  rw[upd_ne (Nat.ne_of_lt (Heap.lt_size e))]
  exact(f2 b hb).1
 have fo3:∀ b∈fp,∃ o,s₃.heap.get? b=some o:=fun b hb=>by
  obtain⟨o,e,_⟩:=T.obj 0 _ st b hb
  exact⟨o,k3 b o e⟩
 have k4:∀ b o,s₃.heap.get? b=some o→h₁.get? b=some o:=fun b o e=>by
  have hb:b<s₃.heap.objs.size:=Heap.lt_size e
  have q:(s₃.heap.push { cls:=.type (if (some X.env).isSome then "dict" else "frame"),data:=.dict #[] }).get? b=some o:=Heap.get?_push_of_some _ e
  have hsb:Heap.SameBut s₃.heap.objs.size (s₃.heap.push { cls:=.type (if (some X.env).isSome then "dict" else "frame"),data:=.dict #[] }) h₁:=by rw[e3];exact hsb₁
  exact(hsb.2 b (Nat.ne_of_lt hb)).trans q
 have hn4:h₁.Ns s₃.heap.objs.size (fun _=>none):=by
  rw[e3]
  exact hns₁
 have J4:=blk_start (own:=own) (t':=s₃.toks+([]:List (Str×Value)).length) B I3 f3 fo3 hn4 k4
 have tn4:tn 0 h₁:=T.keep 0 _ _ st fun b _ o e=>k4 b o (k3 b o e)
 have stat:∀ {H':Hp},(∀ b∈fp,H' b=none)→∀ b∈fp,FpOk (cxC X scope own s₃.heap.objs.size s₃ (upd H2 s₂.heap.objs.size (.lst [])) fp) [] H' b:=fun {H'} hn b hb=>by
  obtain⟨_,g1,g2,g3,g4,g5⟩:=f3 b hb
  obtain⟨o,e⟩:=fo3 b hb
  refine⟨hn b hb,Nat.ne_of_lt (Heap.lt_size e),fun z=>?_,.inl hb,fun x c e=>g4 x c (closL_sub (names:=scope.names) (acc:=[]) (fun _ _ z=>by simp at z) e),fun p hp=>absurd (show p∈([]:List (Addr×Obj)) from hp) (by simp)⟩
  rcases List.mem_cons.mp (I3.stkSub b z) with e | e
  ·exact g1 e
  ·exact g2 e
 have loop:∀ s4:Shared,s4={ s₃ with heap:=h₁,toks:=s₃.toks+([]:List (Str×Value)).length }→
   codeAny (model X.prog X.w) X.A (.compLoop (.ListComp elt [⟨tg,iter,ifs,0⟩] scope pos) 0 (.ref it) (.ref s₂.heap.objs.size) (blkEnv X scope s₃.heap.objs.size)) (RR (.ref s₂.heap.objs.size) s₃.heap.objs.size) s4:=by
  rintro s4 rfl
  refine compLoop_any (fun n s'=>∃ i σ' H',Inv (cxC X scope own s₃.heap.objs.size s₃ (upd H2 s₂.heap.objs.size (.lst [])) fp) [] σ' H' s'∧tn i s'.heap∧(∀ b∈fp,H' b=none)∧W i n σ' H') ?_ m0
   ⟨0,_,_,J4,tn4,fun b hb=>(f3 b hb).1,w0⟩
  rintro n s5 ⟨i,σ5,H5,I5,st5,fr5,w5⟩
  rcases turn i n σ5 H5 w5 with ⟨stop,qn⟩ | ⟨go,step⟩
  ·refine thn (T.done (cxC X scope own s₃.heap.objs.size s₃ (upd H2 s₂.heap.objs.size (.lst [])) fp) rfl rfl rfl hc i [] s5 σ5 H5 _ I5 (stat fr5) st5 stop) fun r s6 hq0=>?_
   obtain⟨hr,I6⟩:=hq0
   subst hr
   obtain⟨m6,n6,_⟩:=I6.loc
   refine hR _ _ H5 s6 m6 n6 (fun h'' hs=>blk_end I3 f3 I6 hs) (Nat.ne_of_gt I3.lt) (fun x c e=>?_) (by rw[e3,Heap.size_push];exact Nat.lt_succ_self _) I6.free qn
   obtain⟨v,z⟩:=I3.cell x c e
   exact Nat.ne_of_lt z.lt
  ·refine thn (T.item (cxC X scope own s₃.heap.objs.size s₃ (upd H2 s₂.heap.objs.size (.lst [])) fp) rfl rfl rfl hc i [] s5 σ5 H5 _ I5 (stat fr5) st5 go) fun r s6 hq0=>?_
   obtain⟨u,hr,h6⟩:=hq0
   subst hr
   refine thn h6 fun _ s7 hq0=>?_
   obtain⟨x,H7,I7,r7,y7,st7,fr7⟩:=hq0
   have I7':=I7.pinned (stat fr7) (T.obj _ _ st7)
   refine thn (hg _ _ _ _ _ s7 σ5 H7 x u _ I7' r7 (step x H7 y7)) fun _ s8 hq0=>?_
   obtain⟨σ8,H8,I8,q8⟩:=hq0
   refine thn (ht _ _ _ _ _ s8 σ8 H8 _ I8 q8) fun c s9 hq0=>?_
   obtain⟨H9,I9,q9⟩:=hq0
   have again:∀ {s10:Shared} {H10:Hp},Inv (cxC X scope own s₃.heap.objs.size s₃ (upd H2 s₂.heap.objs.size (.lst [])) fp) ([]++pinsAt fp s7.heap) σ8 H10 s10→(∃ m',m'<n∧W (i+1) m' σ8 H10)→
     ∃ m,m<n∧∃ i σ' H',Inv (cxC X scope own s₃.heap.objs.size s₃ (upd H2 s₂.heap.objs.size (.lst [])) fp) [] σ' H' s10∧tn i s10.heap∧(∀ b∈fp,H' b=none)∧W i m σ' H':=fun {s10 H10} I10 hq0=>by
    obtain⟨m',hm,w10⟩:=hq0
    refine⟨m',hm,i+1,σ8,H10,I10.unpinned,T.keep _ _ _ st7 fun b hb o e=>(I10.pin (b,o) (List.mem_append_right _ (List.mem_append_right _ (mem_pinsAt hb e)))).1,fun b hb=>?_,w10⟩
    obtain⟨o,e,d⟩:=T.obj _ _ st7 b hb
    exact(I10.pin (b,o) (List.mem_append_right _ (List.mem_append_right _ (mem_pinsAt hb e)))).2.1
   cases c with
   | false=>
    rw[if_neg Bool.false_ne_true]at q9 ⊢
    exact again I9 q9
   | true=>
    rw[if_pos rfl]at q9 ⊢
    refine thn (he _ _ _ _ _ s9 σ8 H9 _ I9 q9) fun y s10 hq0=>?_
    obtain⟨z,H10,I10,r10,q10⟩:=hq0
    obtain⟨ys,eD,hz,m',hm,w10⟩:=q10
    refine thn (mt_append _ s10 σ8 H10 (.ref s₂.heap.objs.size) [z] (.ref s₂.heap.objs.size) [y] (fun _ H11=>W (i+1) m' σ8 H11) I10 rfl (.cons r10 .nil) ⟨_,ys,z,rfl,rfl,eD,hz,w10⟩) fun _ s11 hq0=>?_
    obtain⟨_,H11,I11,_,q11⟩:=hq0
    exact again I11 ⟨m',hm,q11⟩
 exact codeAny_compStart_list (loop _ rfl) (T.self _ 0 _ _ _ tn4 (loop _ rfl))
theorem pe_comp(B:BlkOk X scope own)(hc:X.calm=true)(hi:PI X tg iter wi)(hg:∀ C s₀ H₀ ex,PG (cxC X scope own C s₀ H₀ ex) tg g)(ht:∀ C s₀ H₀ ex,PTs (cxC X scope own C s₀ H₀ ex) ifs tt)(he:∀ C s₀ H₀ ex,PE (cxC X scope own C s₀ H₀ ex) elt te)
  (hs:∀ x,foldedSetIterable iter X.env x=pure x:=by intro _;rfl):PE X (.ListComp elt [⟨tg,iter,ifs,0⟩] scope pos) (tComp wi own.length g tt te):=by
 intro pins s σ H Q I h
 rw[eval_ListComp]
 have hclos:closureFor scope X.env=pure (closL X.env.cells scope.names []):=closureFor_eq fun y hy e=>by
  obtain⟨c,q⟩:=I.ok.has y.1 (.inl (B.fr' y hy e))
  rw[q];rfl
 refine wpAny_comprehension_free (use:=none) rfl hs hclos B.kind B.nm' (wpAny_mono (hi pins s σ H _ I h) (fun xv s₁ h₁=>wpAny_mono h₁ (fun itv s₂ h₂=>?_) fun _ _ e=>e) fun _ _ e=>e)
 obtain⟨it,fp,tn,J,H2,rfl,I2,T,st,f2,q2⟩:=h₂
 refine blk_run (RR:=fun acc C=>compPost (model X.prog X.w) X.A X.xe none (EP X pins σ Q) acc C) B hc hg ht he I2 T st f2 q2 fun D C H' s' m hn hI _ _ _ _ q=>?_
 exact⟨m,hn,fun h'' hs''=>⟨.ref D,H',hI h'' hs'',rfl,q⟩⟩
theorem ps_setC{i:Nat}{y:Str}{py spos:Pos}(hN:X.N.Nodup)(hiN:X.N[i]?=some y)(hy:X.env.scope.names.lookup y=some .local)(B:BlkOk X scope own)(hc:X.calm=true)(hi:PI X tg iter wi)(hg:∀ C s₀ H₀ ex,PG (cxC X scope own C s₀ H₀ ex) tg g)
  (ht:∀ C s₀ H₀ ex,PTs (cxC X scope own C s₀ H₀ ex) ifs tt) (he:∀ C s₀ H₀ ex,PE (cxC X scope own C s₀ H₀ ex) elt te)
  (hsw:swapsWith (.ListComp elt [⟨tg,iter,ifs,0⟩] scope pos) (some (.Name y py)) spos.line X.env=pure true:=by rfl)
  (hs:∀ x,foldedSetIterable iter X.env x=pure x:=by intro _;rfl):PS X (.Assign [.Name y py] (.ListComp elt [⟨tg,iter,ifs,0⟩] scope pos) spos) (tAsg (tComp wi own.length g tt te) (gName i)):=by
 intro pins s σ H D I h
 have hclos:closureFor scope X.env=pure (closL X.env.cells scope.names []):=closureFor_eq fun y hy e=>by
  obtain⟨c,q⟩:=I.ok.has y.1 (.inl (B.fr' y hy e))
  rw[q];rfl
 rw[exec_Assign_Name_used _ _ _ _ hsw]
 refine wpAny_bind (wpAny_standAt (wpAny_bind ?_))
 show wpAny _ X.A (do let _ ← comprehension (.ListComp elt [⟨tg,iter,ifs,0⟩] scope pos) scope X.env _ (newList []) false (eval iter X.env) (some (assign (.Name y py) X.env))) _ _ s
 refine wpAny_bind (wpAny_mono (wpAny_comprehension_free (use:=some (assign (.Name y py) X.env)) (Q:=fun _ s'=>SP X pins D .next s') rfl hs hclos B.kind B.nm'
  (wpAny_mono (hi pins s σ H _ I h) (fun xv s₁ h₁=>wpAny_mono h₁ (fun itv s₂ h₂=>?_) fun _ _ e=>e) fun _ _ e=>e)) (fun _ s' hq=>wpAny_pure (wpAny_pure hq)) fun _ _ e=>e)
 obtain⟨it,fp,tn,J,H2,rfl,I2,T,st,f2,q2⟩:=h₂
 refine blk_run (Q:=fun x H1=>gName i x σ H1 D.nx) (RR:=fun acc C=>compPost (model X.prog X.w) X.A X.xe (some (assign (.Name y py) X.env)) (fun _ s'=>SP X pins D .next s') acc C) B hc hg ht he I2 T st f2 q2 fun L C H' s' m hn hI hCL hCc hlt hfree q=>?_
 show wpAny _ X.A (assign (.Name y py) X.env (.ref L)) _ _ _
 have I':=hI s'.heap (.refl ..)
 refine wpAny_assign_Name (store_ok2 I' hN hiN (.inl hy) (v:=.ref L) rfl (fun s'' I'' hsame=>?_) (.inr hy))
 obtain⟨a,sb,ha⟩:=hsame
 have haC:C≠a:=by
  rcases ha with e | e
  ·rw[e];exact hCL
  ·exact fun z=>hCc y a e z.symm
 refine⟨m,hn.sameBut sb haC,fun h'' hs''=>⟨_,H',?_,q⟩⟩
 refine I''.turned (it:=C) (t':=s''.toks) (fun b o hb e=>(hs''.2 b hb).trans e) hfree hCL (.inr ?_) hCc fun p hp z=>?_
 ·exact Nat.le_trans I2.sz (Nat.le_of_lt hlt)
 ·have:=(I2.pin p hp).1
  rw[z]at this
  exact absurd (Heap.lt_size this) (Nat.not_lt.mpr (Nat.le_of_lt hlt))
end
end L2
end
section
namespace L2
open PySem PySem.Spec PyProof.Rows
theorem strsAre_of{ys:List Str}:∀ {us:List Value},Vals (ys.map V.str) us→StrsAre us ys:=by
 induction ys with
 | nil=>intro us r;cases r;exact .nil
 | cons y ys ih=>
  intro us r
  cases r with
  | cons r t=>
   obtain⟨tk,rfl⟩:=r
   exact .cons y tk (ih t)
theorem vals_strs:∀ {vs:List Value} {ss:List Str},StrsAre vs ss→Vals (ss.map V.str) vs
 | _,_,.nil=>.nil
 | _,_,.cons x t h=>.cons ⟨t,rfl⟩ (vals_strs h)
section
variable{X:Cx}
def rJoin(K:PySem.W.Frag):V→List V→Hp→VK→Prop:=fun x vs H Q=>∃ sep a ys,x=.str sep∧vs=[.ref a]∧SqL K H a (ys.map V.str)∧(ys.map (·.length)).sum+ys.length*sep.length≤16777216∧Q (.str (Txt.join sep ys)) H
theorem mt_join:MtR X "str.join" (rJoin X.K):=by
 intro pins s σ H x vs v us Q I rx rv h
 obtain⟨sep,a,ys,rfl,rfl,hq,hok,q⟩:=h
 obtain⟨t,rfl⟩:=rx
 obtain⟨u,rfl,ru⟩:=rv.one
 cases ru
 obtain⟨its,r,p,hz⟩:=I.list hq
 refine join_list p.isList (ys:=ys) (by simpa using strsAre_of r) hok fun t' k=>⟨.str _,H,I.tok k,⟨t',rfl⟩,q⟩
def rSlS:V→Option Int→Option Int→Hp→VK→Prop:=fun x lo hi H Q=>∃ z,x=.str z∧z.length≤sizeLine∧Q (.str (StrLaws.sliceText z lo hi)) H
theorem part_of{v:Value}{o:Option Int}(p:IsPart v o):∃ q:Option (Int×Tok),v=partValue q∧q.map (·.1)=o:=by
 cases p with
 | none=>exact⟨none,rfl,rfl⟩
 | int i t=>exact⟨some (i,t),rfl,rfl⟩
theorem sl_str:SlR X rSlS:=by
 intro pins s σ H x v vl vu lo hi sl Q I rx hs pl pu h
 obtain⟨z,rfl,hz,q⟩:=h
 obtain⟨t,rfl⟩:=rx
 obtain⟨ql,rfl,el⟩:=part_of pl
 obtain⟨qu,rfl,eu⟩:=part_of pu
 refine⟨"str",_,F.slot_str_getitem.lookup,typeIs_str s z t,?_⟩
 refine wpAny_getItem_str_slice (l:=ql) (u:=qu) (st:=none) ?_ (by rfl) ?_
 ·obtain⟨o,ho,hc,hd⟩:=hs
  exact⟨o,ho,hc,hd⟩
 ·unfold sliceMade
  have e:StrLaws.sliceText z lo hi=if (((none:Option (Int×Tok)).map (·.1)).getD 1==1&&(slicePicked z ql qu none).length==z.length)=true then z else ⟨((slicePicked z ql qu none).filterMap (z.cps[·]?)).toArray⟩:=by
   unfold StrLaws.sliceText slicePicked
   rw[el,eu]
   rfl
  rw[e]at q
  split
  ·rename_i c
   rw[if_pos c]at q
   exact⟨.str z,H,I,⟨t,rfl⟩,q⟩
  ·rename_i c
   rw[if_neg c]at q
   refine⟨?_,.str _,H,I.tok _,⟨_,rfl⟩,q⟩
   show (List.filterMap _ (slicePicked z ql qu none)).toArray.size≤sizeLine
   rw[List.size_toArray]
   exact Nat.le_trans (Nat.le_trans (List.length_filterMap_le _ _) (sliceIndices_le _ _ _)) hz
def rIndex(K:PySem.W.Frag):V→List V→Hp→VK→Prop:=fun x vs H Q=>∃ a xs y,x=.ref a∧vs=[y]∧SqL K H a xs∧flatV y=true∧xs.all flatV=true∧xs.length<1000∧
 inV y xs=true∧∀ j:Nat,j<xs.length→(∃ z,xs[j]?=some z∧eqV z y=true)→(∀ i z,i<j→xs[i]?=some z→eqV z y=false)→Q (.int j) H
theorem first_any{α:Type}(e:α→Bool):∀ l:List α,l.any e=true→∃ j,∃ h:j<l.length,e l[j]=true∧∀ m (hm:m<l.length),m<j→e l[m]=false
 | [],h=>by simp at h
 | a::r,h=>by
  by_cases ha:e a=true
  ·exact⟨0,by simp,by simpa using ha,fun m _ hm=>absurd hm (Nat.not_lt_zero _)⟩
  ·have hr:r.any e=true:=by
    rw[List.any_cons,Bool.or_eq_true]at h
    exact h.resolve_left ha
   obtain⟨j,hj,h1,h2⟩:=first_any e r hr
   refine⟨j+1,by simpa using hj,by simpa using h1,fun m hm hlt=>?_⟩
   cases m with
   | zero=>simpa using ha
   | succ m=>simpa using h2 m (by simpa using hm) (by omega)
theorem mt_index:MtR X "list.index" (rIndex X.K):=by
 intro pins s σ H x vs v us Q I rx rv h
 obtain⟨a,xs,y,rfl,rfl,hq,fy,fx,hn,hin,q⟩:=h
 cases rx
 obtain⟨u,rfl,ru⟩:=rv.one
 obtain⟨its,r,⟨o,n,ho,hc,hd,hdat⟩,hz⟩:=I.list hq
 have hl:=r.length
 have hany:its.any (eqU y)=true:=by rw[any_eqU r fx];exact hin
 obtain⟨j,hj,h1,h2⟩:=first_any (eqU y) its hany
 obtain⟨oc,od,odt,osl⟩:=o
 simp only at hc hd hdat
 subst hc hd hdat
 have hs:its.toArray.size=its.length:=by simp
 refine call_meets F.slot_list_index ⟨_,ho,rfl⟩ F.entry_list_index (F.args_list_index_2 _ _) (SeqAt.list_indexAt a its.toArray n none osl u (eqU y) j (by simpa using hj) (by omega) (by simpa using h1) (fun m hm hlt=>by
  have:=h2 m (by simpa using hm) hlt
  simpa using this)) ⟨ho,fun w hw=>?_,?_⟩
 ·exact mem_eqAt ru fy r fx w (by simpa using hw)
 ·refine⟨.int j,H,I.tok _,⟨_,rfl⟩,q j (by omega) ?_ fun i z hi hz'=>?_⟩
  case refine_2=>
   obtain⟨w,hw,rw'⟩:=r.get hz'
   have hil:i<its.length:=by omega
   have e:its[i]=w:=by
    have:its[i]?=some its[i]:=by simp[hil]
    rw[hw]at this
    exact(Option.some.inj this).symm
   have h3:=h2 i hil hi
   rw[e,eqU_of rw' (List.all_eq_true.mp fx _ (List.mem_of_getElem? hz'))]at h3
   exact h3
  have hx:xs[j]?=some xs[j]:=by simp[show j<xs.length by omega]
  obtain⟨w,hw,rw'⟩:=r.get hx
  refine⟨_,hx,?_⟩
  have e:its[j]=w:=by
   have:its[j]?=some its[j]:=by simp[hj]
   rw[hw]at this
   exact(Option.some.inj this).symm
  rw[e,eqU_of rw' (List.all_eq_true.mp fx _ (List.mem_of_getElem? hx))]at h1
  exact h1
theorem call_max_list(hc:X.calm=true):CallR X (.builtin "max") (fun xs H Q=>∃ (a:Addr) (ns:List Int),xs=[.ref a]∧SqL X.K H a (ns.map V.int)∧0<ns.length∧∀ M,M∈ns→(∀ a,a∈ns→a≤M)→Q (.int M) H):=by
 intro pins s σ H xs us Q I r h
 obtain⟨a,ns,rfl,hq,hn,q⟩:=h
 obtain⟨u,rfl,ru⟩:=vals1 r
 cases ru
 obtain⟨its,rv,p,hz⟩:=I.list hq
 have hi:IntsAre its ns:=intsAre_of rv
 obtain⟨xs,e⟩:=hi.allInts.items
 have hns:ns=xs.toList.map (·.1):=by rw[← hi.numsOf,← nums_intItems,← e]
 have hsz:0<xs.size:=by
  have h3:=hn;rw[hns,List.length_map,Array.length_toList]at h3;exact h3
 have pl:=p.isList
 rw[e]at pl
 refine max_intList (I.ok.hd hc) pl hsz fun v h' tk hv hk=>?_
 obtain⟨t,rfl⟩:=intItems_at hv
 obtain⟨h1,h2⟩:=argBest_gt (numAt xs) (xs.size-1)
 refine⟨.int _,H,I.kept hk,⟨t,rfl⟩,q _ ?_ fun a ha=>?_⟩
 ·rw[hns,numAt_eq];exact getD_mem (by rw[List.length_map,Array.length_toList];omega)
 ·rw[hns]at ha
  obtain⟨j,hj,rfl⟩:=mem_getD ha
  rw[List.length_map,Array.length_toList]at hj
  rw[← numAt_eq];exact h2 j (by omega)
end
end L2
end
section
namespace L2
open PySem PySem.Spec PyProof.Rows
section
variable{X:Cx}{pins:List (Addr×Obj)}{σ:St}{H:Hp}{s:Shared}{h':Heap}{fp:List Addr}{p:Addr}{o:HO}
theorem Inv.turnedL{t':Nat}(I:Inv X pins σ H s)(hf:∀ b∈fp,FpOk X pins H b)(k:∀ b ob,b∉fp→s.heap.get? b=some ob→h'.get? b=some ob):Inv X pins σ H { s with heap:=h',toks:=t' }:=by
 refine I.step (g':=s.gens) (d':=s.drawn) (ch:=fp) (fun b hb=>?_) (fun b ob _ _ hc e _=>k b ob hc e) (fun b ob _ _ hc e _=>⟨ob.slots,k b ob hc e⟩) (fun _ _ _ _ n=>n) (fun b ob hc e=>⟨ob,k b ob hc e⟩) (fun _ _ e=>e) (fun _ _ _ e=>e) (fun b ps e=>⟨#[],by rw[e];simp⟩) (fun m hm=>?_) (fun b u e=>?_) I.bare
 ·obtain⟨_,f1,_,f3,f4,f5⟩:=hf b hb
  exact⟨f3,f1,f4,f5⟩
 ·obtain⟨ob,es,ep,ho,r⟩:=hm
  exact⟨ob,es,ep,k _ ob (fun z=>(hf _ z).2.1 rfl) ho,r⟩
 ·refine(I.hok b u e).stay (fun c v hc q=>k c v (fun z=>?_) q) (fun _ q=>q) fun _ _ q=>q
  have n:=(hf c z).1
  rcases hc with rfl | hc
  ·rw[n]at e;cases e
  ·rw[n]at hc;cases hc
theorem Inv.turnedNew{t':Nat}(I:Inv X pins σ H s)(hf:∀ b∈fp,FpOk X pins H b)(k:∀ b ob,b∉fp→s.heap.get? b=some ob→h'.get? b=some ob)(hp:s.heap.objs.size≤p)(new:ObjOk X.prog X.w (upd H p o) h' p o):
  Inv X pins σ (upd H p o) { s with heap:=h',toks:=t' }:=by
 have hn:=I.hok.fresh hp
 have up:∀ b u,H b=some u→upd H p o b=some u:=fun b u e=>by rw[upd_ne (ne_of_none e hn)];exact e
 refine I.step (g':=s.gens) (d':=s.drawn) (ch:=fp) (fun b hb=>?_) (fun b ob _ _ hc e _=>k b ob hc e) (fun b ob _ _ hc e _=>⟨ob.slots,k b ob hc e⟩)
  (fun b ob _ e n=>by rw[upd_ne (Nat.ne_of_lt (Nat.lt_of_lt_of_le (Heap.lt_size e) hp))];exact n) (fun b ob hc e=>⟨ob,k b ob hc e⟩) (fun b xs e=>up b _ e) (fun b u xs e=>up b _ e) (fun b ps e=>⟨#[],by rw[up b _ e];simp⟩) (fun m hm=>?_) (fun b u e=>?_) I.bare
 ·obtain⟨_,f1,_,f3,f4,f5⟩:=hf b hb
  exact⟨f3,f1,f4,f5⟩
 ·obtain⟨ob,es,ep,ho,r⟩:=hm
  exact⟨ob,es,ep,k _ ob (fun z=>(hf _ z).2.1 rfl) ho,r⟩
 ·by_cases hb:b=p
  ·subst hb;rw[upd_same]at e;cases e;exact new
  ·rw[upd_ne hb]at e
   refine(I.hok b u e).stay (fun c v hc q=>k c v (fun z=>?_) q) (fun c q=>up c _ q) fun c xs q=>up c _ q
   have n:=(hf c z).1
   rcases hc with rfl | hc
   ·rw[n]at e;cases e
   ·rw[n]at hc;cases hc
theorem fp_laid(hf:∀ b∈fp,H b=none)(hlt:∀ b∈fp,b<p):∀ b∈fp,upd H p o b=none:=fun b hb=>by
 rw[upd_ne (Nat.ne_of_lt (hlt b hb))];exact hf b hb
end
def Ite(K:PySem.W.Frag)(a:Addr):It:=
 ⟨fun i H=>∃ xs x,SqL K H a xs∧xs[i]?=some x,fun i H x H'=>∃ p y,H p=none∧x=.ref p∧(∃ o:Obj,o.cls=.type "tuple"∧o.dict=none∧H'=upd H p (.frz o (.tup [.int i,y])))∧∀ xs,SqL K H a xs→xs[i]?=some y,fun i H=>∃ xs,SqL K H a xs∧xs.length≤i⟩
theorem turn_enum{P:Program}{w:World}{K:PySem.W.Frag}{elts:List Expr}{k:Nat}{pos:Pos}(a e it:Addr)(hne:e≠it):
  Turn P w K (.Tuple elts k pos) (Ite K a) [e,it] e (fun i h=>(∃ old,IsEnum h e it i old)∧h.IsListIter it a i) where
 mem:=by simp
 obj:=fun i h st b hb=>by
  obtain⟨⟨old,he⟩,o,ho,hc,hd⟩:=st
  rcases List.mem_cons.mp hb with rfl | hb
  ·exact⟨_,he,fun v z=>by cases z⟩
  ·have:b=it:=by simpa using hb
   subst this
   exact⟨o,ho,fun v z=>by rw[hd]at z;cases z⟩
 keep:=fun i h h' st k=>⟨let ⟨old,he⟩:=st.1;⟨old,k e (by simp) _ he⟩,st.2.at fun o q=>k it (by simp) o q⟩
 item:=by
  intro X hP hw hK hc i pins s σ H E I hf st hg
  subst hP hw hK
  obtain⟨xs,x,hq,hx⟩:=hg
  obtain⟨its,rv,p,hz⟩:=I.list hq
  obtain⟨u,hu,ru⟩:=rv.get hx
  obtain⟨⟨old,he⟩,hit⟩:=st
  refine wpAny_pyNext_enum_item he hit p.isList (x:=u) (by simpa using hu) hne fun h1 he1 hit1 ht1 hs1 hk1=>⟨_,rfl,?_⟩
  refine wpAny_letOwnedTupleGo_enum (s:={ s with heap:=h1,toks:=s.toks+1 }) he1 fun h2 he2 hs2=>?_
  have elt:e<s.heap.objs.size:=Heap.lt_size he
  have ilt:it<s.heap.objs.size:=by obtain⟨_,q,_⟩:=hit;exact Heap.lt_size q
  have hkk:∀ b ob,b∉[e,it]→s.heap.get? b=some ob→h2.get? b=some ob:=fun b ob hb q=>by
   have h3:b≠e:=fun z=>hb (by simp[z])
   have h4:b≠it:=fun z=>hb (by simp[z])
   exact hs2.extBut b ob h3 (hk1 b ob h3 h4 q)
  have ht2:h2.get? s.heap.objs.size=some { cls:=.type "tuple",data:=.seq #[.int i s.toks,u] }:=hs2.extBut _ _ (Nat.ne_of_gt elt) ht1
  have I2:Inv X pins σ (upd H s.heap.objs.size (.frz { cls:=.type "tuple",data:=.seq #[.int i s.toks,u] } (.tup [.int i,x]))) { s with heap:=h2,toks:=s.toks+1 }:=
   I.turnedNew (fp:=[e,it]) (o:=.frz { cls:=.type "tuple",data:=.seq #[.int i s.toks,u] } (.tup [.int i,x])) hf hkk (Nat.le_refl _) ⟨ht2,by show 2≤sizeLine;decide,[.int i s.toks,u],.cons ⟨_,rfl⟩ (.cons ru .nil),⟨_,ht2,rfl,_,rfl⟩⟩
  refine⟨.ref s.heap.objs.size,_,I2,rfl,⟨_,x,I.hok.fresh (Nat.le_refl _),rfl,⟨_,rfl,rfl,rfl⟩,fun ys hy=>by rw[I.list_inj hy hq];exact hx⟩,⟨⟨u,?_⟩,?_⟩,?_⟩
  ·exact he2
  ·exact hit1.extBut hs2.extBut (Ne.symm hne)
  ·refine fp_laid (fun b hb=>(hf b hb).1) fun b hb=>?_
   rcases List.mem_cons.mp hb with rfl | hb
   ·exact elt
   ·have:b=it:=by simpa using hb
    subst this;exact ilt
 done:=by
  intro X hP hw hK hc i pins s σ H E I hf st hg
  subst hP hw hK
  obtain⟨xs,hq,hx⟩:=hg
  obtain⟨its,rv,p,hz⟩:=I.list hq
  obtain⟨⟨old,he⟩,hit⟩:=st
  have hl:=rv.length
  exact wpAny_pyNext_enum_end (I.ok.hd hc) he hit p.isList (by simp;omega) fun h1 eb=>⟨rfl,I.turnedL (t':=s.toks) (fp:=[e,it]) hf fun b ob hb q=>eb b ob (fun z=>hb (by simp[z])) q⟩
 self:=fun A i s Q E st h=>let ⟨old,he⟩:=st.1;wpAny_pyIter_enum he h
section
variable{X:Cx}
def iEnum(K:PySem.W.Frag)(ta:TA):TI:=fun σ H R=>ta σ H fun vs H1=>∃ a,vs=[.ref a]∧(∃ xs,SqL K H1 a xs)∧R (Ite K a) H1
theorem pi_enum{l:Expr}{ta:TA}{p pos pt:Pos}{elts:List Expr}{k:Nat}(hg:Gl X "enumerate")(hm:X.mg "enumerate" = none)(ha:PA X [l] ta)(hs:starEach [l] X.env=[(false,eval l X.env)]:=by rfl):
  PI X (.Tuple elts k pt) (.Call (.Name "enumerate" p) [l] [] pos) (iEnum X.K ta):=by
 intro pins s σ H R I h
 refine Call_ (ld_blt I hg hm boot_enumerate (PyProof.Rows.callWith_type1 (thn (ha pos pins s σ H _ I h) fun us s1 hq0=>?_) hs rfl))
 obtain⟨vs,H1,I1,r1,q1⟩:=hq0
 obtain⟨a,rfl,⟨xs,hq⟩,q⟩:=q1
 obtain⟨u,rfl,ru⟩:=r1.one
 cases ru
 obtain⟨its,rv,pl,hz⟩:=I1.list hq
 refine call_enumerate_list pl.isList fun h' he hi hsz hk=>?_
 refine wpAny_pyIter_enum he ?_
 have I2:Inv X pins σ H1 { s1 with heap:=h' }:=I1.kept (t':=s1.toks) hk
 refine⟨_,[s1.heap.objs.size+1,s1.heap.objs.size],_,_,H1,rfl,I2,turn_enum a _ _ (Nat.succ_ne_self _),⟨⟨_,he⟩,hi⟩,fun b hb=>?_,q⟩
 have hb':s1.heap.objs.size≤b:=by
  rcases List.mem_cons.mp hb with rfl | hb
  ·exact Nat.le_succ _
  ·have:b=s1.heap.objs.size:=by simpa using hb
   rw[this];exact Nat.le_refl _
 exact I1.fpOk hb' (I1.hok.fresh hb')
end
end L2
end
section
namespace PySem
open Sem (wp)
open AutoSeq1 (wpAny_loadPart')
namespace F
end F
section
variable{prog:Program}{w:World}{A:Around}{E:Value→Shared→Prop}{s:Shared}
theorem stop_caught{h:Heap}{it:Addr}{Q:Option Value→Shared→Prop}(hh:A.handled=none)(hk:Heap.ExtBut it h s.heap)
  (hQ:∀ h',Heap.ExtBut it h h'→Q none { s with heap:=h' }) :
  wpAny (model prog w) A.in1 (Builtin.SmallTypes.stopIteration:Sem α) (fun _ _=>False)
   (fun e s'=>wpAny (model prog w) A (match (Except.error e:Except Value (Option Value)) with
    | .ok (some v)=>pure (some v)
    | .ok none=>unsupported "iter:the-iterator's-class-has-lost-its-__next__-amid-the-walk"
    | .error e=>do if ← isInstance e (.type "StopIteration") then pure none else throw e) Q E s') s:=by
 unfold Builtin.SmallTypes.stopIteration
 refine wpAny_bind ?_
 simp only[newExc,newTuple]
 refine wpAny_bind (wpAny_newObj_type ?_ (by size_fits))
 refine wpAny_bind (m:=firstArgMember _ _) (wpAny_of_eq (a:=Value.none) (by first | rfl | (simp only[firstArgMember];rfl)) ?_)
 refine wpAny_newObj_type ?_ (by size_fits)
 simp only[raiseNew]
 refine wpAny_bind (wpAny_handled ?_)
 rw[show A.in1.handled=none from hh]
 refine wpAny_bind (wpAny_pure (wpAny_throw ?_))
 refine wpAny_bind (wpAny_isInstance (T:="StopIteration") (b:=true) ⟨_,Heap.get?_push_size _ rfl,rfl⟩ isSubtype_stop ?_)
 exact wpAny_pure (hQ _ ((hk.push _).push _))
end
end PySem
end
section
namespace PySem
open Sem (wp)
open AutoSeq1 (wpAny_loadPart')
namespace F
end F
section
variable{prog:Program}{w:World}{A:Around}{E:Value→Shared→Prop}{s:Shared}
end
end PySem
namespace L2
open PySem PySem.Spec PyProof.Rows
section
variable{X:Cx}
end
end L2
end
section
namespace PySem
open Sem (wp)
namespace F
end F
namespace F
end F
section
variable{prog:Program}{w:World}{K:Type}[DecidableEq K]{knd:KeyKind prog w K}{A:Around}{s:Shared}{R:Result→Shared→Prop}
end
end PySem
end
section
namespace PySem
open Sem (wp)
section
variable{prog:Program}{w:World}{K:Type}[DecidableEq K]{knd:KeyKind prog w K}{A:Around}{s:Shared}{E:Value→Shared→Prop}
end
end PySem
namespace L2
open PySem PySem.Spec PyProof.Rows
section
variable{X:Cx}
end
end L2
end
section
namespace L2
open PySem PySem.Spec PyProof.Rows
section
variable{prog:Program}{w:World}{A:Around}{E:Value→Shared→Prop}{s:Shared}
end
theorem call_tupleF{X:Cx}:CallR X (.type "tuple") (fun xs H Q=>∃ p ys,xs=[.ref p]∧SqL X.K H p ys∧∀ l o,H l=none→o.cls=.type "tuple"→o.dict=none→Q (.ref l) (upd H l (.frz o (.tup ys)))):=by
 intro pins s σ H xs us Q I r h
 obtain⟨p,ys,rfl,hq,q⟩:=h
 obtain⟨u,rfl,rx⟩:=vals1 r
 cases rx
 obtain⟨its,r',pl,hz⟩:=I.list hq
 have hlen:=r'.length
 refine call_tuple_list pl.isList (fun h' kp=>?_) (by simp only[List.size_toArray]<;>omega)
 have I1:Inv X pins σ H { s with heap:=h' }:=I.kept (t':=s.toks) kp
 have I2:Inv X pins σ (upd H h'.objs.size (.frz { cls:=.type "tuple",data:=.seq its.toArray } (.tup ys))) { s with heap:=h'.push { cls:=.type "tuple",data:=.seq its.toArray } }:=
  I1.laid (t':=s.toks) (fun b o e=>Heap.get?_push_of_some _ e) (Nat.le_refl _) ⟨Heap.get?_push_size _ rfl,show ObjOk X.prog X.w _ _ _ (.tup ys) from ⟨hz,its,r',IsTup.new _ _⟩⟩
 exact⟨.ref h'.objs.size,_,I2,rfl,q _ _ (I1.hok.fresh (Nat.le_refl _)) rfl rfl⟩
end L2
end
section
namespace PySem.W
end PySem.W
namespace L2
open PySem PySem.Spec PyProof.Rows
section
variable{P:Program}{w:World}{H:Hp}{h:Heap}{a:Addr}{o:HO}
theorem ObjOk.there(x:ObjOk P w H h a o):∃ ob,h.get? a=some ob:=by
 induction o with
 | lst xs=>obtain⟨_,_,_,_,e⟩:=x;exact⟨_,e⟩
 | tup xs=>obtain⟨_,_,_,ob,e,_⟩:=x;exact⟨_,e⟩
 | dK kvs=>obtain⟨_,_,_,_,ob,_,_,e,_⟩:=x;exact⟨_,e⟩
 | dT kvs=>obtain⟨_,_,_,_,ob,_,_,e,_⟩:=x;exact⟨_,e⟩
 | dF kvs=>obtain⟨_,_,o,_,_,e,_⟩:=x;exact⟨o,e⟩
 | set S n=>obtain⟨ob,_,_,_,e,_⟩:=x;exact⟨_,e⟩
 | ins C dx fs=>obtain⟨_,_,_,e,_⟩:=x;exact⟨_,e⟩
 | own y=>exact x
 | xd fs=>obtain⟨_,⟨od,_,_,e,_⟩,_⟩:=x;exact⟨_,e⟩
 | rng lo hi=>obtain⟨_,_,_,e⟩:=x;exact⟨_,e⟩
 | frz ob u ih=>exact⟨_,x.1⟩
 | tbl ps=>exact⟨_,x⟩
 | met f y=>exact⟨_,x⟩
 | ext φ=>exact x.2.1
end
section
variable{X:Cx}{pins:List (Addr×Obj)}{σ:St}{H:Hp}{s:Shared}{h':Heap}{D:Addr}{ob:Obj}{o:HO}{m:Str→Option Value}
abbrev gOf(s:Shared):Heap:=Att.noObjs s.heap
abbrev newsOf(X:Cx)(s:Shared):List (Addr×Obj):=allNews (gOf s) s.heap X.env.locals
theorem newsOf_keep(N:News (gOf s) X.env.locals h' ((D,ob)::newsOf X s)):∀ b u,b≠X.env.locals→s.heap.get? b=some u→h'.get? b=some u:=fun b u hb e=>
 (N (b,u) (List.mem_cons_of_mem _ (mem_allNews hb (Att.noObjs_get _ _) e))).1
theorem Inv.newsLaid{t':Nat}(I:Inv X pins σ H s)(hm:s.heap.Ns X.env.locals m)(F:Fr (gOf s) X.env.locals h' m)(N:News (gOf s) X.env.locals h' ((D,ob)::newsOf X s))(hD:s.heap.get? D=none)
  (new:ObjOk X.prog X.w (upd H D o) h' D o):Inv X pins σ (upd H D o) { s with heap:=h',toks:=t' }:=by
 have hn:H D=none:=by
  cases q:H D with
  | none=>rfl
  | some u=>
   obtain⟨ob',e⟩:=(I.hok D u q).there
   rw[hD]at e
   cases e
 have up:∀ b u,H b=some u→upd H D o b=some u:=fun b u e=>by rw[upd_ne (ne_of_none e hn)];exact e
 have keep:=newsOf_keep N
 refine I.step (g':=s.gens) (d':=s.drawn) (ch:=[]) (fun b hb=>nomatch hb) (fun b u hL _ _ e _=>keep b u hL e) (fun b u hL _ _ e _=>⟨u.slots,keep b u hL e⟩)
  (fun b u _ e n=>?_) (fun b u _ e=>?_) (fun b xs e=>up b _ e) (fun b u xs e=>up b _ e) (fun b ps e=>⟨#[],by rw[up b _ e];simp⟩) (fun m' hm'=>?_) (fun b u e=>?_) I.bare
 ·rw[upd_ne (fun z=>by rw[z,hD]at e;cases e)]
  exact n
 ·by_cases hL:b=X.env.locals
  ·subst hL
   obtain⟨ol,_,_,e',_⟩:=F.ns
   exact⟨ol,e'⟩
  ·exact⟨u,keep b u hL e⟩
 ·have e:m'=m:=by
   obtain⟨o1,es1,ep1,a1,b1,c1,d1⟩:=hm
   obtain⟨o2,es2,ep2,a2,b2,c2,d2⟩:=hm'
   rw[a1]at a2
   cases a2
   rw[b1]at b2
   cases b2
   funext x
   rw[← d1 x,← d2 x]
  rw[e]
  exact F.ns
 ·by_cases hb:b=D
  ·subst hb;rw[upd_same]at e;cases e;exact new
  ·rw[upd_ne hb]at e
   refine(I.hok b u e).stay (fun c v hc q=>keep c v (fun z=>?_) q) (fun c q=>up c _ q) fun c xs q=>up c _ q
   have n:=I.free
   rcases hc with rfl | hc
   ·rw[z,n]at e;cases e
   ·rw[z,n]at hc;cases hc
end
def pltB(p q:Str×Int):Bool:=if p.1=q.1 then (if p.2=q.2 then false else decide (p.2<q.2)) else decide (p.1.cps.toList<q.1.cps.toList)
section
variable{prog:Program}{w:World}{A:Around}{E:Value→Shared→Prop}{s:Shared}
theorem pair_lt{x y:Addr}{a b:Str}{n m:Int}{t1 t2 t3 t4:Tok}{Q:Bool→Shared→Prop}(hx:IsTup s.heap x #[.str a t1,.int n t2])(hy:IsTup s.heap y #[.str b t3,.int m t4])(h:Q (pltB (a,n) (b,m)) s):
  wpAny (model prog w) A (keyLt' (tuples' true) (.ref x) (.ref y)) Q E s:=by
 obtain⟨ox,ex,_,_,dx⟩:=hx
 obtain⟨oy,ey,_,_,dy⟩:=hy
 refine PySem.W.kat_lt ex dx ey dy ?_
 show PySem.W.KatLex prog w A true _ Q [(.str a t1,.str b t3),(.int n t2,.int m t4)] 0 s
 refine PySem.W.kat_cons (eqAt_V (y:=.str a) (x:=.str b) ⟨_,rfl⟩ ⟨_,rfl⟩ rfl rfl prog w _ _ ?_)
 unfold pltB at h
 by_cases hab:a=b
 ·have e1:eqV (.str a) (.str b)=true:=by rw[hab];simp[eqV]
  rw[e1]
  rw[if_pos hab]at h
  refine PySem.W.kat_yes (PySem.W.kat_cons (eqAt_V (y:=.int n) (x:=.int m) ⟨_,rfl⟩ ⟨_,rfl⟩ rfl rfl prog w _ _ ?_))
  by_cases hnm:n=m
  ·have e2:eqV (.int n) (.int m)=true:=by rw[hnm];simp[eqV]
   rw[e2]
   rw[if_pos hnm]at h
   refine PySem.W.kat_yes (PySem.W.kat_nil ?_)
   simpa using h
  ·have e2:eqV (.int n) (.int m)=false:=by simp[eqV,hnm]
   rw[e2]
   rw[if_neg hnm]at h
   exact PySem.W.kat_no (PySem.W.kat_one _ _ (lt_int h))
 ·have e1:eqV (.str a) (.str b)=false:=by simp[eqV,hab]
  rw[e1]
  rw[if_neg hab]at h
  exact PySem.W.kat_no (oneLt_str h)
end
def SiV(K:PySem.W.Frag)(H:Hp):List V→List (Str×Int)→Prop:=Paired fun v p=>∃ b,v=.ref b∧SqT K H b [.str p.1,.int p.2]
section
variable{X:Cx}
theorem si_at{pins:List (Addr×Obj)}{σ:St}{H:Hp}{s:Shared}(I:Inv X pins σ H s):∀ {vs:List V} {ps:List (Str×Int)} {us:List Value},SiV X.K H vs ps→Vals vs us→
  Paired (fun u (p:Str×Int)=>∃ a t1 t2,u=Value.ref a∧IsTup s.heap a #[.str p.1 t1,.int p.2 t2]) us ps
 | _,_,_,.nil,.nil=>.nil
 | _,_,_,.cons (a:=v) (b:=p) q t,.cons r rr=>by
  obtain⟨b,rfl,hq⟩:=q
  cases r
  obtain⟨its,rv,ht,_⟩:=I.tuple hq
  obtain⟨u1,u2,rfl,⟨t1,rfl⟩,⟨t2,rfl⟩⟩:=rv.two
  exact .cons ⟨b,t1,t2,rfl,ht⟩ (si_at I t rr)
theorem si_get{h:Heap}:∀ {us:List Value} {ps:List (Str×Int)} {i:Nat},Paired (fun u (p:Str×Int)=>∃ a t1 t2,u=Value.ref a∧IsTup h a #[.str p.1 t1,.int p.2 t2]) us ps→i<us.length→
  ∃ a t1 t2 p,us.getD i Value.none=Value.ref a∧ps[i]?=some p∧IsTup h a #[.str p.1 t1,.int p.2 t2]
 | _,_,_,.nil,h=>absurd h (Nat.not_lt_zero _)
 | _,_,0,.cons q _,_=>by
  obtain⟨a,t1,t2,rfl,ht⟩:=q
  exact⟨a,t1,t2,_,rfl,rfl,ht⟩
 | _,_,i+1,.cons _ t,h=>by
  obtain⟨a,t1,t2,p,e1,e2,ht⟩:=si_get (i:=i) t (by simpa using h)
  exact⟨a,t1,t2,p,by simpa using e1,by simpa using e2,ht⟩
theorem si_tups{h:Heap}:∀ {us:List Value} {ps:List (Str×Int)},Paired (fun u (p:Str×Int)=>∃ a t1 t2,u=Value.ref a∧IsTup h a #[.str p.1 t1,.int p.2 t2]) us ps→∃ fs,PySem.W.KatTups h us fs∧fs.length=us.length∧∀ v∈fs,∃ x t,v=Value.str x t
 | _,_,.nil=>⟨[],.nil,rfl,fun _ h=>nomatch h⟩
 | _,_,.cons q t=>by
  obtain⟨fs,h1,h2,h3⟩:=si_tups t
  obtain⟨a,t1,t2,rfl,o,ho,hc,n,hd⟩:=q
  refine⟨_::fs,.cons ho hc hd rfl h1,by simp[h2],fun v hv=>?_⟩
  rcases List.mem_cons.mp hv with rfl | hv
  ·exact⟨_,_,rfl⟩
  ·exact h3 v hv
theorem vals_pick{xs:List V}{us:List Value}(r:Vals xs us):∀ js:List Nat,(∀ j∈js,j<xs.length)→Vals (js.map fun j=>xs.getD j .non) (js.map fun j=>us.getD j Value.none)
 | [],_=>.nil
 | j::js,h=>by
  have hj:=h j List.mem_cons_self
  have e:xs[j]?=some xs[j]:=by simp[hj]
  obtain⟨u,e2,ru⟩:=r.get e
  refine .cons ?_ (vals_pick r js fun i hi=>h i (List.mem_cons_of_mem _ hi))
  show RelV (xs.getD j .non) (us.getD j Value.none)
  rw[List.getD_eq_getElem?_getD,List.getD_eq_getElem?_getD,e,e2]
  exact ru
end
end L2
end
section
namespace PySem.W
def KasT.runv{α:Type}(n:Nat)(ans:Nat→Nat→Bool):KasT α→Option α
 | .ret a=>some a
 | .ask i j k=>if i<n∧j<n then (k (ans i j)).runv n ans else none
theorem KasT.runv_wp{α:Type}{n:Nat}{ans:Nat→Nat→Bool}{cmp:Nat→Nat→(Bool→Shared→Prop)→Shared→Prop}{Q:α→Shared→Prop}{s:Shared}(hc:∀ i j,i<n→j<n→∀ C:Bool→Shared→Prop,C (ans i j) s→cmp i j C s):
  ∀ (t:KasT α) {a:α},t.runv n ans=some a→Q a s→t.kasWp cmp Q s
 | .ret a,b,h,q=>by
  have:a=b:=Option.some.inj h
  subst this
  exact q
 | .ask i j k,b,h,q=>by
  unfold KasT.runv at h
  split at h
  ·rename_i hij
   exact hc i j hij.1 hij.2 _ (KasT.runv_wp hc _ h q)
  ·cases h
theorem KasT.runv_congr{α:Type}{n:Nat}{f g:Nat→Nat→Bool}(h:∀ i j,i<n→j<n→f i j=g i j):∀ t:KasT α,t.runv n f=t.runv n g
 | .ret a=>rfl
 | .ask i j k=>by
  unfold KasT.runv
  by_cases hij:i<n∧j<n
  ·rw[if_pos hij,if_pos hij,h i j hij.1 hij.2]
   exact KasT.runv_congr h _
  ·rw[if_neg hij,if_neg hij]
def tabA(b01 b02 b03 b12 b13 b23:Bool):Nat→Nat→Bool
 | 0,1=>b01
 | 1,0=>!b01
 | 0,2=>b02
 | 2,0=>!b02
 | 0,3=>b03
 | 3,0=>!b03
 | 1,2=>b12
 | 2,1=>!b12
 | 1,3=>b13
 | 3,1=>!b13
 | 2,3=>b23
 | 3,2=>!b23
 | _,_=>false
def transA(n:Nat)(f:Nat→Nat→Bool):Bool:=(List.range n).all fun i=>(List.range n).all fun j=>(List.range n).all fun k=>!(f i j&&f j k)||f i k
def risesA(f:Nat→Nat→Bool):List Nat→Bool
 | a::b::r=>f a b&&risesA f (b::r)
 | _=>true
def goodA(n:Nat)(f:Nat→Nat→Bool):Bool:=!transA n f||(match (kas_sort n).runv n f with | some p=>p.toList.isPerm (List.range n)&&risesA f p.toList | none=>false)
theorem good2:∀ a b c d e f:Bool,goodA 2 (tabA a b c d e f)=true:=by decide +kernel
theorem good3:∀ a b c d e f:Bool,goodA 3 (tabA a b c d e f)=true:=by decide +kernel
theorem good4:∀ a b c d e f:Bool,goodA 4 (tabA a b c d e f)=true:=by decide +kernel
theorem risesA_congr{n:Nat}{f g:Nat→Nat→Bool}(h:∀ i j,i<n→j<n→f i j=g i j):∀ {l:List Nat},(∀ i∈l,i<n)→risesA f l=risesA g l
 | [],_=>rfl
 | [_],_=>rfl
 | a::b::r,hl=>by
  unfold risesA
  rw[h a b (hl a (by simp)) (hl b (by simp)),risesA_congr h (l:=b::r) fun i hi=>hl i (List.mem_cons_of_mem _ hi)]
theorem sort_rises{n:Nat}(hn:2≤n)(hn4:n≤4){f:Nat→Nat→Bool}(h0:∀ i,f i i=false)(h1:∀ i j,i<n→j<n→i≠j→f j i=!f i j)(h2:∀ i j k,i<n→j<n→k<n→f i j=true→f j k=true→f i k=true):
  ∃ p,(kas_sort n).runv n f=some p∧p.toList.Perm (List.range n)∧risesA f p.toList=true:=by
 have e:∀ i j,i<n→j<n→f i j=tabA (f 0 1) (f 0 2) (f 0 3) (f 1 2) (f 1 3) (f 2 3) i j:=fun i j hi hj=>by
  rcases(show i=0∨i=1∨i=2∨i=3 by omega) with rfl | rfl | rfl | rfl<;>rcases(show j=0∨j=1∨j=2∨j=3 by omega) with rfl | rfl | rfl | rfl<;>first | exact h0 _ | rfl | exact h1 _ _ hj hi (by decide)
 have tr:transA n (tabA (f 0 1) (f 0 2) (f 0 3) (f 1 2) (f 1 3) (f 2 3))=true:=by
  unfold transA
  rw[List.all_eq_true];intro i hi
  rw[List.all_eq_true];intro j hj
  rw[List.all_eq_true];intro k hk
  rw[List.mem_range]at hi hj hk
  rw[← e i j hi hj,← e j k hj hk,← e i k hi hk]
  cases h3:f i j with
  | false=>rfl
  | true=>
   cases h4:f j k with
   | false=>rfl
   | true=>rw[h2 i j k hi hj hk h3 h4];rfl
 have g:goodA n (tabA (f 0 1) (f 0 2) (f 0 3) (f 1 2) (f 1 3) (f 2 3))=true:=by
  rcases(show n=2∨n=3∨n=4 by omega) with rfl | rfl | rfl
  ·exact good2 ..
  ·exact good3 ..
  ·exact good4 ..
 unfold goodA at g
 rw[tr,Bool.not_true,Bool.false_or]at g
 rw[KasT.runv_congr e]
 split at g
 ·rename_i p hp
  rw[Bool.and_eq_true]at g
  have hperm:p.toList.Perm (List.range n):=List.isPerm_iff.mp g.1
  refine⟨p,hp,hperm,?_⟩
  rw[risesA_congr e fun i hi=>List.mem_range.mp (hperm.mem_iff.mp hi)]
  exact g.2
 ·cases g
end PySem.W
namespace PyProof.Rows
open PySem
section
variable{prog:Program}{w:World}{A:Around}{E:Value→Shared→Prop}{s:Shared}
theorem list_sort_short{a:Addr}{vs:List Value}{n:Nat}{P:Fin→Shared→Prop}(ho:s.heap.get? a=some (seqObj "list" vs.toArray n))(h2:vs.length<2)
  (h:P (.done (.ret .none)) { s with heap:=sortedHeap s.heap a vs ((pairsOf vs).map (·.2)) }) :
  wpAny (model prog w) A (Builtin.«list.sort» ⟨[.ref a],[]⟩) P E s:=by
 rw[list_sort_plain]
 have ha:a<s.heap.objs.size:=Heap.lt_size ho
 refine wpAny_bind (listItems_at ho rfl ?_)
 refine wpAny_bind (listUpdate_at ho rfl ?_)
 obtain⟨e1,ho1⟩:∃ e1,(s.heap.update a (Obj.mapSeq fun _=>#[])).get? a=some (seqObj "list" #[] e1):=⟨_,get?_update_seq ho (fun _=>#[])⟩
 refine wpAny_bind (seqEpoch_at ho1 rfl ?_)
 refine wpAny_bind (wpAny_newTuple ?_)
 refine wpAny_bind (wpAny_newList ?_)
 refine wpAny_holding ?_
 have ho6:(((s.heap.update a (Obj.mapSeq fun _=>#[])).push (seqObj "tuple" vs.toArray 0)).push (seqObj "list" #[] 0)).get? a=some (seqObj "list" #[] e1):=by
  rw[Heap.get?_push_ne _ _ _ (by rw[size_push',Heap.size_update];exact Nat.ne_of_lt (Nat.lt_succ_of_lt ha)),Heap.get?_push_ne _ _ _ (by rw[Heap.size_update];exact Nat.ne_of_lt ha)]
  exact ho1
 show wpAny (model prog w) A _ P E { s with heap:=((s.heap.update a (Obj.mapSeq fun _=>#[])).push (seqObj "tuple" vs.toArray 0)).push (seqObj "list" #[] 0) }
 dsimp only
 have hsz:vs.toArray.size=vs.length:=by simp
 have h2':vs.toArray.size<2:=by rw[hsz];exact h2
 rw[if_pos h2',if_pos h2']
 refine wpAny_bind (wpAny_pure ?_)
 rw[StateT.run_pure]
 refine wpAny_bind (wpAny_pure ?_)
 dsimp only
 refine wpAny_bind (seqEpoch_at ho6 rfl ?_)
 refine wpAny_bind (listUpdate_at ho6 rfl ?_ (hsz2:=by rw[Array.size_map];show (pairsOf vs).size≤_;rw[pairsOf_size,sizeLine_eq];omega))
 simp only[bne_self_eq_false,Bool.false_eq_true,if_false]
 exact wpAny_pure h
theorem sorted_short{l:Addr}{vs:List Value}{Q:Value→Shared→Prop}(hl:s.heap.IsList l vs.toArray)(h2:vs.length<2)
  (h:Q (.ref (s.heap.objs.size+1)) { s with heap:=sortedAll s.heap vs ((pairsOf vs).map (·.2)) }) :
  wpAny (model prog w) A (call (.builtin "sorted") [.ref l]) Q E s:=by
 refine Calls.call_function_entry kind_sorted plain_sorted entry_sorted (args_sorted1 _) ?_
 unfold Builtin.«sorted»
 refine wpAny_bind (m:=checkCount "sorted" 1 1 _) (wpAny_pure ?_)
 refine wpAny_bind (collect_list hl ?_ (by rw[sizeLine_eq];omega))
 refine wpAny_bind (wpAny_newList ?_ (by rw[sizeLine_eq];omega))
 have hsz:((s.heap.push (seqObj "list" #[] 0)).update s.heap.objs.size (Obj.mapSeq (·++vs.toArray))).objs.size=s.heap.objs.size+1:=by
  rw[Heap.size_update,size_push']
 have hoL:(((s.heap.push (seqObj "list" #[] 0)).update s.heap.objs.size (Obj.mapSeq (·++vs.toArray))).push (seqObj "list" vs.toArray 0)).get? (s.heap.objs.size+1)=some (seqObj "list" vs.toArray 0):=by
  rw[← hsz];exact Heap.get?_push_size _ rfl
 show wpAny _ _ _ _ _ { s with heap:=((s.heap.push (seqObj "list" #[] 0)).update s.heap.objs.size (Obj.mapSeq (·++vs.toArray))).push (seqObj "list" vs.toArray 0) }
 rw[hsz]
 refine wpAny_bind (wpAny_holding (wpAny_call_entry slot_list_sort ⟨_,hoL,rfl⟩ entry_list_sort (list_sort_short hoL h2 ⟨_,rfl,?_⟩) (args_list_sort _)))
 exact wpAny_pure ⟨_,rfl,h⟩
end
end PyProof.Rows
namespace L2
open PySem PySem.Spec PyProof.Rows
def ansP(ps:List (Str×Int))(i j:Nat):Bool:=pltB (ps.getD i (⟨#[]⟩,0)) (ps.getD j (⟨#[]⟩,0))
theorem pltB_irr(p:Str×Int):pltB p p=false:=by simp[pltB]
theorem pltB_ne{p q:Str×Int}(h:p.1≠q.1):pltB p q=decide (p.1.cps.toList<q.1.cps.toList):=by unfold pltB;rw[if_neg h]
theorem cps_ext{a b:Str}(h:a.cps.toList=b.cps.toList):a=b:=by
 obtain⟨x⟩:=a
 obtain⟨y⟩:=b
 have:x=y:=by simpa using congrArg List.toArray h
 rw[this]
theorem cps_anti{a b:Str}(h:a≠b):decide (b.cps.toList<a.cps.toList)=!decide (a.cps.toList<b.cps.toList):=by
 by_cases h1:a.cps.toList<b.cps.toList
 ·rw[decide_eq_true h1,decide_eq_false (fun h2=>List.lt_irrefl _ (List.lt_trans h1 h2))];rfl
 ·rw[decide_eq_false h1]
  by_cases h2:b.cps.toList<a.cps.toList
  ·rw[decide_eq_true h2];rfl
  ·exact absurd (cps_ext (List.le_antisymm (List.not_lt.mp h2) (List.not_lt.mp h1))) h
theorem key_ne{ps:List (Str×Int)}(hn:(ps.map (·.1)).Nodup){i j:Nat}(hi:i<ps.length)(hj:j<ps.length)(h:i≠j):(ps.getD i (⟨#[]⟩,0)).1≠(ps.getD j (⟨#[]⟩,0)).1:=fun e=>by
 have e1:(ps.map (·.1))[i]'(by simpa using hi)=(ps.getD i (⟨#[]⟩,0)).1:=by simp[List.getD_eq_getElem?_getD,hi]
 have e2:(ps.map (·.1))[j]'(by simpa using hj)=(ps.getD j (⟨#[]⟩,0)).1:=by simp[List.getD_eq_getElem?_getD,hj]
 exact h ((List.getElem_inj hn).mp (e1.trans (e.trans e2.symm)))
theorem ansP_ord{ps:List (Str×Int)}(hn:(ps.map (·.1)).Nodup):(∀ i,ansP ps i i=false)∧(∀ i j,i<ps.length→j<ps.length→i≠j→ansP ps j i=!ansP ps i j)∧(∀ i j k,i<ps.length→j<ps.length→k<ps.length→ansP ps i j=true→ansP ps j k=true→ansP ps i k=true):=by
 refine⟨fun i=>pltB_irr _,fun i j hi hj h=>?_,fun i j k hi hj hk h1 h2=>?_⟩
 ·unfold ansP
  rw[pltB_ne (key_ne hn hj hi (Ne.symm h)),pltB_ne (key_ne hn hi hj h)]
  exact cps_anti (key_ne hn hi hj h)
 ·have nij:i≠j:=fun z=>by subst z;unfold ansP at h1;rw[pltB_irr]at h1;cases h1
  have njk:j≠k:=fun z=>by subst z;unfold ansP at h2;rw[pltB_irr]at h2;cases h2
  unfold ansP at h1 h2 ⊢
  rw[pltB_ne (key_ne hn hi hj nij),decide_eq_true_eq]at h1
  rw[pltB_ne (key_ne hn hj hk njk),decide_eq_true_eq]at h2
  have h3:=List.lt_trans h1 h2
  have nik:(ps.getD i (⟨#[]⟩,0)).1≠(ps.getD k (⟨#[]⟩,0)).1:=fun z=>by rw[z]at h3;exact List.lt_irrefl _ h3
  rw[pltB_ne nik,decide_eq_true h3]
section
variable{X:Cx}
theorem call_sortedP:CallR X (.builtin "sorted") (fun xs H Q=>∃ a vs ps,xs=[.ref a]∧SqL X.K H a vs∧SiV X.K H vs ps∧vs.length≤4∧(ps.map (·.1)).Nodup∧
  ∀ p (js:List Nat),H p=none→js.Perm (List.range vs.length)→PySem.W.risesA (ansP ps) js=true→Q (.ref p) (upd H p (.lst (js.map fun j=>vs.getD j .non)))):=by
 intro pins s σ H xs us Q I r h
 obtain⟨a,vs,ps,rfl,hq,hsi,h4,hnd,q⟩:=h
 obtain⟨u,rfl,ru⟩:=vals1 r
 cases ru
 obtain⟨its,rv,pl,hz⟩:=I.list hq
 have hl:=rv.length
 have hlp:vs.length=ps.length:=Paired.length hsi
 by_cases hshort:its.length<2
 ·refine sorted_short pl.isList hshort ?_
  have hout:((pairsOf its).map (·.2)).toList=its:=by
   rw[Array.toList_map,pairsOf_toList,List.map_snd_zip (Nat.le_refl _)]
  obtain⟨e,he⟩:=sortedAll_at s.heap its ((pairsOf its).map (·.2))
  have hpick:=vals_pick rv (List.range vs.length) fun j hj=>List.mem_range.mp hj
  have e1:((List.range vs.length).map fun j=>its.getD j Value.none)=its:=by
   apply List.ext_getElem?
   intro i
   by_cases hi:i<its.length
   ·rw[List.getElem?_map,List.getElem?_range (by omega)]
    simp[List.getD_eq_getElem?_getD,hi]
   ·rw[List.getElem?_eq_none (by simp;omega),List.getElem?_eq_none (by omega)]
  rw[e1]at hpick
  refine⟨.ref (s.heap.objs.size+1),_,I.laid (a:=s.heap.objs.size+1) (o:=.lst ((List.range vs.length).map fun j=>vs.getD j .non)) (t':=s.toks) (fun b o e=>sortedAll_old e) (Nat.le_succ _) ⟨?_,its,e,hpick,?_⟩,rfl,q _ _ (I.hok.fresh (Nat.le_succ _)) (List.Perm.refl _) ?_⟩
  ·rw[List.length_map,List.length_range,sizeLine_eq];omega
  ·have hm:(pairsOf its).map (·.2)=its.toArray:=Array.ext' (by rw[hout])
   exact he.trans (by rw[hm])
  ·have:vs.length<2:=by omega
   rcases(show vs.length=0∨vs.length=1 by omega) with z | z<;>rw[z]<;>rfl
 have hp:=si_at I hsi rv
 obtain⟨m,hm,_⟩:=I.loc
 refine PySem.W.kat_sorted (vs:=its) (Att.fr_all hm) (news_all (g:=gOf s) (h:=s.heap) (L:=X.env.locals)) pl.isList (by omega) (by omega) fun D e1 h1 F1 N1 hlt=>?_
 have keep:=newsOf_keep (X:=X) (s:=s) N1
 have nD:=(N1 (D,_) List.mem_cons_self).2.1
 have hD:s.heap.get? D=none:=by
  cases e:s.heap.get? D with
  | none=>rfl
  | some ob=>exact absurd (hlt (D,ob) (mem_allNews nD (Att.noObjs_get _ _) e)) (Nat.lt_irrefl _)
 have hn:H D=none:=by
  cases e:H D with
  | none=>rfl
  | some u=>
   obtain⟨ob',e'⟩:=(I.hok D u e).there
   rw[hD]at e'
   cases e'
 have notL:∀ b xs,IsTup s.heap b xs→b≠X.env.locals:=fun b xs ⟨ob,e,_,n,d⟩ z=>by
  obtain⟨ol,_,_,el,dl,_⟩:=hm
  rw[z,el]at e
  cases e
  rw[dl]at d
  cases d
 have hp1:Paired (fun u (p:Str×Int)=>∃ a t1 t2,u=Value.ref a∧IsTup h1 a #[.str p.1 t1,.int p.2 t2]) its ps:=Paired.mapP hp fun u p ⟨a,t1,t2,e,ht⟩=>
  ⟨a,t1,t2,e,let ⟨ob,eo,c⟩:=ht;⟨ob,keep a ob (notL _ _ ht) eo,c⟩⟩
 obtain⟨fs,t1,t2,t3⟩:=si_tups hp1
 refine PySem.W.kat_kind (s:={ s with heap:=h1 }) (T:=.type "str") t1 (by omega) (fun v hv=>?_) (by decide) ?_
 ·obtain⟨x,t,rfl⟩:=t3 v hv
  exact .now
 ·show PySem.W.KasT.kasWp _ _ _ _
  obtain⟨o1,o2,o3⟩:=ansP_ord hnd
  obtain⟨p,hrun,hperm,hrise⟩:=PySem.W.sort_rises (n:=its.length) (f:=ansP ps) (by omega) (by omega) o1 (fun i j hi hj=>o2 i j (by omega) (by omega)) fun i j k hi hj hk=>o3 i j k (by omega) (by omega) (by omega)
  refine PySem.W.KasT.runv_wp (n:=its.length) (ans:=ansP ps) (fun i j hi hj C hC=>?_) _ hrun ?_
  ·obtain⟨a1,b1,b2,p1,e1',e2',ht1⟩:=si_get (i:=i) hp1 hi
   obtain⟨a2,c1,c2,p2,e3',e4',ht2⟩:=si_get (i:=j) hp1 hj
   unfold PySem.W.kas_ask
   rw[e1',e3']
   refine pair_lt (s:={ s with heap:=h1 }) ht1 ht2 ?_
   unfold ansP at hC
   rw[List.getD_eq_getElem?_getD,List.getD_eq_getElem?_getD,e2',e4']at hC
   exact hC
  ·refine PySem.W.KasFin.intro (s:={ s with heap:=h1 }) F1 N1 (.head fun b hb=>Nat.ne_of_lt (hlt b hb)) fun h2 c F2 N2=>?_
   have hv:=vals_pick rv p.toList fun j hj=>by
    have:=List.mem_range.mp (hperm.mem_iff.mp hj)
    omega
   refine⟨.ref D,_,I.newsLaid (t':=s.toks) (o:=.lst (p.toList.map fun j=>vs.getD j .non)) hm F2 N2 hD ⟨?_,_,c,hv,(N2 (D,_) List.mem_cons_self).1⟩,rfl,q D p.toList hn (by rw[hl];exact hperm) hrise⟩
   rw[List.length_map,hperm.length_eq,List.length_range,sizeLine_eq]
   omega
end
end L2
end
section
namespace L2
open PySem PySem.Spec PyProof.Rows
section
variable{X:Cx}
theorem is_bool_gen{M:Model}{A:Around}{E:Value→Shared→Prop}{s:Shared}{Q:Value→Shared→Prop}{v:Value}{b:Bool}(hv:∀ i,v≠.builtin i)(h:Q (.bool (v==.bool b)) s):wpAny M A (compareOp .Is v (.bool b)) Q E s:=by
 cases v<;>first | exact wpAny_pure h | exact absurd rfl (hv _)
theorem isnot_bool_gen{M:Model}{A:Around}{E:Value→Shared→Prop}{s:Shared}{Q:Value→Shared→Prop}{v:Value}{b:Bool}(hv:∀ i,v≠.builtin i)(h:Q (.bool (!(v==.bool b))) s):wpAny M A (compareOp .IsNot v (.bool b)) Q E s:=by
 cases v<;>first | exact wpAny_pure h | exact absurd rfl (hv _)
theorem op_isB:OpR X (compareOp .Is) (fun x y H Q=>∃ b,y=.bl b∧Q (.bl (decide (x=.bl b))) H):=by
 intro pins s σ H x y v u Q I rx ry h
 obtain⟨b,rfl,q⟩:=h
 cases ry
 refine is_bool_gen (fun i e=>?_) (fin_bl I q ?_)
 ·subst e
  cases x<;>first
   | (cases rx;done)
   | (obtain⟨t,h⟩:=rx;cases h;done)
 cases x<;>first
  | (cases rx;rfl)
  | (obtain⟨t,rfl⟩:=rx;rfl)
  | (cases rx;cases b<;>(rename_i c;cases c<;>rfl))
theorem op_notB:OpR X (compareOp .IsNot) (fun x y H Q=>∃ b,y=.bl b∧Q (.bl (!decide (x=.bl b))) H):=by
 intro pins s σ H x y v u Q I rx ry h
 obtain⟨b,rfl,q⟩:=h
 cases ry
 refine isnot_bool_gen (fun i e=>?_) (fin_bl I q ?_)
 ·subst e
  cases x<;>first
   | (cases rx;done)
   | (obtain⟨t,h⟩:=rx;cases h;done)
 cases x<;>first
  | (cases rx;rfl)
  | (obtain⟨t,rfl⟩:=rx;rfl)
  | (cases rx;cases b<;>(rename_i c;cases c<;>rfl))
end
end L2
end
section
namespace L2
open PySem PySem.Spec PyProof.Rows
def kltB:Key→Key→Bool
 | .inl i,.inl j=>decide (i<j)
 | .inr x,.inr y=>decide (x.cps.toList<y.cps.toList)
 | .inl _,.inr _=>true
 | .inr _,.inl _=>false
def fltB2(p q:Str×Key):Bool:=if p.1=q.1 then (if p.2=q.2 then false else kltB p.2 q.2) else decide (p.1.cps.toList<q.1.cps.toList)
section
variable{prog:Program}{w:World}{A:Around}{E:Value→Shared→Prop}{s:Shared}
def fltB(p q:FK):Bool:=if p.1=q.1 then (if p.2=q.2 then false else fltB2 p.2 q.2) else decide (p.1.cps.toList<q.1.cps.toList)
end
end L2
end
section
namespace WL
open PySem L2
inductive D where
 | non | bl (b:Bool) | int (i:Int) | str (x:Str) | tup (xs:List D) | lst (xs:List D) | dct (ks:List Key) (vs:List D) | scr (ns:List Int) | mref (i:Nat)
inductive MO where
 | lst (xs:List D) | dct (ks:List Key) (vs:List D) | fd (ks:List FK)
abbrev Mem:=List MO
abbrev DS:=List (Option D)
mutual
def D.beq:D→D→Bool
 | .non,.non=>true
 | .bl a,.bl b=>a==b
 | .int a,.int b=>decide (a=b)
 | .str a,.str b=>decide (a=b)
 | .tup a,.tup b=>D.beqs a b
 | .lst a,.lst b=>D.beqs a b
 | .dct k a,.dct l b=>decide (k=l)&&D.beqs a b
 | .scr a,.scr b=>decide (a=b)
 | .mref a,.mref b=>decide (a=b)
 | _,_=>false
def D.beqs:List D→List D→Bool
 | [],[]=>true
 | a::r,b::q=>D.beq a b&&D.beqs r q
 | _,_=>false
end
mutual
theorem D.eq_of_beq:∀ {a b:D},D.beq a b=true→a=b
 | .non,b,h=>by cases b with
  | non=>rfl
  | _=>cases (show false=true from h)
 | .bl a,b,h=>by cases b with
  | bl c=>exact congrArg D.bl (LawfulBEq.eq_of_beq (show (a==c)=true from h))
  | _=>cases (show false=true from h)
 | .int a,b,h=>by cases b with
  | int c=>exact congrArg D.int (of_decide_eq_true (show decide (a=c)=true from h))
  | _=>cases (show false=true from h)
 | .str a,b,h=>by cases b with
  | str c=>exact congrArg D.str (of_decide_eq_true (show decide (a=c)=true from h))
  | _=>cases (show false=true from h)
 | .tup a,b,h=>by cases b with
  | tup c=>exact congrArg D.tup (D.eqs_of_beq (show D.beqs a c=true from h))
  | _=>cases (show false=true from h)
 | .lst a,b,h=>by cases b with
  | lst c=>exact congrArg D.lst (D.eqs_of_beq (show D.beqs a c=true from h))
  | _=>cases (show false=true from h)
 | .dct k a,b,h=>by cases b with
  | dct l c=>
   have h:(decide (k=l)&&D.beqs a c)=true:=h
   rw[Bool.and_eq_true]at h
   rw[of_decide_eq_true h.1,D.eqs_of_beq h.2]
  | _=>cases (show false=true from h)
 | .scr a,b,h=>by cases b with
  | scr c=>exact congrArg D.scr (of_decide_eq_true (show decide (a=c)=true from h))
  | _=>cases (show false=true from h)
 | .mref a,b,h=>by cases b with
  | mref c=>exact congrArg D.mref (of_decide_eq_true (show decide (a=c)=true from h))
  | _=>cases (show false=true from h)
theorem D.eqs_of_beq:∀ {a b:List D},D.beqs a b=true→a=b
 | [],b,h=>by cases b with
  | nil=>rfl
  | cons _ _=>cases (show false=true from h)
 | a::r,b,h=>by cases b with
  | nil=>cases (show false=true from h)
  | cons c q=>
   have h:(D.beq a c&&D.beqs r q)=true:=h
   rw[Bool.and_eq_true]at h
   rw[D.eq_of_beq h.1,D.eqs_of_beq h.2]
end
def D.clean:D→Bool
 | .tup xs=>cleans xs
 | .lst xs=>cleans xs
 | .dct _ xs=>cleans xs
 | .mref _=>false
 | _=>true
where cleans:List D→Bool
 | []=>true
 | a::r=>D.clean a&&cleans r
inductive BOp where | add | sub | mul | mod | fdiv
inductive COp where | eq | ne | lt | le | gt | ge | isin | notin | is | isnot
inductive B1 where
 | len | list (mu:Bool) | tuple | int | all | max | sorted (mu:Bool) | sortedD (mu:Bool) | sortedSet (mu:Bool) | sortedF (mu:Bool) | dict (mu:Bool) | dcopy (mu:Bool) | revl (mu:Bool)
 | isTuple | isInt | isStr | isBool
inductive Tg where | nm (i:Nat) | tp (ts:List Tg)
mutual
inductive Ex where
 | var (i:Nat) | con (d:D) | bin (o:BOp) (a b:Ex) | cat (mu:Bool) (a b:Ex) | cmp (o:COp) (a b:Ex) | chain (o p:COp) (a b c:Ex) | notv (a:Ex) | andv (a b:Ex) | orv (a b:Ex) | ife (t:Te) (a b:Ex)
 | tup (as:Exs) | lst (mu:Bool) (as:Exs) | dic (mu:Bool) (ks:List Key) (as:Exs) | ix (a b:Ex) | ixd (a b:Ex) | ind (a b:Ex) | nind (a b:Ex) | sl (a:Ex) (lo hi:Oe)
 | call (f:String) (as:Exs) | b1 (b:B1) (a:Ex) | max2 (a b:Ex) | get (d k z:Ex) | pop (a:Ex) | app (l a:Ex) | ext (l a:Ex)
 | index (l a:Ex) | join (s l:Ex) | comp (mu:Bool) (k:Nat) (g:Tg) (i:Ie) (t:Te) (e:Ex) | lzip (mu:Bool) (a b:Ex) | maxd (a:Ex) (z:Int) | inTxt (a b:Ex) | fdic
inductive Exs where | nil | cons (a:Ex) (r:Exs)
inductive Te where | val (a:Ex) | and (a b:Te) | or (a b:Te) | not (a:Te) | tt
inductive Oe where | no | pt (a:Ex)
inductive Ie where | seq (a:Ex) | rng (a:Ex) | rng2 (a b:Ex) | enum (a:Ex) | zip (a b:Ex) | txt (a:Ex) | enumT (a:Ex)
end
mutual
inductive Sm where
 | set (i:Nat) (a:Ex) | asg (g:Tg) (a:Ex) | put (d k v:Ex) | drop (a:Ex) | ret (a:Ex) | ite (t:Te) (a b:Sms) | whl (t:Te) (b:Sms) | fr (g:Tg) (i:Ie) (b:Sms) | fput (d k:Ex)
inductive Sms where | nil | cons (s:Sm) (r:Sms)
end
def seqOf:D→Mem→Option (List D)
 | .tup xs,_=>some xs
 | .lst xs,_=>some xs
 | .scr ns,_=>some (ns.map .int)
 | .mref i,m=>match m[i]? with | some (.lst xs)=>some xs | _=>none
 | _,_=>none
def lstOf:D→Mem→Option (List D)
 | .lst xs,_=>some xs
 | .scr ns,_=>some (ns.map .int)
 | .mref i,m=>match m[i]? with | some (.lst xs)=>some xs | _=>none
 | _,_=>none
def dctOf:D→Mem→Option (List Key×List D)
 | .dct ks vs,_=>some (ks,vs)
 | .mref i,m=>match m[i]? with | some (.dct ks vs)=>some (ks,vs) | _=>none
 | _,_=>none
def mkL(mu:Bool)(xs:List D)(m:Mem):D×Mem:=if mu then (.mref m.length,m++[.lst xs]) else (.lst xs,m)
def mkD(mu:Bool)(ks:List Key)(vs:List D)(m:Mem):D×Mem:=if mu then (.mref m.length,m++[.dct ks vs]) else (.dct ks vs,m)
def keyD:D→Option Key
 | .int i=>some (.inl i)
 | .str x=>some (.inr x)
 | _=>none
def lookD:List Key→List D→Key→Option D
 | k::ks,v::vs,x=>if k=x then some v else lookD ks vs x
 | _,_,_=>none
def repD:List Key→List D→Key→D→List D
 | k::ks,v::vs,x,y=>(if k=x then y else v)::repD ks vs x y
 | _,_,_,_=>[]
def putD(ks:List Key)(vs:List D)(x:Key)(y:D):List Key×List D:=if ks.any fun k=>decide (k=x) then (ks,repD ks vs x y) else (ks++[x],vs++[y])
mutual
def pyD:D→Option PyData
 | .non=>some .none
 | .bl b=>some (.bool b)
 | .int i=>some (.int i)
 | .str x=>some (.str x)
 | .tup xs=>(pyDs xs).map .tuple
 | .lst xs=>(pyDs xs).map .list
 | _=>none
def pyDs:List D→Option (List PyData)
 | []=>some []
 | a::r=>(pyD a).bind fun x=>(pyDs r).map (x::·)
end
def eqDeep(a b:D):Option Bool:=(pyD a).bind fun x=>(pyD b).bind fun y=>if x.canLay0&&y.canLay0&&decide (min x.depth y.depth≤60) then some (PyData.eqv x y) else none
def eqD:D→D→Option Bool
 | .int a,.int b=>some (decide (a=b))
 | .str a,.str b=>some (decide (a=b))
 | a,b=>eqDeep a b
def D.isNon:D→Bool
 | .non=>true
 | _=>false
def D.isBl(b:Bool):D→Bool
 | .bl c=>c==b
 | _=>false
def D.flat:D→Bool
 | .int _=>true
 | .str _=>true
 | _=>false
def inD(x:D)(xs:List D):Bool:=xs.any fun y=>match x,y with
 | .int a,.int b=>decide (a=b)
 | .str a,.str b=>decide (a=b)
 | _,_=>false
def truD:D→Mem→Option Bool
 | .non,_=>some false
 | .bl b,_=>some b
 | .int i,_=>some (i != 0)
 | .tup xs,_=>some (!xs.isEmpty)
 | .lst xs,_=>some (!xs.isEmpty)
 | .scr ns,_=>some (!ns.isEmpty)
 | .mref i,m=>match m[i]? with | some (.lst xs)=>some (!xs.isEmpty) | some (.dct ks _)=>some (!ks.isEmpty) | _=>none
 | _,_=>none
def binD:BOp→D→D→Mem→Option (D×Mem)
 | .add,.int a,.int b,m=>some (.int (a+b),m)
 | .sub,.int a,.int b,m=>some (.int (a-b),m)
 | .mul,.int a,.int b,m=>if (-(2 ^ 64)<a∧a<2 ^ 64)∨(-(2 ^ 64)<b∧b<2 ^ 64) then some (.int (a*b),m) else none
 | .mod,.int a,.int b,m=>if 0<b then some (.int (a % b),m) else none
 | .fdiv,.int a,.int b,m=>if 0<b∧b<1073741824 then some (.int (a / b),m) else none
 | .add,.str a,.str b,m=>if a.length+b.length≤1000 then some (.str (a++b),m) else none
 | .add,.tup a,.tup b,m=>if a.length+b.length≤10000 then some (.tup (a++b),m) else none
 | _,_,_,_=>none
def cmpD:COp→D→D→Option Bool
 | .eq,a,b=>eqD a b
 | .ne,a,b=>(eqD a b).map (!·)
 | .lt,.int a,.int b=>some (decide (a<b))
 | .le,.int a,.int b=>some (decide (a≤b))
 | .gt,.int a,.int b=>some (decide (b<a))
 | .ge,.int a,.int b=>some (decide (b≤a))
 | .isin,x,.tup xs=>if x.flat&&xs.all D.flat then some (inD x xs) else none
 | .isin,x,.lst xs=>if x.flat&&xs.all D.flat then some (inD x xs) else none
 | .notin,x,.tup xs=>if x.flat&&xs.all D.flat then some (!inD x xs) else none
 | .notin,x,.lst xs=>if x.flat&&xs.all D.flat then some (!inD x xs) else none
 | .is,x,.non=>some x.isNon
 | .isnot,x,.non=>some (!x.isNon)
 | .is,x,.bl b=>some (x.isBl b)
 | .isnot,x,.bl b=>some (!x.isBl b)
 | _,_,_=>none
def ixD:D→D→Mem→Option D
 | .tup xs,.int i,_=>atI xs i
 | .lst xs,.int i,_=>atI xs i
 | .scr ns,.int i,_=>(atI ns i).map .int
 | .str z,.int i,_=>if z.length≤1000 then (atI z.cps.toList i).map fun c=>.str ⟨#[c]⟩ else none
 | .mref r,.int i,m=>match m[r]? with | some (.lst xs)=>atI xs i | _=>none
 | _,_,_=>none
def cutD(xs:List D)(lo hi:Option Int):List D:=(xs.drop (HT.sIx xs.length 0 lo)).take (HT.sIx xs.length xs.length hi-HT.sIx xs.length 0 lo)
def slD:D→Option Int→Option Int→Option D
 | .tup xs,lo,hi=>some (.tup (cutD xs lo hi))
 | .lst xs,lo,hi=>some (.lst (cutD xs lo hi))
 | .scr ns,lo,hi=>some (.lst (cutD (ns.map .int) lo hi))
 | .str z,lo,hi=>if z.length≤1000 then some (.str (StrLaws.sliceText z lo hi)) else none
 | _,_,_=>none
def blsOf:List D→Option (List Bool)
 | []=>some []
 | .bl b::r=>(blsOf r).map (b::·)
 | _=>none
def intsOf:List D→Option (List Int)
 | []=>some []
 | .int b::r=>(intsOf r).map (b::·)
 | _=>none
def strsOf:List D→Option (List Str)
 | []=>some []
 | .str b::r=>(strsOf r).map (b::·)
 | _=>none
def pairsOf:List D→Option (List Key×List D)
 | []=>some ([],[])
 | .tup [k,v]::r=>match keyD k,pairsOf r with
  | some k,some (ks,vs)=>some (k::ks,v::vs)
  | _,_=>none
 | _=>none
def putsD:List Key→List D→List Key→List D→List Key×List D
 | ks,vs,k::r,v::q=>putsD (putD ks vs k v).1 (putD ks vs k v).2 r q
 | ks,vs,_,_=>(ks,vs)
def maxL:List Int→Option Int
 | []=>none
 | a::r=>some (r.foldl (fun x y=>if y > x then y else x) a)
def findD(x:D):List D→Nat→Option Nat
 | [],_=>none
 | y::r,i=>if inD x [y] then some i else findD x r (i+1)
def strLe(a b:Str):Bool:=!decide (b.cps.toList<a.cps.toList)
def sortStr(l:List Str):List Str:=l.mergeSort strLe
def pairSIs:List D→Option (List (Str×Int))
 | []=>some []
 | .tup [.str a,.int b]::r=>(pairSIs r).map ((a,b)::·)
 | _=>none
def unSI(p:Str×Int):D:=.tup [.str p.1,.int p.2]
def sortSI(ps:List (Str×Int)):List (Str×Int):=ps.mergeSort fun p q=>strLe p.1 q.1
def uniq:List Str→List Str
 | []=>[]
 | x::r=>if x∈r then uniq r else x::uniq r
def keyV:Key→D
 | .inl i=>.int i
 | .inr x=>.str x
def fD(k:FK):D:=.tup [.str k.1,.tup [.str k.2.1,keyV k.2.2]]
def fkD:D→Option FK
 | .tup [.str a,.tup [.str b,x]]=>(keyD x).map fun k=>(a,b,k)
 | _=>none
def addF(ks:List FK)(k:FK):List FK:=if ks.any (fun x=>decide (x=k)) then ks else ks++[k]
def okFK(k:FK):Bool:=match k.2.2 with
 | .inl _=>decide (k.2.1=Str.ofString "page")
 | .inr _=>!decide (k.2.1=Str.ofString "page")
def fleB(p q:FK):Bool:=!fltB q p
def sortF(l:List FK):List FK:=l.mergeSort fleB
def b1D:B1→D→Mem→Option (D×Mem)
 | .len,.str z,m=>if z.length≤1000 then some (.int z.length,m) else none
 | .len,d,m=>match seqOf d m,dctOf d m with
  | some xs,_=>some (.int xs.length,m)
  | none,some (ks,_)=>some (.int ks.length,m)
  | none,none=>none
 | .list mu,d,m=>(seqOf d m).map fun xs=>mkL mu xs m
 | .tuple,.tup xs,m=>some (.tup xs,m)
 | .tuple,d,m=>(lstOf d m).map fun xs=>(.tup xs,m)
 | .int,.int i,m=>some (.int i,m)
 | .int,.bl b,m=>some (.int (if b then 1 else 0),m)
 | .all,d,m=>(lstOf d m).bind fun xs=>(blsOf xs).map fun bs=>(.bl (bs.all id),m)
 | .max,d,m=>(lstOf d m).bind fun xs=>(intsOf xs).bind fun ns=>(maxL ns).map fun x=>(.int x,m)
 | .sortedD mu,d,m=>(dctOf d m).bind fun(ks,_)=>if ks.length<64 then (strsOf (ks.map kD)).map fun ss=>mkL mu ((sortStr ss).map .str) m else none
 | .sorted mu,d,m=>(lstOf d m).bind fun xs=>(pairSIs xs).bind fun ps=>if xs.length≤4∧(ps.map (·.1)).Nodup then some (mkL mu ((sortSI ps).map unSI) m) else none
 | .sortedSet mu,d,m=>(lstOf d m).bind fun xs=>(strsOf xs).bind fun ss=>if ss.length≤4000∧(uniq ss).length<64 then some (mkL mu ((sortStr (uniq ss)).map .str) m) else none
 | .sortedF mu,.mref i,m=>match m[i]? with
  | some (.fd ks)=>if ks.length<64∧ks.all okFK=true then some (mkL mu ((sortF ks).map fD) m) else none
  | _=>none
 | .dict mu,.tup xs,m=>(pairsOf xs).bind fun(ks,vs)=>if ks.length≤1000 then some (mkD mu (putsD [] [] ks vs).1 (putsD [] [] ks vs).2 m) else none
 | .revl mu,.tup xs,m=>some (mkL mu xs.reverse m)
 | .isTuple,.tup _,m=>some (.bl true,m)
 | .isTuple,.mref _,m=>none
 | .isTuple,.dct _ _,m=>none
 | .isTuple,_,m=>some (.bl false,m)
 | .isInt,.int _,m=>some (.bl true,m)
 | .isInt,.bl _,m=>some (.bl true,m)
 | .isInt,.mref _,m=>none
 | .isInt,.dct _ _,m=>none
 | .isInt,_,m=>some (.bl false,m)
 | .isStr,.str _,m=>some (.bl true,m)
 | .isStr,.mref _,m=>none
 | .isStr,.dct _ _,m=>none
 | .isStr,_,m=>some (.bl false,m)
 | .isBool,.bl _,m=>some (.bl true,m)
 | .isBool,.mref _,m=>none
 | .isBool,.dct _ _,m=>none
 | .isBool,_,m=>some (.bl false,m)
 | _,_,_=>none
where kD:Key→D
 | .inl i=>.int i
 | .inr x=>.str x
mutual
def bindT:Tg→D→DS→Option DS
 | .nm i,d,σ=>some (σ.set i (some d))
 | .tp ts,.tup xs,σ=>if ts.length=xs.length then bindTs ts xs σ else none
 | _,_,_=>none
def bindTs:List Tg→List D→DS→Option DS
 | [],[],σ=>some σ
 | t::ts,x::xs,σ=>(bindT t x σ).bind fun σ'=>bindTs ts xs σ'
 | _,_,_=>none
end
def outT(n:Nat):Tg→Bool
 | .nm i=>decide (n≤i)
 | .tp ts=>outTs n ts
where outTs (n:Nat):List Tg→Bool
 | []=>true
 | t::r=>outT n t&&outTs n r
structure Walk where
 xs:List D
 at?:Option Nat:=none
def Walk.ok(w:Walk)(m:Mem):Bool:=match w.at? with
 | none=>true
 | some i=>match m[i]? with | some (.lst ys)=>D.beqs w.xs ys | _=>false
def zipD:List D→List D→List D
 | a::r,b::q=>.tup [a,b]::zipD r q
 | _,_=>[]
def enumD:List D→Nat→List D
 | [],_=>[]
 | a::r,n=>.tup [.int n,a]::enumD r (n+1)
def compL(w:Walk)(f:D→Mem→Option (Option D×Mem)):List D→Mem→Option (List D×Mem)
 | [],m=>if w.ok m then some ([],m) else none
 | d::r,m=>if w.ok m then (f d m).bind fun(o,m1)=>(compL w f r m1).bind fun(ys,m2)=>some (o.toList++ys,m2) else none
section
variable(C:String→List D→Mem→Option (D×Mem))
mutual
def ev:Ex→DS→Mem→Option (D×Mem)
 | .var i,σ,m=>match σ[i]? with | some (some d)=>some (d,m) | _=>none
 | .con d,_,m=>some (d,m)
 | .bin o a b,σ,m=>(ev a σ m).bind fun(x,m1)=>(ev b σ m1).bind fun(y,m2)=>binD o x y m2
 | .cat mu a b,σ,m=>(ev a σ m).bind fun(x,m1)=>(ev b σ m1).bind fun(y,m2)=>match x,y with
  | .lst xs,.lst ys=>if xs.length+ys.length≤10000 then some (mkL mu (xs++ys) m2) else none
  | _,_=>none
 | .cmp o a b,σ,m=>(ev a σ m).bind fun(x,m1)=>(ev b σ m1).bind fun(y,m2)=>(cmpD o x y).map fun c=>(.bl c,m2)
 | .chain o p a b c,σ,m=>(ev a σ m).bind fun(x,m1)=>(ev b σ m1).bind fun(y,m2)=>(cmpD o x y).bind fun k=>if k then (ev c σ m2).bind fun(z,m3)=>(cmpD p y z).map fun c=>(.bl c,m3) else some (.bl false,m2)
 | .notv a,σ,m=>(ev a σ m).bind fun(x,m1)=>match x with | .bl b=>some (.bl !b,m1) | _=>none
 | .andv a b,σ,m=>(ev a σ m).bind fun(x,m1)=>match x with | .bl true=>ev b σ m1 | .bl false=>some (.bl false,m1) | _=>none
 | .orv a b,σ,m=>(ev a σ m).bind fun(x,m1)=>match x with | .bl true=>some (.bl true,m1) | .bl false=>ev b σ m1 | _=>none
 | .ife t a b,σ,m=>(et t σ m).bind fun(c,m1)=>if c then ev a σ m1 else ev b σ m1
 | .tup as,σ,m=>(evs as σ m).bind fun(xs,m1)=>if xs.length≤1000 then some (.tup xs,m1) else none
 | .lst mu as,σ,m=>(evs as σ m).bind fun(xs,m1)=>if xs.length≤1000 then some (mkL mu xs m1) else none
 | .dic mu ks as,σ,m=>(evs as σ m).bind fun(xs,m1)=>if xs.length=ks.length∧ks.length≤15 then some (mkD mu (putsD [] [] ks xs).1 (putsD [] [] ks xs).2 m1) else none
 | .ix a b,σ,m=>(ev a σ m).bind fun(x,m1)=>(ev b σ m1).bind fun(y,m2)=>(ixD x y m2).map fun d=>(d,m2)
 | .ixd a b,σ,m=>(ev a σ m).bind fun(x,m1)=>(ev b σ m1).bind fun(y,m2)=>(dctOf x m2).bind fun(ks,vs)=>(keyD y).bind fun k=>(lookD ks vs k).map fun d=>(d,m2)
 | .ind a b,σ,m=>(ev a σ m).bind fun(x,m1)=>(ev b σ m1).bind fun(y,m2)=>(dctOf y m2).bind fun(ks,vs)=>(keyD x).map fun k=>(.bl (lookD ks vs k).isSome,m2)
 | .nind a b,σ,m=>(ev a σ m).bind fun(x,m1)=>(ev b σ m1).bind fun(y,m2)=>(dctOf y m2).bind fun(ks,vs)=>(keyD x).map fun k=>(.bl (!(lookD ks vs k).isSome),m2)
 | .sl a lo hi,σ,m=>(ev a σ m).bind fun(x,m1)=>(eo lo σ m1).bind fun(l,m2)=>(eo hi σ m2).bind fun(h,m3)=>(slD x l h).map fun d=>(d,m3)
 | .call f as,σ,m=>(evs as σ m).bind fun(xs,m1)=>C f xs m1
 | .b1 b a,σ,m=>(ev a σ m).bind fun(x,m1)=>b1D b x m1
 | .max2 a b,σ,m=>(ev a σ m).bind fun(x,m1)=>(ev b σ m1).bind fun(y,m2)=>match x,y with | .int i,.int j=>some (.int (if j > i then j else i),m2) | _,_=>none
 | .get d k z,σ,m=>(ev d σ m).bind fun(x,m1)=>(dctOf x m1).bind fun _=>(ev k σ m1).bind fun(y,m2)=>(ev z σ m2).bind fun(u,m3)=>(dctOf x m3).bind fun(ks,vs)=>(keyD y).map fun k=>((lookD ks vs k).getD u,m3)
 | .pop a,σ,m=>(ev a σ m).bind fun(x,m1)=>match x with
  | .mref i=>match m1[i]? with
   | some (.lst xs)=>(xs[xs.length-1]?).map fun d=>(d,m1.set i (.lst xs.dropLast))
   | _=>none
  | _=>none
 | .app l a,σ,m=>(ev l σ m).bind fun(x,m1)=>(lstOf x m1).bind fun _=>(ev a σ m1).bind fun(y,m2)=>match x with
  | .mref i=>match m2[i]? with
   | some (.lst xs)=>if y.clean&&decide (xs.length<100000) then some (.non,m2.set i (.lst (xs++[y]))) else none
   | _=>none
  | _=>none
 | .ext l a,σ,m=>(ev l σ m).bind fun(x,m1)=>(lstOf x m1).bind fun _=>(ev a σ m1).bind fun(y,m2)=>match x with
  | .mref i=>match m2[i]?,y with
   | some (.lst xs),.lst ys=>if D.clean.cleans ys&&decide (xs.length+ys.length≤100000) then some (.non,m2.set i (.lst (xs++ys))) else none
   | some (.lst xs),.tup ys=>if D.clean.cleans ys&&decide (xs.length+ys.length≤100000) then some (.non,m2.set i (.lst (xs++ys))) else none
   | _,_=>none
  | _=>none
 | .index l a,σ,m=>(ev l σ m).bind fun(x,m1)=>(lstOf x m1).bind fun _=>(ev a σ m1).bind fun(y,m2)=>(lstOf x m2).bind fun xs=>if y.flat&&xs.all D.flat&&decide (xs.length<1000) then (findD y xs 0).map fun(k:Nat)=>(D.int (k:Int),m2) else none
 | .join s l,σ,m=>(ev s σ m).bind fun(x,m1)=>(ev l σ m1).bind fun(y,m2)=>match x with
  | .str sep=>(lstOf y m2).bind fun xs=>(strsOf xs).bind fun ys=>if (ys.map (·.length)).sum+ys.length*sep.length≤100000 then some (.str (Txt.join sep ys),m2) else none
  | _=>none
 | .comp mu k g i t e,σ,m=>if outT σ.length g then (ei i σ m).bind fun(w,m1)=>(compL w (fun d m=>(bindT g d (σ++List.replicate k none)).bind fun σ1=>(et t σ1 m).bind fun(c,m2)=>if c then (ev e σ1 m2).map fun(y,m3)=>(some y,m3) else some (none,m2)) w.xs m1).bind fun(ys,m2)=>
   if ys.length≤1000 then some (mkL mu ys m2) else none
  else none
 | .lzip mu a b,σ,m=>(ev a σ m).bind fun(x,m1)=>(ev b σ m1).bind fun(y,m2)=>match x,y with
  | .lst xs,.lst ys=>if xs.length≤1000 then some (mkL mu (zipD xs ys) m2) else none
  | _,_=>none
 | .maxd a z,σ,m=>(ev a σ m).bind fun(x,m1)=>(lstOf x m1).bind fun xs=>(intsOf xs).map fun ns=>(.int ((maxL ns).getD z),m1)
 | .inTxt a b,σ,m=>(ev a σ m).bind fun(x,m1)=>(ev b σ m1).bind fun(y,m2)=>match x,y with
  | .str i,.str j=>some (.bl (!(Builtin.Str.occurrences j i 0 j.length 1).isEmpty),m2)
  | _,_=>none
 | .fdic,_,m=>some (.mref m.length,m++[.fd []])
def evs:Exs→DS→Mem→Option (List D×Mem)
 | .nil,_,m=>some ([],m)
 | .cons a r,σ,m=>(ev a σ m).bind fun(x,m1)=>(evs r σ m1).map fun(xs,m2)=>(x::xs,m2)
def et:Te→DS→Mem→Option (Bool×Mem)
 | .val a,σ,m=>(ev a σ m).bind fun(x,m1)=>(truD x m1).map fun c=>(c,m1)
 | .and a b,σ,m=>(et a σ m).bind fun(c,m1)=>if c then et b σ m1 else some (false,m1)
 | .or a b,σ,m=>(et a σ m).bind fun(c,m1)=>if c then some (true,m1) else et b σ m1
 | .not a,σ,m=>(et a σ m).map fun(c,m1)=>(!c,m1)
 | .tt,_,m=>some (true,m)
def eo:Oe→DS→Mem→Option (Option Int×Mem)
 | .no,_,m=>some (none,m)
 | .pt a,σ,m=>(ev a σ m).bind fun(x,m1)=>match x with | .int i=>some (some i,m1) | _=>none
def ei:Ie→DS→Mem→Option (Walk×Mem)
 | .seq a,σ,m=>(ev a σ m).bind fun(x,m1)=>(seqOf x m1).map fun xs=>(⟨xs,match x with | .mref i=>some i | _=>none⟩,m1)
 | .rng a,σ,m=>(ev a σ m).bind fun(x,m1)=>match x with | .int j=>if -(2 ^ 62)≤j∧j<2 ^ 62 then some (⟨(List.range j.toNat).map fun(i:Nat)=>.int i,none⟩,m1) else none | _=>none
 | .rng2 a b,σ,m=>(ev a σ m).bind fun(x,m1)=>(ev b σ m1).bind fun(y,m2)=>match x,y with
  | .int i,.int j=>if -(2 ^ 62)≤i∧i<2 ^ 62∧-(2 ^ 62)≤j∧j<2 ^ 62 then some (⟨(List.range (j-i).toNat).map fun(n:Nat)=>.int (i+n),none⟩,m2) else none
  | _,_=>none
 | .enum a,σ,m=>(ev a σ m).bind fun(x,m1)=>match x with | .lst xs=>some (⟨enumD xs 0,none⟩,m1) | _=>none
 | .zip a b,σ,m=>(ev a σ m).bind fun(x,m1)=>(ev b σ m1).bind fun(y,m2)=>match x,y with
  | .lst xs,.lst ys=>some (⟨zipD xs ys,none⟩,m2)
  | .tup xs,.tup ys=>some (⟨zipD xs ys,none⟩,m2)
  | _,_=>none
 | .txt a,σ,m=>(ev a σ m).bind fun(x,m1)=>match x with | .str z=>if z.length≤1000 then some (⟨z.cps.toList.map fun(c:Nat)=>.str ⟨#[c]⟩,none⟩,m1) else none | _=>none
 | .enumT a,σ,m=>(ev a σ m).bind fun(x,m1)=>match x with | .tup xs=>some (⟨enumD xs 0,none⟩,m1) | _=>none
end
inductive Out where | nx (σ:DS) | rt (d:D)
def whlL(t:DS→Mem→Option (Bool×Mem))(b:DS→Mem→Option (Out×Mem)):Nat→DS→Mem→Option (Out×Mem)
 | 0,_,_=>none
 | n+1,σ,m=>(t σ m).bind fun(c,m1)=>if c then (b σ m1).bind fun(o,m2)=>match o with
  | .nx σ'=>whlL t b n σ' m2
  | .rt d=>some (.rt d,m2)
  else some (.nx σ,m1)
def forL(w:Walk)(g:Tg)(b:DS→Mem→Option (Out×Mem)):List D→DS→Mem→Option (Out×Mem)
 | [],σ,m=>if w.ok m then some (.nx σ,m) else none
 | d::r,σ,m=>if w.ok m then (bindT g d σ).bind fun σ1=>(b σ1 m).bind fun(o,m1)=>match o with
  | .nx σ'=>forL w g b r σ' m1
  | .rt x=>some (.rt x,m1)
  else none
variable(W:Nat)
mutual
def ex:Sm→DS→Mem→Option (Out×Mem)
 | .set i a,σ,m=>(ev C a σ m).map fun(x,m1)=>(.nx (σ.set i (some x)),m1)
 | .asg g a,σ,m=>(ev C a σ m).bind fun(x,m1)=>(bindT g x σ).map fun σ'=>(.nx σ',m1)
 | .put d k v,σ,m=>(ev C v σ m).bind fun(z,m1)=>(ev C d σ m1).bind fun(x,m2)=>(ev C k σ m2).bind fun(y,m3)=>match x with
  | .mref i=>match m3[i]?,keyD y with
   | some (.dct ks vs),some k=>if z.clean&&decide (ks.length<10000) then some (.nx σ,m3.set i (.dct (putD ks vs k z).1 (putD ks vs k z).2)) else none
   | _,_=>none
  | _=>none
 | .drop a,σ,m=>(ev C a σ m).map fun(_,m1)=>(.nx σ,m1)
 | .ret a,σ,m=>(ev C a σ m).map fun(x,m1)=>(.rt x,m1)
 | .ite t a b,σ,m=>(et C t σ m).bind fun(c,m1)=>if c then exs a σ m1 else exs b σ m1
 | .whl t b,σ,m=>whlL (et C t) (fun σ m=>exs b σ m) W σ m
 | .fr g i b,σ,m=>(ei C i σ m).bind fun(w,m1)=>forL w g (fun σ m=>exs b σ m) w.xs σ m1
 | .fput d k,σ,m=>(ev C d σ m).bind fun(x,m1)=>(ev C k σ m1).bind fun(y,m2)=>match x with
  | .mref i=>match m2[i]?,fkD y with
   | some (.fd ks),some k=>if ks.length<10000 then some (.nx σ,m2.set i (.fd (addF ks k))) else none
   | _,_=>none
  | _=>none
def exs:Sms→DS→Mem→Option (Out×Mem)
 | .nil,σ,m=>some (.nx σ,m)
 | .cons s r,σ,m=>(ex s σ m).bind fun(o,m1)=>match o with
  | .nx σ'=>exs r σ' m1
  | .rt d=>some (.rt d,m1)
end
end
def outD(n:Nat)(m:Mem):D→Option D
 | .mref i=>if i<n then none else match m[i]? with
  | some (.lst xs)=>if D.clean.cleans xs then some (.lst xs) else none
  | some (.dct ks vs)=>if D.clean.cleans vs then some (.dct ks vs) else none
  | _=>none
 | d=>if d.clean then some d else none
structure Fn where
 ps:Nat
 ns:Nat
 body:Sms
def callI(W:Nat)(Γ:String→Option Fn):Nat→String→List D→Mem→Option (D×Mem)
 | 0,_,_,_=>none
 | n+1,f,xs,m=>(Γ f).bind fun F=>if xs.length=F.ps then
   (exs (callI W Γ n) W F.body (xs.map some++List.replicate (F.ns-F.ps) none) m).bind fun(o,m1)=>match o with
    | .rt d=>(outD m.length m1 d).map fun d=>(d,m1.take m.length)
    | .nx _=>some (.non,m1.take m.length)
   else none
end WL
end
section
namespace WL
open PySem PySem.Spec PyProof.Rows L2
def FzT(K:PySem.W.Frag)(H:Hp)(a:Addr)(vs:List V):Prop:=∃ o:Obj,o.cls=.type "tuple"∧o.dict=none∧
 (H a=some (.frz o (.tup vs))∨(K.lookup a=some o∧∃ (its:Array Value) (n:Nat),o.data=.seq its n∧its.size≤sizeLine∧Vals vs its.toList))
def ScrAt(K:PySem.W.Frag)(H:Hp)(a:Addr)(vs:List V):Prop:=(∃ o,H a=some (.frz o (.lst vs)))∨
  ∃ (o:Obj) (its:Array Value) (n:Nat),K.lookup a=some o∧o.cls=.type "list"∧o.dict=none∧o.data=.seq its n∧its.size≤sizeLine∧Vals vs its.toList
theorem FzT.sq{K:PySem.W.Frag}{H:Hp}{a:Addr}{vs:List V}(h:FzT K H a vs):SqT K H a vs:=by
 obtain⟨o,hc,hd,h | ⟨hk,its,n,e,z,r⟩⟩:=h
 ·exact .inl (.inr ⟨o,h⟩)
 ·exact .inr ⟨o,its,n,hk,hc,e,z,r⟩
theorem ScrAt.sq{K:PySem.W.Frag}{H:Hp}{a:Addr}{vs:List V}(h:ScrAt K H a vs):SqL K H a vs:=by
 rcases h with ⟨o,h⟩ | h
 ·exact .inl (.inr ⟨o,h⟩)
 ·exact .inr h
mutual
def At(K:PySem.W.Frag)(ρ:List Addr)(H:Hp):D→V→Prop
 | .non,v=>v=.non
 | .bl b,v=>v=.bl b
 | .int i,v=>v=.int i
 | .str x,v=>v=.str x
 | .tup xs,v=>∃ a vs,v=.ref a∧FzT K H a vs∧Ats K ρ H xs vs
 | .lst xs,v=>∃ a o vs,v=.ref a∧H a=some (.frz o (.lst vs))∧Ats K ρ H xs vs
 | .dct ks xs,v=>∃ a o kvs,v=.ref a∧H a=some (.frz o (.dK kvs))∧kvs.map (·.1)=ks∧Ats K ρ H xs (kvs.map (·.2))
 | .scr ns,v=>∃ a,v=.ref a∧ScrAt K H a (ns.map V.int)
 | .mref i,v=>∃ a,ρ[i]?=some a∧v=.ref a
def Ats(K:PySem.W.Frag)(ρ:List Addr)(H:Hp):List D→List V→Prop
 | [],vs=>vs=[]
 | d::r,vs=>∃ v vr,vs=v::vr∧At K ρ H d v∧Ats K ρ H r vr
end
def FzSub(H H':Hp):Prop:=∀ a o u,H a=some (.frz o u)→H' a=some (.frz o u)
def RSub(ρ ρ':List Addr):Prop:=∀ (i:Nat) (a:Addr),ρ[i]?=some a→ρ'[i]?=some a
theorem RSub.refl(ρ:List Addr):RSub ρ ρ:=fun _ _ h=>h
theorem RSub.pre{ρ ρ':List Addr}(h:ρ <+: ρ'):RSub ρ ρ':=fun i a e=>by
 obtain⟨t,rfl⟩:=h
 have hi:=(List.getElem?_eq_some_iff.mp e).1
 rw[List.getElem?_append_left hi];exact e
theorem RSub.take(ρ:List Addr)(n:Nat):RSub (ρ.take n) ρ:=RSub.pre (List.take_prefix n ρ)
section
variable{K:PySem.W.Frag}{ρ ρ':List Addr}{H H':Hp}
theorem FzT.mono(hf:FzSub H H'){a:Addr}{vs:List V}:FzT K H a vs→FzT K H' a vs
 | ⟨o,c,d,.inl h⟩=>⟨o,c,d,.inl (hf _ _ _ h)⟩
 | ⟨o,c,d,.inr h⟩=>⟨o,c,d,.inr h⟩
theorem ScrAt.mono(hf:FzSub H H'){a:Addr}{vs:List V}:ScrAt K H a vs→ScrAt K H' a vs
 | .inl ⟨o,h⟩=>.inl ⟨o,hf _ _ _ h⟩
 | .inr h=>.inr h
mutual
theorem At.mono'(hf:FzSub H H')(hr:RSub ρ ρ'):∀ {d:D} {v:V},At K ρ H d v→At K ρ' H' d v
 | .non,_,h=>h
 | .bl _,_,h=>h
 | .int _,_,h=>h
 | .str _,_,h=>h
 | .tup _,_,⟨a,vs,e,h,q⟩=>⟨a,vs,e,h.mono hf,Ats.mono' hf hr q⟩
 | .lst _,_,⟨a,o,vs,e,h,q⟩=>⟨a,o,vs,e,hf _ _ _ h,Ats.mono' hf hr q⟩
 | .dct _ _,_,⟨a,o,kvs,e,h,k,q⟩=>⟨a,o,kvs,e,hf _ _ _ h,k,Ats.mono' hf hr q⟩
 | .scr _,_,⟨a,e,h⟩=>⟨a,e,h.mono hf⟩
 | .mref _,_,⟨a,h,e⟩=>⟨a,hr _ _ h,e⟩
theorem Ats.mono'(hf:FzSub H H')(hr:RSub ρ ρ'):∀ {d:List D} {v:List V},Ats K ρ H d v→Ats K ρ' H' d v
 | [],_,h=>h
 | _::_,_,⟨a,b,e,p,q⟩=>⟨a,b,e,At.mono' hf hr p,Ats.mono' hf hr q⟩
end
mutual
theorem At.clean(hf:FzSub H H'):∀ {d:D} {v:V},d.clean=true→At K ρ H d v→At K ρ' H' d v
 | .non,_,_,h=>h
 | .bl _,_,_,h=>h
 | .int _,_,_,h=>h
 | .str _,_,_,h=>h
 | .tup _,_,c,⟨a,vs,e,h,q⟩=>⟨a,vs,e,h.mono hf,Ats.clean hf c q⟩
 | .lst _,_,c,⟨a,o,vs,e,h,q⟩=>⟨a,o,vs,e,hf _ _ _ h,Ats.clean hf c q⟩
 | .dct _ _,_,c,⟨a,o,kvs,e,h,k,q⟩=>⟨a,o,kvs,e,hf _ _ _ h,k,Ats.clean hf c q⟩
 | .scr _,_,_,⟨a,e,h⟩=>⟨a,e,h.mono hf⟩
 | .mref _,_,c,_=>nomatch c
theorem Ats.clean(hf:FzSub H H'):∀ {d:List D} {v:List V},D.clean.cleans d=true→Ats K ρ H d v→Ats K ρ' H' d v
 | [],_,_,h=>h
 | _::_,_,c,⟨a,b,e,p,q⟩=>by
  have c':=Bool.and_eq_true_iff.mp c
  exact⟨a,b,e,At.clean hf c'.1 p,Ats.clean hf c'.2 q⟩
end
theorem Ats.len:∀ {ds:List D} {vs:List V},Ats K ρ H ds vs→vs.length=ds.length
 | [],_,h=>by cases (show _=[] from h);rfl
 | _::_,_,⟨_,_,e,_,q⟩=>by subst e;simp[Ats.len q]
theorem Ats.get:∀ {ds:List D} {vs:List V} {i:Nat} {d:D},Ats K ρ H ds vs→ds[i]?=some d→∃ v,vs[i]?=some v∧At K ρ H d v
 | [],_,_,_,_,e=>by simp at e
 | _::_,_,0,_,⟨v,_,e,p,_⟩,e'=>by
  subst e
  have:=Option.some.inj (by simpa using e')
  subst this
  exact⟨v,rfl,p⟩
 | _::_,_,i+1,_,⟨v,_,e,p,q⟩,e'=>by
  subst e
  obtain⟨w,h1,h2⟩:=Ats.get (i:=i) q (by simpa using e')
  exact⟨w,by simpa using h1,h2⟩
theorem Ats.app:∀ {as bs:List D} {vs us:List V},Ats K ρ H as vs→Ats K ρ H bs us→Ats K ρ H (as++bs) (vs++us)
 | [],_,_,_,h,h'=>by cases (show _=[] from h);exact h'
 | _::_,_,_,_,⟨v,r,e,p,q⟩,h'=>by subst e;exact⟨v,r++_,rfl,p,Ats.app q h'⟩
theorem Ats.one{d:D}{v:V}(h:At K ρ H d v):Ats K ρ H [d] [v]:=⟨v,[],rfl,h,rfl⟩
theorem Ats.snoc{ds:List D}{vs:List V}{d:D}{v:V}(h:Ats K ρ H ds vs)(h':At K ρ H d v):Ats K ρ H (ds++[d]) (vs++[v]):=h.app (.one h')
theorem Ats.take:∀ {ds:List D} {vs:List V} (n:Nat),Ats K ρ H ds vs→Ats K ρ H (ds.take n) (vs.take n)
 | [],_,n,h=>by cases (show _=[] from h);simp[Ats]
 | _::_,_,0,_=>rfl
 | _::_,_,n+1,⟨v,r,e,p,q⟩=>by subst e;exact⟨v,r.take n,rfl,p,Ats.take n q⟩
theorem Ats.drop:∀ {ds:List D} {vs:List V} (n:Nat),Ats K ρ H ds vs→Ats K ρ H (ds.drop n) (vs.drop n)
 | [],_,n,h=>by cases (show _=[] from h);simp[Ats]
 | _::_,_,0,h=>h
 | _::_,_,n+1,⟨v,r,e,p,q⟩=>by subst e;exact Ats.drop n q
theorem Ats.ints:∀ (ns:List Int),Ats K ρ H (ns.map D.int) (ns.map V.int)
 | []=>rfl
 | n::r=>⟨_,_,rfl,rfl,Ats.ints r⟩
end
def MOAt(K:PySem.W.Frag)(ρ:List Addr)(H:Hp)(a:Addr):MO→Prop
 | .lst xs=>∃ vs,H a=some (.lst vs)∧Ats K ρ H xs vs
 | .dct ks xs=>∃ kvs,H a=some (.dK kvs)∧kvs.map (·.1)=ks∧Ats K ρ H xs (kvs.map (·.2))
 | .fd ks=>∃ xs:List (FK×Addr),H a=some (.dF xs)∧xs.map (·.1)=ks∧∀ x∈xs,At K ρ H (fD x.1) (.ref x.2)
structure MemAt(K:PySem.W.Frag)(ρ:List Addr)(m:Mem)(H:Hp):Prop where
 len:ρ.length=m.length
 nd:ρ.Nodup
 at':∀ (j:Nat) (a:Addr) (o:MO),ρ[j]?=some a→m[j]?=some o→MOAt K (ρ.take j) H a o
structure Go(ρ ρ':List Addr)(H H':Hp):Prop where
 fr:∀ b o,H b=some o→b∉ρ→H' b=some o
 ex:ρ <+: ρ'
 nw:∀ b∈ρ',b∈ρ∨H b=none
def StAt(K:PySem.W.Frag)(ρ:List Addr)(H:Hp)(σd:DS)(σ:L2.St):Prop:=σd.length=σ.length∧∀ (i:Nat) (d:D),σd[i]?=some (some d)→∃ v,σ[i]?=some (some v)∧At K ρ H d v
section
variable{K:PySem.W.Frag}{ρ ρ' ρ1 ρ2:List Addr}{H H' H1 H2:Hp}{m m':Mem}
theorem MOAt.mono(hf:FzSub H H')(hr:RSub ρ ρ'){a:Addr}:∀ {o:MO},MOAt K ρ H a o→H' a=H a→MOAt K ρ' H' a o
 | .lst _,⟨vs,e,q⟩,h=>⟨vs,h.trans e,q.mono' hf hr⟩
 | .dct _ _,⟨kvs,e,k,q⟩,h=>⟨kvs,h.trans e,k,q.mono' hf hr⟩
 | .fd _,⟨xs,e,k,q⟩,h=>⟨xs,h.trans e,k,fun x hx=>(q x hx).mono' hf hr⟩
theorem MOAt.ne{a:Addr}:∀ {o:MO},MOAt K ρ H a o→∃ u,H a=some u∧∀ ob w,u≠.frz ob w
 | .lst _,⟨vs,e,_⟩=>⟨_,e,fun _ _ z=>nomatch z⟩
 | .dct _ _,⟨vs,e,_⟩=>⟨_,e,fun _ _ z=>nomatch z⟩
 | .fd _,⟨vs,e,_⟩=>⟨_,e,fun _ _ z=>nomatch z⟩
theorem MemAt.obj(M:MemAt K ρ m H){a:Addr}(h:a∈ρ):∃ j o,ρ[j]?=some a∧m[j]?=some o∧MOAt K (ρ.take j) H a o:=by
 obtain⟨j,hj,e⟩:=List.getElem_of_mem h
 have e1:ρ[j]?=some a:=by rw[List.getElem?_eq_getElem hj,e]
 have hm:j<m.length:=by rw[← M.len];exact hj
 exact⟨j,m[j],e1,List.getElem?_eq_getElem hm,M.at' j a _ e1 (List.getElem?_eq_getElem hm)⟩
theorem MemAt.there(M:MemAt K ρ m H){a:Addr}(h:a∈ρ):∃ u,H a=some u∧∀ ob w,u≠.frz ob w:=by
 obtain⟨j,o,_,_,q⟩:=M.obj h
 exact q.ne
theorem MemAt.notFz(M:MemAt K ρ m H){a:Addr}{o:Obj}{u:HO}(h:H a=some (.frz o u)):a∉ρ:=fun q=>by
 obtain⟨w,e,n⟩:=M.there q
 rw[h]at e
 exact n o u (Option.some.inj e).symm
theorem MemAt.fresh(M:MemAt K ρ m H){a:Addr}(h:H a=none):a∉ρ:=fun q=>by
 obtain⟨w,e,n⟩:=M.there q
 rw[h]at e;cases e
theorem Go.fz(M:MemAt K ρ m H)(g:Go ρ ρ' H H'):FzSub H H':=fun a o u h=>g.fr a _ h (M.notFz h)
theorem Go.refl(ρ:List Addr)(H:Hp):Go ρ ρ H H:=⟨fun _ _ h _=>h,List.prefix_rfl,fun _ h=>.inl h⟩
theorem Go.trans(a:Go ρ ρ1 H H1)(b:Go ρ1 ρ2 H1 H2):Go ρ ρ2 H H2 where
 fr:=fun c o h n=>b.fr c o (a.fr c o h n) fun z=>(a.nw c z).elim n fun q=>by rw[h]at q;cases q
 ex:=a.ex.trans b.ex
 nw:=fun c h=>by
  rcases b.nw c h with z | z
  ·exact a.nw c z
  ·by_cases hc:c∈ρ
   ·exact .inl hc
   ·cases q:H c with
    | none=>exact .inr rfl
    | some o=>rw[a.fr c o q hc]at z;cases z
theorem At.mono(M:MemAt K ρ m H)(g:Go ρ ρ' H H'){d:D}{v:V}(h:At K ρ H d v):At K ρ' H' d v:=h.mono' (g.fz M) (.pre g.ex)
theorem Ats.mono(M:MemAt K ρ m H)(g:Go ρ ρ' H H'){d:List D}{v:List V}(h:Ats K ρ H d v):Ats K ρ' H' d v:=h.mono' (g.fz M) (.pre g.ex)
theorem StAt.mono'(hf:FzSub H H')(hr:RSub ρ ρ'){σd:DS}{σ:L2.St}(h:StAt K ρ H σd σ):StAt K ρ' H' σd σ:=⟨h.1,fun i d e=>let ⟨v,e',a⟩:=h.2 i d e;⟨v,e',a.mono' hf hr⟩⟩
theorem StAt.mono(M:MemAt K ρ m H)(g:Go ρ ρ' H H'){σd:DS}{σ:L2.St}(h:StAt K ρ H σd σ):StAt K ρ' H' σd σ:=h.mono' (g.fz M) (.pre g.ex)
theorem StAt.set{σd:DS}{σ:L2.St}(h:StAt K ρ H σd σ)(i:Nat){d:D}{v:V}(a:At K ρ H d v):StAt K ρ H (σd.set i (some d)) (σ.set i (some v)):=by
 refine⟨by simpa using h.1,fun j e q=>?_⟩
 by_cases hj:i=j
 ·subst hj
  have hi:i<σd.length:=by
   have:=(List.getElem?_eq_some_iff.mp q).1
   simpa using this
  rw[List.getElem?_set_self hi]at q
  have q':d=e:=Option.some.inj (Option.some.inj q)
  subst q'
  exact⟨v,List.getElem?_set_self (by rw[← h.1];exact hi),a⟩
 ·rw[List.getElem?_set_ne hj]at q
  obtain⟨w,e1,a1⟩:=h.2 j e q
  exact⟨w,by rw[List.getElem?_set_ne hj];exact e1,a1⟩
theorem upd_fz{p:Addr}{o:HO}(hp:H p=none):FzSub H (upd H p o):=fun a ob u h=>by rw[upd_ne (ne_of_none h hp)];exact h
theorem go_new{p:Addr}{o:HO}(hp:H p=none):Go ρ ρ H (upd H p o):=⟨fun b ob h _=>by rw[upd_ne (ne_of_none h hp)];exact h,List.prefix_rfl,fun _ h=>.inl h⟩
theorem MemAt.keep(M:MemAt K ρ m H)(hf:FzSub H H')(h:∀ a∈ρ,H' a=H a):MemAt K ρ m H':=
 ⟨M.len,M.nd,fun j a o e1 e2=>(M.at' j a o e1 e2).mono hf (.refl _) (h a (List.mem_of_getElem? e1))⟩
theorem MemAt.new(M:MemAt K ρ m H){p:Addr}{o:HO}(hp:H p=none):MemAt K ρ m (upd H p o):=
 M.keep (upd_fz hp) fun a ha=>upd_ne fun e=>M.fresh hp (e▸ha)
theorem MemAt.push(M:MemAt K ρ m H){p:Addr}{o:HO}{q:MO}(hp:H p=none)(h:MOAt K ρ (upd H p o) p q):MemAt K (ρ++[p]) (m++[q]) (upd H p o):=by
 have hn:p∉ρ:=M.fresh hp
 refine⟨by simp[M.len],List.nodup_append.mpr ⟨M.nd,by simp,fun a ha b hb=>?_⟩,fun j a u e1 e2=>?_⟩
 ·have:b=p:=by simpa using hb
  subst this
  exact fun z=>hn (z▸ha)
 ·by_cases hj:j<ρ.length
  ·rw[List.getElem?_append_left hj]at e1
   rw[List.getElem?_append_left (by rw[← M.len];exact hj)]at e2
   rw[List.take_append_of_le_length (Nat.le_of_lt hj)]
   exact(M.at' j a u e1 e2).mono (upd_fz hp) (.refl _) (upd_ne fun e=>hn (e▸List.mem_of_getElem? e1))
  ·have hj':j=ρ.length:=by
    have:=(List.getElem?_eq_some_iff.mp e1).1
    simp at this
    omega
   subst hj'
   have e1':p=a:=by simpa using e1
   rw[M.len]at e2
   have e2':q=u:=by simpa using e2
   subst e1' e2'
   rw[List.take_append_of_le_length (Nat.le_refl _),List.take_length]
   exact h
theorem go_push(M:MemAt K ρ m H){p:Addr}{o:HO}(hp:H p=none):Go ρ (ρ++[p]) H (upd H p o):=⟨fun b ob h _=>by rw[upd_ne (ne_of_none h hp)];exact h,List.prefix_append _ _,fun b h=>by
 rcases List.mem_append.mp h with h | h
 ·exact .inl h
 ·have:b=p:=by simpa using h
  subst this
  exact .inr hp⟩
theorem MemAt.write(M:MemAt K ρ m H){j:Nat}{a:Addr}{o:HO}{q:MO}(ha:ρ[j]?=some a)(h:MOAt K (ρ.take j) (upd H a o) a q):MemAt K ρ (m.set j q) (upd H a o)∧Go ρ ρ H (upd H a o):=by
 have hm:a∈ρ:=List.mem_of_getElem? ha
 obtain⟨u,hu,nf⟩:=M.there hm
 have hf:FzSub H (upd H a o):=fun b ob w e=>by
  rw[upd_ne]
  ·exact e
  ·rintro rfl;rw[hu]at e;exact nf ob w (Option.some.inj e)
 have hj:j<ρ.length:=(List.getElem?_eq_some_iff.mp ha).1
 refine⟨⟨by simpa using M.len,M.nd,fun i b w e1 e2=>?_⟩,fun b ob e n=>by rw[upd_ne fun z=>n (by rw[z];exact hm)];exact e,List.prefix_rfl,fun _ h=>.inl h⟩
 by_cases hi:j=i
 ·subst hi
  rw[List.getElem?_set_self (by rw[← M.len];exact hj)]at e2
  rw[ha]at e1
  cases e1;cases e2
  exact h
 ·rw[List.getElem?_set_ne hi]at e2
  refine(M.at' i b w e1 e2).mono hf (.refl _) (upd_ne ?_)
  rintro rfl
  obtain⟨h1,e3⟩:=List.getElem?_eq_some_iff.mp ha
  obtain⟨h2,e4⟩:=List.getElem?_eq_some_iff.mp e1
  exact hi ((List.getElem_inj M.nd).mp (e3.trans e4.symm))
theorem MemAt.cut(M:MemAt K ρ m H)(n:Nat):MemAt K (ρ.take n) (m.take n) H:=by
 refine⟨by simp[M.len],M.nd.sublist (List.take_sublist n ρ),fun j a o e1 e2=>?_⟩
 have hj:j<n:=by
  have:=(List.getElem?_eq_some_iff.mp e1).1
  simp at this
  omega
 rw[List.getElem?_take_of_lt hj]at e1 e2
 rw[List.take_take,Nat.min_eq_left (Nat.le_of_lt hj)]
 exact M.at' j a o e1 e2
end
end WL
end
section
namespace WL
open PySem PySem.Spec PyProof.Rows L2
def canFz:HO→Prop
 | .lst _=>True
 | .dK _=>True
 | _=>False
section
variable{X:Cx}{pins:List (Addr×Obj)}{σ:L2.St}{H:Hp}{s:Shared}
theorem freeze(I:Inv X pins σ H s){a:Addr}{u:HO}(h:H a=some u)(hu:canFz u):∃ o,Inv X pins σ (upd H a (.frz o u)) s:=by
 obtain⟨o,ho⟩:∃ o,s.heap.get? a=some o:=by
  have q:=I.hok a u h
  cases u with
  | lst xs=>obtain⟨_,_,_,_,e⟩:=q;exact⟨_,e⟩
  | dK kvs=>obtain⟨_,_,_,_,o,_,_,e,_⟩:=q;exact⟨o,e⟩
  | _=>exact False.elim hu
 have nn:∀ b,H b=none→b≠a:=fun b n z=>by subst z;rw[h]at n;cases n
 have nt:∀ b w,H b=some w→¬ canFz w→b≠a:=fun b w n c z=>by subst z;rw[h]at n;cases n;exact c hu
 refine⟨o,I.ok,I.os,I.bare,⟨I.base.keep,I.base.slot,fun b ob e n hx=>?_,I.base.there,fun b xs e=>?_,fun b ob w e=>?_,fun b ps e=>?_⟩,I.loc,I.cell,?_,fun x c e=>?_,fun p hp=>?_,fun b w e=>?_,I.len⟩
 ·have q:=I.base.free b ob e n hx
  rw[upd_ne (nn b q)];exact q
 ·have q:=I.base.tups b xs e
  rw[upd_ne (nt b _ q fun z=>z)];exact q
 ·have q:=I.base.frzs b ob w e
  rw[upd_ne (nt b _ q fun z=>z)];exact q
 ·obtain⟨more,q⟩:=I.base.tbls b ps e
  exact⟨more,by rw[upd_ne (nt b _ q fun z=>z)];exact q⟩
 ·rw[upd_ne (nn _ I.free)];exact I.free
 ·rw[upd_ne (nn _ (I.freeC x c e))];exact I.freeC x c e
 ·obtain⟨e1,e2,e3⟩:=I.pin p hp
  exact⟨e1,by rw[upd_ne (nn _ e2)];exact e2,e3⟩
 ·have st:∀ {c:Addr} {x:HO},ObjOk X.prog X.w H s.heap c x→ObjOk X.prog X.w (upd H a (.frz o u)) s.heap c x:=fun {c x} q=>
   q.stay (fun _ _ _ z=>z) (fun d z=>by rw[upd_ne (nt d _ z fun z=>z)];exact z) fun d xs z=>by rw[upd_ne (nt d _ z fun z=>z)];exact z
  by_cases hb:b=a
  ·subst hb
   rw[upd_same]at e
   cases e
   exact⟨ho,st (I.hok b u h)⟩
  ·rw[upd_ne hb]at e
   exact st (I.hok b w e)
def Fz(Q:VK):VK:=fun v H=>Q v H∨∃ a u,v=.ref a∧H a=some u∧canFz u∧∀ o,Q v (upd H a (.frz o u))
theorem _root_.L2.EP.fz{Q:VK}{u:Value}(h:EP X pins σ (Fz Q) u s):EP X pins σ Q u s:=by
 obtain⟨v,H',I,r,q | ⟨a,w,e,ha,c,q⟩⟩:=h
 ·exact⟨v,H',I,r,q⟩
 ·obtain⟨o,I'⟩:=freeze I ha c
  exact⟨v,_,I',r,q o⟩
end
section
variable{X:Cx}{e:Expr}{t t':TE}
theorem _root_.L2.PE.fz(h:PE X e t):PE X e (fun σ H Q=>t σ H (Fz Q)):=fun pins s σ H Q I q=>thn (h pins s σ H _ I q) fun _ _ z=>L2.EP.fz z
theorem _root_.L2.PE.imp(h:PE X e t)(hi:∀ σ H Q,t' σ H Q→t σ H Q):PE X e t':=fun pins s σ H Q I q=>h pins s σ H Q I (hi σ H Q q)
theorem _root_.L2.PE.imf(h:PE X e t)(hi:∀ σ H Q,t' σ H Q→t σ H (Fz Q)):PE X e t':=h.fz.imp hi
theorem _root_.L2.PT.imp{t t':TT}(h:PT X e t)(hi:∀ σ H Q,t' σ H Q→t σ H Q):PT X e t':=fun pins s σ H Q I q=>h pins s σ H Q I (hi σ H Q q)
theorem _root_.L2.PW.imp{t t':TT}(h:PW X e t)(hi:∀ σ H Q,t' σ H Q→t σ H Q):PW X e t':=fun w pins s σ H Q I q=>h w pins s σ H Q I (hi σ H Q q)
theorem _root_.L2.PA.imp{es:List Expr}{t t':TA}(h:PA X es t)(hi:∀ σ H Q,t' σ H Q→t σ H Q):PA X es t':=fun pos pins s σ H Q I q=>h pos pins s σ H Q I (hi σ H Q q)
theorem _root_.L2.PO.imp{e:Option Expr}{t t':TO}(h:PO X e t)(hi:∀ σ H Q,t' σ H Q→t σ H Q):PO X e t':=fun pins s σ H Q I q=>h pins s σ H Q I (hi σ H Q q)
theorem _root_.L2.PS.imp{st:Stmt}{t t':TS}(h:PS X st t)(hi:∀ D σ H,t' D σ H→t D σ H):PS X st t':=fun pins s σ H D I q=>h pins s σ H D I (hi D σ H q)
theorem _root_.L2.PSs.imp{st:List Stmt}{t t':TS}(h:PSs X st t)(hi:∀ D σ H,t' D σ H→t D σ H):PSs X st t':=fun pins s σ H D I q=>h pins s σ H D I (hi D σ H q)
end
section
variable(C:String→List D→Mem→Option (D×Mem))(W:Nat)(K:PySem.W.Frag)
def Beh(ρ:List Addr)(H:Hp)(d:D)(m':Mem)(Q:VK):Prop:=∀ v H' ρ',Go ρ ρ' H H'→MemAt K ρ' m' H'→At K ρ' H' d v→Q v H'
def tD(p:Ex):TE:=fun σ H Q=>∃ σd m ρ d m',StAt K ρ H σd σ∧MemAt K ρ m H∧ev C p σd m=some (d,m')∧Beh K ρ H d m' Q
def tDs(p:Exs):TA:=fun σ H Q=>∃ σd m ρ ds m',StAt K ρ H σd σ∧MemAt K ρ m H∧evs C p σd m=some (ds,m')∧∀ vs H' ρ',Go ρ ρ' H H'→MemAt K ρ' m' H'→Ats K ρ' H' ds vs→Q vs H'
def tDT(p:Te):TT:=fun σ H Q=>∃ σd m ρ c m',StAt K ρ H σd σ∧MemAt K ρ m H∧et C p σd m=some (c,m')∧∀ H' ρ',Go ρ ρ' H H'→MemAt K ρ' m' H'→Q c H'
def tDO(p:Oe):TO:=fun σ H Q=>∃ σd m ρ c m',StAt K ρ H σd σ∧MemAt K ρ m H∧eo C p σd m=some (c,m')∧∀ H' ρ',Go ρ ρ' H H'→MemAt K ρ' m' H'→Q c H'
def tDG(g:Tg):TG:=fun v σ H Q=>∃ σd ρ d σd',StAt K ρ H σd σ∧At K ρ H d v∧bindT g d σd=some σd'∧∀ σ',StAt K ρ H σd' σ'→Q σ' H
def tDGs(gs:List Tg):TGs:=fun vs σ H Q=>∃ σd ρ ds σd',StAt K ρ H σd σ∧Ats K ρ H ds vs∧bindTs gs ds σd=some σd'∧∀ σ',StAt K ρ H σd' σ'→Q σ' H
def Beo(ρ:List Addr)(H:Hp)(o:Out)(m':Mem)(E:Ends):Prop:=∀ H' ρ',Go ρ ρ' H H'→MemAt K ρ' m' H'→match o with
 | .nx σd'=>∀ σ',StAt K ρ' H' σd' σ'→E.nx σ' H'
 | .rt d=>∀ v,At K ρ' H' d v→E.rt v H'
def tDS(p:Sm):TS:=fun E σ H=>∃ σd m ρ o m',StAt K ρ H σd σ∧MemAt K ρ m H∧ex C W p σd m=some (o,m')∧Beo K ρ H o m' E
def tDSs(p:Sms):TS:=fun E σ H=>∃ σd m ρ o m',StAt K ρ H σd σ∧MemAt K ρ m H∧exs C W p σd m=some (o,m')∧Beo K ρ H o m' E
end
section
variable{K:PySem.W.Frag}{ρ ρ1:List Addr}{H H1:Hp}{d:D}{m1 m':Mem}{Q:VK}
theorem Beh.go(h:Beh K ρ H d m' Q)(g:Go ρ ρ1 H H1):Beh K ρ1 H1 d m' Q:=fun v H' ρ' g' M A=>h v H' ρ' (g.trans g') M A
theorem Beh.here(h:Beh K ρ H d m1 Q)(M:MemAt K ρ m1 H){v:V}(A:At K ρ H d v):Q v H:=h v H ρ (.refl _ _) M A
theorem Beh.tup{xs:List D}{vs:List V}(h:Beh K ρ H (.tup xs) m1 Q)(M:MemAt K ρ m1 H)(A:Ats K ρ H xs vs){p:Addr}(hp:H p=none){o:Obj}(hc:o.cls=.type "tuple")(hd:o.dict=none):Q (.ref p) (upd H p (.frz o (.tup vs))):=
 h _ _ ρ (go_new hp) (M.new hp) ⟨p,vs,rfl,⟨o,hc,hd,.inl upd_same⟩,A.mono M (go_new hp)⟩
theorem Beh.lst{mu:Bool}{xs:List D}{vs:List V}(h:Beh K ρ H (mkL mu xs m1).1 (mkL mu xs m1).2 Q)(M:MemAt K ρ m1 H)(A:Ats K ρ H xs vs){p:Addr}(hp:H p=none):Fz Q (.ref p) (upd H p (.lst vs)):=by
 have A':Ats K ρ (upd H p (.lst vs)) xs vs:=A.mono M (go_new hp)
 cases mu with
 | true=>
  refine .inl (h _ _ (ρ++[p]) (go_push M hp) (M.push hp ⟨vs,upd_same,A'⟩) ⟨p,?_,rfl⟩)
  rw[← M.len];simp
 | false=>
  refine .inr ⟨p,_,rfl,upd_same,trivial,fun o=>?_⟩
  rw[upd_upd]
  exact h _ _ ρ (go_new hp) (M.new hp) ⟨p,o,vs,rfl,upd_same,A.mono M (go_new hp)⟩
end
section
variable{C:String→List D→Mem→Option (D×Mem)}{X:Cx}
theorem sd_var(i:Nat){x:Str}{pos:Pos}(hN:X.N[i]?=some x:=by rfl)(hv:Vis X.env.scope x:=by first | exact Or.inl rfl | exact Or.inr (Or.inl rfl) | exact Or.inr (Or.inr rfl))(hd:(x==("__debug__" : Str))=false:=by decide)
  (hcd:(x==("__classdict__" : Str))=false:=by decide):PE X (.Name x pos) (tD C X.K (.var i)):=(pe_var hN hv hd hcd).imp fun σ H Q hq0=>by
 obtain⟨σd,m,ρ,d,m',S,M,e,q⟩:=hq0
 change (match σd[i]? with | some (some d)=>some (d,m) | _=>none)=_ at e
 split at e
 ·rename_i d' hd
  cases e
  obtain⟨v,e1,a⟩:=S.2 i _ hd
  exact⟨v,e1,q.here M a⟩
 ·cases e
theorem sd_con{e:Expr}{v:V}{d:D}(h:PE X e (tC v))(a:∀ ρ H,At X.K ρ H d v):PE X e (tD C X.K (.con d)):=h.imp fun σ H Q hq0=>by
 obtain⟨σd,m,ρ,d',m',S,M,e,q⟩:=hq0
 cases e
 exact q.here M (a ρ H)
theorem sd_int{i:Int}{j pos}:PE X (.Constant (.int i) j pos) (tD C X.K (.con (.int i))):=sd_con pe_int fun _ _=>rfl
theorem sd_bl{i:Bool}{j pos}:PE X (.Constant (.bool i) j pos) (tD C X.K (.con (.bl i))):=sd_con pe_bl fun _ _=>rfl
theorem sd_str{i:Str}{j pos}:PE X (.Constant (.str i) j pos) (tD C X.K (.con (.str i))):=sd_con pe_str fun _ _=>rfl
theorem sd_non{j pos}:PE X (.Constant .none j pos) (tD C X.K (.con .non)):=sd_con pe_non fun _ _=>rfl
theorem sa_nil:PA X [] (tDs C X.K .nil):=(pa_nil (X:=X)).imp fun σ H Q hq0=>by
 obtain⟨σd,m,ρ,ds,m',S,M,e,q⟩:=hq0
 cases e
 exact q [] H ρ (.refl _ _) M rfl
theorem sa_cons{e:Expr}{es:List Expr}{p:Ex}{ps:Exs}(ha:PE X e (tD C X.K p))(hr:PA X es (tDs C X.K ps))(hs:starEach (e::es) X.env=(false,eval e X.env)::starEach es X.env:=by rfl):PA X (e::es) (tDs C X.K (.cons p ps)):=
 (pa_cons ha hr hs).imp fun σ H Q hq0=>by
 obtain⟨σd,m,ρ,ds,m',S,M,e,q⟩:=hq0
 obtain⟨⟨x,m1⟩,e1,e⟩:=Option.bind_eq_some_iff.mp e
 obtain⟨⟨xs,m2⟩,e2,e⟩:=Option.map_eq_some_iff.mp e
 cases e
 refine⟨σd,m,ρ,x,m1,S,M,e1,fun v H1 ρ1 g1 M1 A1=>⟨σd,m1,ρ1,xs,m',S.mono M g1,M1,e2,fun vs H2 ρ2 g2 M2 A2=>q _ H2 ρ2 (g1.trans g2) M2 ⟨v,vs,rfl,A1.mono M1 g2,A2⟩⟩⟩
def Snd2(K:PySem.W.Frag)(f:D→D→Mem→Option (D×Mem))(r:R2):Prop:=∀ (ρ:List Addr) (m m':Mem) (H:Hp) (dx dy d:D) (x y:V) (Q:VK),
 MemAt K ρ m H→At K ρ H dx x→At K ρ H dy y→f dx dy m=some (d,m')→Beh K ρ H d m' Q→r x y H (Fz Q)
theorem Fz.of{Q:VK}{v:V}{H:Hp}(h:Q v H):Fz Q v H:=.inl h
theorem sd_two{e:Expr}{pa pb p:Ex}{r:R2}{f:D→D→Mem→Option (D×Mem)}(h:PE X e (tOp r (tD C X.K pa) (tD C X.K pb)))(hf:Snd2 X.K f r)
  (he:∀ σ m,ev C p σ m=(ev C pa σ m).bind fun z=>(ev C pb σ z.2).bind fun y=>f z.1 y.1 y.2):PE X e (tD C X.K p):=
 h.imf fun σ H Q hq0=>by
 obtain⟨σd,m,ρ,d,m',S,M,e,q⟩:=hq0
 rw[he]at e
 obtain⟨⟨x,m1⟩,e1,e⟩:=Option.bind_eq_some_iff.mp e
 obtain⟨⟨y,m2⟩,e2,e⟩:=Option.bind_eq_some_iff.mp e
 exact⟨σd,m,ρ,x,m1,S,M,e1,fun v H1 ρ1 g1 M1 A1=>⟨σd,m1,ρ1,y,m2,S.mono M g1,M1,e2,fun w H2 ρ2 g2 M2 A2=>hf ρ2 m2 m' H2 x y d v w Q M2 (A1.mono M1 g2) A2 e (q.go (g1.trans g2))⟩⟩
def Snd1(K:PySem.W.Frag)(f:D→Mem→Option (D×Mem))(r:V→Hp→VK→Prop):Prop:=∀ (ρ:List Addr) (m m':Mem) (H:Hp) (dx d:D) (x:V) (Q:VK),
 MemAt K ρ m H→At K ρ H dx x→f dx m=some (d,m')→Beh K ρ H d m' Q→r x H (Fz Q)
theorem sd_one{e:Expr}{pa p:Ex}{r:V→Hp→VK→Prop}{f:D→Mem→Option (D×Mem)}(h:PE X e (fun σ H Q=>tD C X.K pa σ H fun x H1=>r x H1 Q))(hf:Snd1 X.K f r)
  (he:∀ σ m,ev C p σ m=(ev C pa σ m).bind fun z=>f z.1 z.2):PE X e (tD C X.K p):=
 h.imf fun σ H Q hq0=>by
 obtain⟨σd,m,ρ,d,m',S,M,e,q⟩:=hq0
 rw[he]at e
 obtain⟨⟨x,m1⟩,e1,e⟩:=Option.bind_eq_some_iff.mp e
 exact⟨σd,m,ρ,x,m1,S,M,e1,fun v H1 ρ1 g1 M1 A1=>hf ρ1 m1 m' H1 x d v Q M1 A1 e (q.go g1)⟩
end
end WL
end
section
namespace WL
open PySem PySem.Spec PyProof.Rows L2
section
variable{C:String→List D→Mem→Option (D×Mem)}{X:Cx}
theorem big_line{n:Nat}(h:n≤100000):n≤sizeLine:=Nat.le_trans h (by rw[sizeLine_eq];decide)
def rCatF(K:PySem.W.Frag):R2:=fun x y H Q=>∃ a b xs ys,x=.ref a∧y=.ref b∧FzT K H a xs∧FzT K H b ys∧xs.length+ys.length≤sizeLine∧
 (xs=[]→Q (.ref b) H)∧(xs≠[]→ys=[]→Q (.ref a) H)∧(xs≠[]→ys≠[]→∀ p o,H p=none→o.cls=.type "tuple"→o.dict=none→Q (.ref p) (upd H p (.frz o (.tup (xs++ys)))))
theorem op_catF:OpR X (binaryOp .Add) (rCatF X.K):=by
 intro pins s σ H x y v u Q I rx ry h
 obtain⟨a,b,xs,ys,rfl,rfl,ha,hb,hz,q0,q1,q2⟩:=h
 cases rx
 cases ry
 obtain⟨its,r1,p1,_⟩:=I.tuple ha.sq
 obtain⟨its2,r2,p2,_⟩:=I.tuple hb.sq
 by_cases hx:xs=[]
 ·have hi:its=[]:=r1.nil_iff.mpr hx
  obtain⟨⟨cls,dd,data,sl⟩,ho,hc,n,hd⟩:=id p1
  obtain⟨⟨cls2,dd2,data2,sl2⟩,ho2,hc2,n2,hd2⟩:=id p2
  simp only at hc hd hc2 hd2
  subst hc hd hc2 hd2
  exact concat_meets ⟨_,ho,rfl⟩ ⟨_,ho2,rfl⟩ noFill_tuple_add seq_tuple_add PySem.F.slot_tuple_add PySem.F.entry_tuple_add (PySem.F.args_tuple_add_2 _ _)
   (tuple_addW0 a b its.toArray its2.toArray n n2 dd dd2 sl sl2 (by simp[hi])) ⟨ho,ho2,⟨.ref b,H,I,rfl,q0 hx⟩⟩
 ·refine HT.cat_tup p1 p2 (fun z=>hx (r1.nil_iff.mp z)) (fun z=>⟨.ref a,H,I,rfl,q1 hx (r2.nil_iff.mp z)⟩) (fun z=>?_) (by rw[← r1.length,← r2.length];exact hz)
  refine⟨.ref s.heap.objs.size,_,I.laid (t':=s.toks) (o:=.frz { cls:=.type "tuple",data:=.seq (its++its2).toArray } (.tup (xs++ys))) (fun b ob q=>Heap.get?_push_of_some _ q) (Nat.le_refl _) ?_,rfl,q2 hx (fun w=>z (r2.nil_iff.mpr w)) _ _ (I.hok.fresh (Nat.le_refl _)) rfl rfl⟩
  exact⟨Heap.get?_push_size _ rfl,by rw[List.length_append];exact hz,_,r1.append r2,IsTup.new _ _⟩
theorem op_addU:OpR X (binaryOp .Add) (fun x y H Q=>rI0 (fun i j=>.int (i+j)) x y H Q∨(∃ i j,x=.str i∧y=.str j∧i.length+j.length≤sizeLine∧Q (.str (i++j)) H)∨rCatF X.K x y H Q):=op_add.or (op_add_str.or op_catF)
theorem snd_add:Snd2 X.K (binD .add) (fun x y H Q=>rI0 (fun i j=>.int (i+j)) x y H Q∨(∃ i j,x=.str i∧y=.str j∧i.length+j.length≤sizeLine∧Q (.str (i++j)) H)∨rCatF X.K x y H Q):=by
 intro ρ m m' H dx dy d x y Q M ax ay e q
 cases dx with
 | int i=>
  cases dy with
  | int j=>
   cases (show some (D.int (i+j),m)=some (d,m') from e)
   cases ax;cases ay
   exact .inl ⟨_,_,rfl,rfl,.of (q.here M rfl)⟩
  | _=>cases (show (none:Option (D×Mem))=some (d,m') from e)
 | str i=>
  cases dy with
  | str j=>
   have e:(if i.length+j.length≤1000 then some (D.str (i++j),m) else none)=some (d,m'):=e
   by_cases hl:i.length+j.length≤1000
   ·rw[if_pos hl]at e
    cases e
    cases ax;cases ay
    exact .inr (.inl ⟨_,_,rfl,rfl,big_line (by omega),.of (q.here M rfl)⟩)
   ·rw[if_neg hl]at e
    cases e
  | _=>cases (show (none:Option (D×Mem))=some (d,m') from e)
 | tup xs=>
  cases dy with
  | tup ys=>
   have e:(if xs.length+ys.length≤10000 then some (D.tup (xs++ys),m) else none)=some (d,m'):=e
   by_cases hl:xs.length+ys.length≤10000
   ·rw[if_pos hl]at e
    cases e
    obtain⟨a,vs,rfl,ha,as⟩:=ax
    obtain⟨b,us,rfl,hb,bs⟩:=ay
    have l1:=as.len
    have l2:=bs.len
    refine .inr (.inr ⟨a,b,vs,us,rfl,rfl,ha,hb,big_line (by omega),fun z=>.of ?_,fun _ z=>.of ?_,fun _ _ p o hp hc hd=>.of (q.tup M (as.app bs) hp hc hd)⟩)
    ·have:xs=[]:=List.eq_nil_of_length_eq_zero (by rw[← l1,z];rfl)
     subst this
     exact q.here M ⟨b,us,rfl,hb,bs⟩
    ·have:ys=[]:=List.eq_nil_of_length_eq_zero (by rw[← l2,z];rfl)
     subst this
     rw[List.append_nil]at q
     exact q.here M ⟨a,vs,rfl,ha,as⟩
   ·rw[if_neg hl]at e
    cases e
  | _=>cases (show (none:Option (D×Mem))=some (d,m') from e)
 | _=>cases (show (none:Option (D×Mem))=some (d,m') from e)
theorem snd_sub:Snd2 X.K (binD .sub) (rI0 fun i j=>.int (i-j)):=by
 intro ρ m m' H dx dy d x y Q M ax ay e q
 cases dx with
 | int i=>
  cases dy with
  | int j=>
   cases (show some (D.int (i-j),m)=some (d,m') from e)
   cases ax;cases ay
   exact⟨_,_,rfl,rfl,.of (q.here M rfl)⟩
  | _=>cases (show (none:Option (D×Mem))=some (d,m') from e)
 | _=>cases (show (none:Option (D×Mem))=some (d,m') from e)
theorem snd_mul:Snd2 X.K (binD .mul) (rI CMul fun i j=>.int (i*j)):=by
 intro ρ m m' H dx dy d x y Q M ax ay e q
 cases dx with
 | int i=>
  cases dy with
  | int j=>
   have e:(if (-(2 ^ 64)<i∧i<2 ^ 64)∨(-(2 ^ 64)<j∧j<2 ^ 64) then some (D.int (i*j),m) else none)=some (d,m'):=e
   by_cases h:(-(2 ^ 64)<i∧i<2 ^ 64)∨(-(2 ^ 64)<j∧j<2 ^ 64)
   ·rw[if_pos h]at e
    cases e
    cases ax;cases ay
    exact⟨_,_,rfl,rfl,h,.of (q.here M rfl)⟩
   ·rw[if_neg h]at e
    cases e
  | _=>cases (show (none:Option (D×Mem))=some (d,m') from e)
 | _=>cases (show (none:Option (D×Mem))=some (d,m') from e)
theorem snd_mod:Snd2 X.K (binD .mod) (rI (fun _ j=>0<j) fun i j=>.int (i % j)):=by
 intro ρ m m' H dx dy d x y Q M ax ay e q
 cases dx with
 | int i=>
  cases dy with
  | int j=>
   have e:(if 0<j then some (D.int (i % j),m) else none)=some (d,m'):=e
   by_cases h:0<j
   ·rw[if_pos h]at e
    cases e
    cases ax;cases ay
    exact⟨_,_,rfl,rfl,h,.of (q.here M rfl)⟩
   ·rw[if_neg h]at e
    cases e
  | _=>cases (show (none:Option (D×Mem))=some (d,m') from e)
 | _=>cases (show (none:Option (D×Mem))=some (d,m') from e)
theorem snd_fdiv:Snd2 X.K (binD .fdiv) (rI CDiv fun i j=>.int (i / j)):=by
 intro ρ m m' H dx dy d x y Q M ax ay e q
 cases dx with
 | int i=>
  cases dy with
  | int j=>
   have e:(if 0<j∧j<1073741824 then some (D.int (i / j),m) else none)=some (d,m'):=e
   by_cases h:0<j∧j<1073741824
   ·rw[if_pos h]at e
    cases e
    cases ax;cases ay
    exact⟨_,_,rfl,rfl,h,.of (q.here M rfl)⟩
   ·rw[if_neg h]at e
    cases e
  | _=>cases (show (none:Option (D×Mem))=some (d,m') from e)
 | _=>cases (show (none:Option (D×Mem))=some (d,m') from e)
variable{a b c:Expr}{pa pb pc:Ex}{pos:Pos}
theorem sd_add(ha:PE X a (tD C X.K pa))(hb:PE X b (tD C X.K pb)):PE X (.BinOp a .Add b pos) (tD C X.K (.bin .add pa pb)):=sd_two (pe_op op_addU ha hb) snd_add fun _ _=>rfl
theorem sd_sub(ha:PE X a (tD C X.K pa))(hb:PE X b (tD C X.K pb)):PE X (.BinOp a .Sub b pos) (tD C X.K (.bin .sub pa pb)):=sd_two (pe_op op_sub ha hb) snd_sub fun _ _=>rfl
theorem sd_mul(ha:PE X a (tD C X.K pa))(hb:PE X b (tD C X.K pb)):PE X (.BinOp a .Mult b pos) (tD C X.K (.bin .mul pa pb)):=sd_two (pe_op op_mul ha hb) snd_mul fun _ _=>rfl
theorem sd_mod(ha:PE X a (tD C X.K pa))(hb:PE X b (tD C X.K pb)):PE X (.BinOp a .Mod b pos) (tD C X.K (.bin .mod pa pb)):=sd_two (pe_op op_mod ha hb) snd_mod fun _ _=>rfl
theorem sd_fdiv(ha:PE X a (tD C X.K pa))(hb:PE X b (tD C X.K pb)):PE X (.BinOp a .FloorDiv b pos) (tD C X.K (.bin .fdiv pa pb)):=sd_two (pe_op op_fdiv ha hb) snd_fdiv fun _ _=>rfl
def rCatL:R2:=fun x y H Q=>∃ l b xs zs,x=.ref l∧y=.ref b∧Rd H l (.lst xs)∧Rd H b (.lst zs)∧xs.length+zs.length≤sizeLine∧∀ p,H p=none→Q (.ref p) (upd H p (.lst (xs++zs)))
theorem op_catL:OpR X (binaryOp .Add) rCatL:=by
 intro pins s σ H x y v u Q I rx ry h
 obtain⟨l,b,xs,zs,rfl,rfl,hH,hB,hz,q⟩:=h
 cases rx
 cases ry
 obtain⟨z,its,n,r,e⟩:=hH.ok I.hok
 obtain⟨z2,its2,n2,r2,e2⟩:=hB.ok I.hok
 have hl:=r.length
 have hl2:=r2.length
 refine PySem.P.add_list e e2 ?_ (by rw[List.size_toArray,List.size_toArray];omega)
 have ea:its.toArray++its2.toArray=(its++its2).toArray:=by simp
 rw[ea]
 exact⟨.ref _,_,I.lnew (t':=s.toks) (r.append r2) (by rw[List.length_append];omega),rfl,q _ I.fresh⟩
theorem sd_cat{mu:Bool}(ha:PE X a (tD C X.K pa))(hb:PE X b (tD C X.K pb)):PE X (.BinOp a .Add b pos) (tD C X.K (.cat mu pa pb)):=
 sd_two (f:=fun x y m2=>match x,y with | .lst xs,.lst ys=>if xs.length+ys.length≤10000 then some (mkL mu (xs++ys) m2) else none | _,_=>none) (pe_op op_catL ha hb) (by
  intro ρ m m' H dx dy d x y Q M ax ay e q
  cases dx<;>cases dy<;>simp only at e<;>try (cases e;done)
  split at e
  ·rename_i xs ys hl
   obtain⟨a,o,vs,rfl,ha,as⟩:=ax
   obtain⟨b,o',us,rfl,hb,bs⟩:=ay
   have l1:=as.len
   have l2:=bs.len
   have e':=Option.some.inj e
   have q':Beh X.K ρ H (mkL mu (xs++ys) m).1 (mkL mu (xs++ys) m).2 Q:=by rw[e'];exact q
   exact⟨a,b,vs,us,rfl,rfl,.inr ⟨o,ha⟩,.inr ⟨o',hb⟩,big_line (by omega),fun p hp=>q'.lst M (as.app bs) hp⟩
  ·cases e) fun _ _=>rfl
end
end WL
end
section
namespace WL
open PySem PySem.Spec PyProof.Rows L2
section
variable{X:Cx}{pins:List (Addr×Obj)}{σ:L2.St}{H:Hp}{s:Shared}{ρ:List Addr}
mutual
theorem reads_of(I:Inv X pins σ H s):∀ {d:D} {x:V} {u:Value} {p:PyData},At X.K ρ H d x→pyD d=some p→RelV x u→∃ as,Reads s.heap u p as
 | .non,_,_,_,a,e,r=>by cases a;cases e;cases r;exact⟨_,.none⟩
 | .bl b,_,_,_,a,e,r=>by cases a;cases e;cases r;exact⟨_,.bool b⟩
 | .int i,_,_,_,a,e,r=>by cases a;cases e;obtain⟨t,rfl⟩:=r;exact⟨_,.int i t⟩
 | .str i,_,_,_,a,e,r=>by cases a;cases e;obtain⟨t,rfl⟩:=r;exact⟨_,.str i t⟩
 | .tup xs,_,_,_,⟨a,vs,ex,h,as⟩,e,r=>by
  subst ex
  cases r
  obtain⟨ps,e1,rfl⟩:=Option.map_eq_some_iff.mp (show (pyDs xs).map PyData.tuple=some _ from e)
  obtain⟨its,rv,⟨o,ho,hc,n,hd⟩,_⟩:=I.tuple h.sq
  obtain⟨bs,q⟩:=readsAll_of I as e1 rv
  exact⟨_,.tuple ho hc hd (by simpa using q)⟩
 | .lst xs,_,_,_,⟨a,o,vs,ex,h,as⟩,e,r=>by
  subst ex
  cases r
  obtain⟨ps,e1,rfl⟩:=Option.map_eq_some_iff.mp (show (pyDs xs).map PyData.list=some _ from e)
  obtain⟨its,rv,⟨o,n,ho,hc,_,hd⟩,_⟩:=I.list (X:=X) (.inl (.inr ⟨o,h⟩))
  obtain⟨bs,q⟩:=readsAll_of I as e1 rv
  exact⟨_,.list ho hc hd (by simpa using q)⟩
 | .dct _ _,_,_,_,_,e,_=>nomatch e
 | .scr _,_,_,_,_,e,_=>nomatch e
 | .mref _,_,_,_,_,e,_=>nomatch e
theorem readsAll_of(I:Inv X pins σ H s):∀ {ds:List D} {xs:List V} {us:List Value} {ps:List PyData},Ats X.K ρ H ds xs→pyDs ds=some ps→Vals xs us→∃ as,ReadsAll s.heap us ps as
 | [],_,_,_,a,e,r=>by
  cases (show _=[] from a);cases e;cases r
  exact⟨_,.nil⟩
 | d::ds,_,_,_,⟨v,vr,ex,a,as⟩,e,r=>by
  subst ex
  obtain⟨p,e1,e⟩:=Option.bind_eq_some_iff.mp (show (pyD d).bind _=some _ from e)
  obtain⟨ps,e2,rfl⟩:=Option.map_eq_some_iff.mp e
  cases r with
  | cons r1 r2=>
   obtain⟨as1,q1⟩:=reads_of I a e1 r1
   obtain⟨as2,q2⟩:=readsAll_of I as e2 r2
   exact⟨_,.cons q1 q2⟩
end
end
section
variable{C:String→List D→Mem→Option (D×Mem)}{X:Cx}
def CmpS(K:PySem.W.Frag)(o:COp)(r:R2):Prop:=∀ (ρ:List Addr) (m:Mem) (H:Hp) (dx dy:D) (x y:V) (c:Bool) (Q:VK),MemAt K ρ m H→At K ρ H dx x→At K ρ H dy y→cmpD o dx dy=some c→Q (.bl c) H→r x y H Q
def CmpOk(X:Cx)(o:COp)(op:CmpOp):Prop:=∃ r,OpR X (compareOp op) r∧CmpS X.K o r
def rDeep(K:PySem.W.Frag)(neg:Bool):R2:=fun x y H Q=>∃ ρ dx dy px py,At K ρ H dx x∧At K ρ H dy y∧pyD dx=some px∧pyD dy=some py∧px.canLay0=true∧py.canLay0=true∧min px.depth py.depth≤60∧Q (.bl (if neg then !PyData.eqv px py else PyData.eqv px py)) H
theorem op_deep(hu:X.A.units+64<cLine):OpR X (compareOp .Eq) (rDeep X.K false):=by
 intro pins s σ H x y v u Q I rx ry h
 obtain⟨ρ,dx,dy,px,py,ax,ay,ex,ey,lx,ly,hd,q⟩:=h
 obtain⟨as,r1⟩:=reads_of I ax ex rx
 obtain⟨bs,r2⟩:=reads_of I ay ey ry
 exact SeqAt.eqOverData X.prog X.w X.A X.xe s v u px py as bs _ r1 r2 lx ly (by omega) ⟨.bl _,H,I,rfl,q⟩
theorem op_deepN(hu:X.A.units+64<cLine):OpR X (compareOp .NotEq) (rDeep X.K true):=by
 intro pins s σ H x y v u Q I rx ry h
 obtain⟨ρ,dx,dy,px,py,ax,ay,ex,ey,lx,ly,hd,q⟩:=h
 obtain⟨as,r1⟩:=reads_of I ax ex rx
 obtain⟨bs,r2⟩:=reads_of I ay ey ry
 exact SeqAt.neOverData X.prog X.w X.A X.xe s v u px py as bs _ r1 r2 lx ly (by omega) ⟨.bl _,H,I,rfl,q⟩
theorem deep_of{K:PySem.W.Frag}{ρ:List Addr}{H:Hp}{dx dy:D}{x y:V}{c:Bool}(neg:Bool){Q:VK}(ax:At K ρ H dx x)(ay:At K ρ H dy y)(e:eqDeep dx dy=some c)(q:Q (.bl (if neg then !c else c)) H):rDeep K neg x y H Q:=by
 unfold eqDeep at e
 obtain⟨px,e1,e⟩:=Option.bind_eq_some_iff.mp e
 obtain⟨py,e2,e⟩:=Option.bind_eq_some_iff.mp e
 split at e
 ·rename_i h
  have e':=Option.some.inj e
  rw[Bool.and_eq_true,Bool.and_eq_true,decide_eq_true_eq]at h
  exact⟨ρ,dx,dy,px,py,ax,ay,e1,e2,h.1.1,h.1.2,h.2,by rw[e'];exact q⟩
 ·cases e
theorem dec_vi{a b:Int}:decide (V.int a=V.int b)=decide (a=b):=by simp
theorem dec_vs{a b:Str}:decide (V.str a=V.str b)=decide (a=b):=by simp
theorem ck_eq(hu:X.A.units+64<cLine):CmpOk X .eq .Eq:=by
 refine⟨_,op_eq.or (op_deep hu),fun ρ m H dx dy x y c Q M ax ay e q=>?_⟩
 have e:eqD dx dy=some c:=e
 unfold eqD at e
 split at e
 ·cases ax;cases ay;cases e
  exact .inl ⟨rfl,by rw[dec_vi];exact q⟩
 ·cases ax;cases ay;cases e
  exact .inl ⟨rfl,by rw[dec_vs];exact q⟩
 ·exact .inr (deep_of false ax ay e q)
theorem ck_ne(hu:X.A.units+64<cLine):CmpOk X .ne .NotEq:=by
 refine⟨_,op_ne.or (op_deepN hu),fun ρ m H dx dy x y c Q M ax ay e q=>?_⟩
 obtain⟨k,e0,rfl⟩:=Option.map_eq_some_iff.mp (show (eqD dx dy).map (!·)=some c from e)
 clear e
 rename eqD dx dy=some k=>e
 unfold eqD at e
 split at e
 ·cases ax;cases ay;cases e
  exact .inl ⟨rfl,by rw[dec_vi];exact q⟩
 ·cases ax;cases ay;cases e
  exact .inl ⟨rfl,by rw[dec_vs];exact q⟩
 ·exact .inr (deep_of true ax ay e q)
theorem ck_int{o:COp}{op:CmpOp}{g:Int→Int→Bool}(h:OpR X (compareOp op) (rI0 fun i j=>.bl (g i j)))(hc:∀ dx dy c,cmpD o dx dy=some c→∃ i j,dx=.int i∧dy=.int j∧c=g i j):CmpOk X o op:=
 ⟨_,h,fun ρ m H dx dy x y c Q M ax ay e q=>by
  obtain⟨i,j,rfl,rfl,rfl⟩:=hc dx dy c e
  cases ax;cases ay
  exact⟨i,j,rfl,rfl,q⟩⟩
theorem ck_lt:CmpOk X .lt .Lt:=ck_int op_lt fun dx dy c e=>by
 cases dx with
 | int i=>
  cases dy with
  | int j=>
   cases (show some (decide (i<j))=some c from e)
   exact⟨_,_,rfl,rfl,rfl⟩
  | _=>cases (show (none:Option Bool)=some c from e)
 | _=>cases (show (none:Option Bool)=some c from e)
theorem ck_le:CmpOk X .le .LtE:=ck_int op_le fun dx dy c e=>by
 cases dx with
 | int i=>
  cases dy with
  | int j=>
   cases (show some (decide (i≤j))=some c from e)
   exact⟨_,_,rfl,rfl,rfl⟩
  | _=>cases (show (none:Option Bool)=some c from e)
 | _=>cases (show (none:Option Bool)=some c from e)
theorem ck_gt:CmpOk X .gt .Gt:=ck_int op_gt fun dx dy c e=>by
 cases dx with
 | int i=>
  cases dy with
  | int j=>
   cases (show some (decide (j<i))=some c from e)
   exact⟨_,_,rfl,rfl,rfl⟩
  | _=>cases (show (none:Option Bool)=some c from e)
 | _=>cases (show (none:Option Bool)=some c from e)
theorem ck_ge:CmpOk X .ge .GtE:=ck_int op_ge fun dx dy c e=>by
 cases dx with
 | int i=>
  cases dy with
  | int j=>
   cases (show some (decide (j≤i))=some c from e)
   exact⟨_,_,rfl,rfl,rfl⟩
  | _=>cases (show (none:Option Bool)=some c from e)
 | _=>cases (show (none:Option Bool)=some c from e)
theorem at_non{K:PySem.W.Frag}{ρ:List Addr}{H:Hp}{d:D}{x:V}(a:At K ρ H d x):decide (x=.non)=d.isNon:=by
 cases d with
 | non=>cases a;rfl
 | bl _=>cases a;rfl
 | int _=>cases a;rfl
 | str _=>cases a;rfl
 | tup _=>obtain⟨_,_,rfl,_⟩:=a;rfl
 | lst _=>obtain⟨_,_,_,rfl,_⟩:=a;rfl
 | dct _ _=>obtain⟨_,_,_,rfl,_⟩:=a;rfl
 | scr _=>obtain⟨_,rfl,_⟩:=a;rfl
 | mref _=>obtain⟨_,_,rfl⟩:=a;rfl
theorem at_bl{K:PySem.W.Frag}{ρ:List Addr}{H:Hp}{d:D}{x:V}{b:Bool}(a:At K ρ H d x):decide (x=.bl b)=d.isBl b:=by
 cases d with
 | non=>cases a;rfl
 | bl c=>cases a;cases b<;>cases c<;>rfl
 | int _=>cases a;rfl
 | str _=>cases a;rfl
 | tup _=>obtain⟨_,_,rfl,_⟩:=a;rfl
 | lst _=>obtain⟨_,_,_,rfl,_⟩:=a;rfl
 | dct _ _=>obtain⟨_,_,_,rfl,_⟩:=a;rfl
 | scr _=>obtain⟨_,rfl,_⟩:=a;rfl
 | mref _=>obtain⟨_,_,rfl⟩:=a;rfl
theorem op_isNB:OpR X (compareOp .Is) (fun x y H Q=>(y=.non∧Q (.bl (decide (x=.non))) H)∨∃ b,y=.bl b∧Q (.bl (decide (x=.bl b))) H):=by
 intro pins s σ H x y v u Q I rx ry h
 rcases h with h | h
 ·exact op_isN _ _ _ _ _ _ _ _ _ I rx ry h
 ·exact op_isB _ _ _ _ _ _ _ _ _ I rx ry h
theorem op_notNB:OpR X (compareOp .IsNot) (fun x y H Q=>(y=.non∧Q (.bl (!decide (x=.non))) H)∨∃ b,y=.bl b∧Q (.bl (!decide (x=.bl b))) H):=by
 intro pins s σ H x y v u Q I rx ry h
 rcases h with h | h
 ·exact op_notN _ _ _ _ _ _ _ _ _ I rx ry h
 ·exact op_notB _ _ _ _ _ _ _ _ _ I rx ry h
theorem ck_is:CmpOk X .is .Is:=by
 refine⟨_,op_isNB,fun ρ m H dx dy x y c Q M ax ay e q=>?_⟩
 cases dy with
 | non=>
  cases ay
  have e':dx.isNon=c:=Option.some.inj (show some _=some c from e)
  exact Or.inl ⟨rfl,by rw[at_non ax,e'];exact q⟩
 | bl b=>
  cases ay
  have e':dx.isBl b=c:=Option.some.inj (show some _=some c from e)
  exact Or.inr ⟨b,rfl,by rw[at_bl ax,e'];exact q⟩
 | _=>cases e
theorem ck_isnot:CmpOk X .isnot .IsNot:=by
 refine⟨_,op_notNB,fun ρ m H dx dy x y c Q M ax ay e q=>?_⟩
 cases dy with
 | non=>
  cases ay
  have e':(!dx.isNon)=c:=Option.some.inj (show some _=some c from e)
  exact Or.inl ⟨rfl,by rw[at_non ax,e'];exact q⟩
 | bl b=>
  cases ay
  have e':(!dx.isBl b)=c:=Option.some.inj (show some _=some c from e)
  exact Or.inr ⟨b,rfl,by rw[at_bl ax,e'];exact q⟩
 | _=>cases e
theorem flat_at{K:PySem.W.Frag}{ρ:List Addr}{H:Hp}{d:D}{x:V}(f:d.flat=true)(a:At K ρ H d x):flatV x=true∧∀ {d':D} {y:V},d'.flat=true→At K ρ H d' y→eqV y x=inD d [d']:=by
 cases d<;>cases f
 ·cases a
  refine⟨rfl,fun {d' y} f' a'=>?_⟩
  cases d'<;>cases f'<;>cases a'
  ·simp[eqV,inD,Bool.beq_eq_decide_eq,eq_comm]
  ·simp[eqV,inD]
 ·cases a
  refine⟨rfl,fun {d' y} f' a'=>?_⟩
  cases d'<;>cases f'<;>cases a'
  ·simp[eqV,inD]
  ·simp[eqV,inD,Bool.beq_eq_decide_eq,eq_comm]
theorem inD_cons(x y:D)(r:List D):inD x (y::r)=(inD x [y]||inD x r):=by simp[inD]
theorem flat_all{K:PySem.W.Frag}{ρ:List Addr}{H:Hp}{d:D}{x:V}(f:d.flat=true)(a:At K ρ H d x):∀ {ds:List D} {vs:List V},ds.all D.flat=true→Ats K ρ H ds vs→vs.all flatV=true∧inV x vs=inD d ds
 | [],_,_,as=>by cases (show _=[] from as);exact⟨rfl,rfl⟩
 | e::r,_,fs,⟨v,vr,ev,a1,as⟩=>by
  subst ev
  rw[List.all_cons,Bool.and_eq_true]at fs
  obtain⟨h1,h2⟩:=flat_all f a fs.2 as
  refine⟨by rw[List.all_cons,(flat_at fs.1 a1).1,h1];rfl,?_⟩
  rw[inD_cons,← h2,← (flat_at f a).2 fs.1 a1]
  rfl
theorem seq_in{K:PySem.W.Frag}{ρ:List Addr}{H:Hp}{dx dy:D}{x y:V}{c:Bool}(neg:Bool){Q:VK}{ds:List D}(hs:dy=.tup ds∨dy=.lst ds)(ax:At K ρ H dx x)(ay:At K ρ H dy y)(e:(if dx.flat&&ds.all D.flat then some (if neg then !inD dx ds else inD dx ds) else none)=some c)
  (q:Q (.bl c) H):rIn K neg x y H Q:=by
 split at e
 ·rename_i h
  rw[Bool.and_eq_true]at h
  have e':=Option.some.inj e
  rcases hs with rfl | rfl
  ·obtain⟨a,vs,rfl,ha,as⟩:=ay
   obtain⟨f2,i2⟩:=flat_all h.1 ax h.2 as
   exact⟨a,vs,rfl,.inr ha.sq,(flat_at h.1 ax).1,f2,by rw[i2,e'];exact q⟩
  ·obtain⟨a,o,vs,rfl,ha,as⟩:=ay
   obtain⟨f2,i2⟩:=flat_all h.1 ax h.2 as
   exact⟨a,vs,rfl,.inl (.inl (.inr ⟨o,ha⟩)),(flat_at h.1 ax).1,f2,by rw[i2,e'];exact q⟩
 ·cases e
theorem ck_in:CmpOk X .isin .In:=⟨_,op_in_seq,fun ρ m H dx dy x y c Q M ax ay e q=>by
 cases dy with
 | tup ds=>exact seq_in false (.inl rfl) ax ay e q
 | lst ds=>exact seq_in false (.inr rfl) ax ay e q
 | _=>cases e⟩
variable{a b c:Expr}{pa pb pc:Ex}{pos:Pos}{o o':COp}{op op':CmpOp}
theorem cmp_ok{r:R2}(hr:CmpS X.K o r){σ:L2.St}{H:Hp}{Q:VK}(h:tD C X.K (.cmp o pa pb) σ H Q):tOp r (tD C X.K pa) (tD C X.K pb) σ H Q:=by
 obtain⟨σd,m,ρ,d,m',S,M,e,q⟩:=h
 obtain⟨⟨x,m1⟩,e1,e⟩:=Option.bind_eq_some_iff.mp e
 obtain⟨⟨y,m2⟩,e2,e⟩:=Option.bind_eq_some_iff.mp e
 obtain⟨k,e3,e⟩:=Option.map_eq_some_iff.mp e
 cases e
 exact⟨σd,m,ρ,x,m1,S,M,e1,fun v H1 ρ1 g1 M1 A1=>⟨σd,m1,ρ1,y,m',S.mono M g1,M1,e2,fun w H2 ρ2 g2 M2 A2=>hr ρ2 m' H2 x y v w k Q M2 (A1.mono M1 g2) A2 e3 (q _ _ ρ2 (g1.trans g2) M2 rfl)⟩⟩
theorem sd_cmp(k:CmpOk X o op)(ha:PE X a (tD C X.K pa))(hb:PE X b (tD C X.K pb))(hm:behindInMarks op b=false:=by rfl):PE X (.Compare a [op] [b] pos) (tD C X.K (.cmp o pa pb)):=by
 obtain⟨r,h,hr⟩:=k
 exact(pe_cmpR h ha hb hm).imp fun σ H Q q=>cmp_ok hr q
theorem st_cmp(k:CmpOk X o op)(ha:PE X a (tD C X.K pa))(hb:PE X b (tD C X.K pb))(hm:behindInMarks op b=false:=by rfl):PT X (.Compare a [op] [b] pos) (tDT C X.K (.val (.cmp o pa pb))):=by
 obtain⟨r,h,hr⟩:=k
 refine(pt_cmpR h ha hb hm).imp fun σ H Q hq0=>?_
 obtain⟨σd,m,ρ,c,m',S,M,e,q⟩:=hq0
 refine cmp_ok hr ?_
 obtain⟨⟨x,m1⟩,e1,e⟩:=Option.bind_eq_some_iff.mp e
 obtain⟨k,e2,e⟩:=Option.map_eq_some_iff.mp e
 cases e
 have hx:∃ z,x=.bl z:=by
  obtain⟨_,_,e1⟩:=Option.bind_eq_some_iff.mp e1
  obtain⟨_,_,e1⟩:=Option.bind_eq_some_iff.mp e1
  obtain⟨z,_,e1⟩:=Option.map_eq_some_iff.mp e1
  cases e1
  exact⟨z,rfl⟩
 obtain⟨z,rfl⟩:=hx
 cases e2
 exact⟨σd,m,ρ,_,m',S,M,e1,fun v H1 ρ1 g1 M1 A1=>⟨_,A1,q H1 ρ1 g1 M1⟩⟩
theorem chain_ok{r r':R2}(hr:CmpS X.K o r)(hr':CmpS X.K o' r'){σ:L2.St}{H:Hp}{Q:VK}(h:tD C X.K (.chain o o' pa pb pc) σ H Q):tChain r r' (tD C X.K pa) (tD C X.K pb) (tD C X.K pc) σ H Q:=by
 obtain⟨σd,m,ρ,d,m',S,M,e,q⟩:=h
 obtain⟨⟨x,m1⟩,e1,e⟩:=Option.bind_eq_some_iff.mp e
 obtain⟨⟨y,m2⟩,e2,e⟩:=Option.bind_eq_some_iff.mp e
 obtain⟨k,e3,e⟩:=Option.bind_eq_some_iff.mp e
 refine⟨σd,m,ρ,x,m1,S,M,e1,fun v H1 ρ1 g1 M1 A1=>⟨σd,m1,ρ1,y,m2,S.mono M g1,M1,e2,fun w H2 ρ2 g2 M2 A2=>hr ρ2 m2 H2 x y v w k _ M2 (A1.mono M1 g2) A2 e3 ⟨k,rfl,?_⟩⟩⟩
 have S2:=(S.mono M g1).mono M1 g2
 cases k with
 | false=>
  try dsimp only at e
  rw[if_neg Bool.false_ne_true]at e ⊢
  cases e
  exact q _ _ ρ2 (g1.trans g2) M2 rfl
 | true=>
  try dsimp only at e
  rw[if_pos rfl]at e ⊢
  obtain⟨⟨z,m3⟩,e4,e⟩:=Option.bind_eq_some_iff.mp e
  obtain⟨k',e5,e⟩:=Option.map_eq_some_iff.mp e
  cases e
  exact⟨σd,m2,ρ2,z,m3,S2,M2,e4,fun u H3 ρ3 g3 M3 A3=>hr' ρ3 m3 H3 y z w u k' Q M3 (A2.mono M2 g3) A3 e5 (q _ _ ρ3 (g1.trans (g2.trans g3)) M3 rfl)⟩
theorem sd_chain(k:CmpOk X o op)(k':CmpOk X o' op')(ha:PE X a (tD C X.K pa))(hb:PE X b (tD C X.K pb))(hc:PE X c (tD C X.K pc))(hm:lastMarks [op,op'] [b,c]=false:=by with_unfolding_all rfl):PE X (.Compare a [op,op'] [b,c] pos) (tD C X.K (.chain o o' pa pb pc)):=by
 obtain⟨r,h,hr⟩:=k
 obtain⟨r',h',hr'⟩:=k'
 exact(pe_chain h h' ha hb hc hm).imp fun σ H Q q=>chain_ok hr hr' q
theorem st_chain(k:CmpOk X o op)(k':CmpOk X o' op')(ha:PE X a (tD C X.K pa))(hb:PE X b (tD C X.K pb))(hc:PE X c (tD C X.K pc))(hm:lastMarks [op,op'] [b,c]=false:=by with_unfolding_all rfl):PT X (.Compare a [op,op'] [b,c] pos) (tDT C X.K (.val (.chain o o' pa pb pc))):=by
 obtain⟨r,h,hr⟩:=k
 obtain⟨r',h',hr'⟩:=k'
 refine(pt_chain h h' ha hb hc hm).imp fun σ H Q hq0=>?_
 obtain⟨σd,m,ρ,c,m',S,M,e,q⟩:=hq0
 refine chain_ok hr hr' ?_
 obtain⟨⟨x,m1⟩,e1,e⟩:=Option.bind_eq_some_iff.mp e
 obtain⟨k,e2,e⟩:=Option.map_eq_some_iff.mp e
 cases e
 have hx:∃ z,x=.bl z:=by
  obtain⟨_,_,e1⟩:=Option.bind_eq_some_iff.mp e1
  obtain⟨_,_,e1⟩:=Option.bind_eq_some_iff.mp e1
  obtain⟨z,_,e1⟩:=Option.bind_eq_some_iff.mp e1
  split at e1
  ·obtain⟨_,_,e1⟩:=Option.bind_eq_some_iff.mp e1
   obtain⟨z,_,e1⟩:=Option.map_eq_some_iff.mp e1
   cases e1
   exact⟨z,rfl⟩
  ·cases e1;exact⟨_,rfl⟩
 obtain⟨z,rfl⟩:=hx
 cases e2
 exact⟨σd,m,ρ,_,m',S,M,e1,fun v H1 ρ1 g1 M1 A1=>⟨_,A1,q H1 ρ1 g1 M1⟩⟩
theorem tru_at{K:PySem.W.Frag}{ρ:List Addr}{m:Mem}{H:Hp}{d:D}{x:V}{c:Bool}(M:MemAt K ρ m H)(A:At K ρ H d x)(e:truD d m=some c):TruV K x H c:=by
 cases d with
 | non=>cases A;cases e;rfl
 | bl b=>cases A;cases e;rfl
 | int i=>cases A;cases e;rfl
 | str x=>cases e
 | dct _ _=>cases e
 | tup xs=>
  obtain⟨a,vs,rfl,h,as⟩:=A
  cases e
  refine .inr (.inl ⟨vs,h.sq,?_⟩)
  have:=as.len
  cases xs<;>cases vs<;>simp_all
 | lst xs=>
  obtain⟨a,o,vs,rfl,h,as⟩:=A
  cases e
  refine .inl ⟨vs,.inl (.inr ⟨o,h⟩),?_⟩
  have:=as.len
  cases xs<;>cases vs<;>simp_all
 | scr ns=>
  obtain⟨a,rfl,h⟩:=A
  cases e
  refine .inl ⟨_,h.sq,?_⟩
  cases ns<;>rfl
 | mref i=>
  obtain⟨a,hi,rfl⟩:=A
  have e:(match m[i]? with | some (.lst xs)=>some (!xs.isEmpty) | some (.dct ks _)=>some (!ks.isEmpty) | _=>none)=some c:=e
  split at e
  ·rename_i xs hm
   cases e
   obtain⟨vs,hv,as⟩:=M.at' i a _ hi hm
   refine .inl ⟨vs,.of hv,?_⟩
   have:=as.len
   cases xs<;>cases vs<;>simp_all
  ·rename_i ks us hm
   cases e
   obtain⟨kvs,hv,hk,as⟩:=M.at' i a _ hi hm
   refine .inr (.inr ⟨kvs,hv,?_⟩)
   subst hk
   cases kvs<;>rfl
  ·cases e
theorem st_val(ha:PE X a (tD C X.K pa))(he:∀ whole,isTrue a X.env whole=(do let v ← whole;standAt a.pos;holding [v] (truthy v)):=by intro _;rfl):PT X a (tDT C X.K (.val pa)):=
 (pt_truth ha he).imp fun σ H Q hq0=>by
 obtain⟨σd,m,ρ,c,m',S,M,e,q⟩:=hq0
 obtain⟨⟨x,m1⟩,e1,e⟩:=Option.bind_eq_some_iff.mp e
 obtain⟨k,e2,e⟩:=Option.map_eq_some_iff.mp e
 cases e
 exact⟨σd,m,ρ,x,m',S,M,e1,fun v H1 ρ1 g1 M1 A1=>⟨_,tru_at M1 A1 e2,q H1 ρ1 g1 M1⟩⟩
variable{ta tb:Te}{rest:List Expr}
theorem st_not(ha:PT X a (tDT C X.K ta)):PT X (.UnaryOp .Not a pos) (tDT C X.K (.not ta)):=(pt_not ha).imp fun σ H Q hq0=>by
 obtain⟨σd,m,ρ,c,m',S,M,e,q⟩:=hq0
 obtain⟨⟨k,m1⟩,e1,e⟩:=Option.map_eq_some_iff.mp e
 cases e
 exact⟨σd,m,ρ,k,m',S,M,e1,q⟩
theorem sw_and1(ha:PT X a (tDT C X.K ta)):PW X (.BoolOp .And [a] pos) (tDT C X.K ta):=pw_and1 ha
theorem sw_or1(ha:PT X a (tDT C X.K ta)):PW X (.BoolOp .Or [a] pos) (tDT C X.K ta):=pw_or1 ha
theorem sw_and(ha:PT X a (tDT C X.K ta))(hb:PW X (.BoolOp .And (b::rest) pos) (tDT C X.K tb)):PW X (.BoolOp .And (a::b::rest) pos) (tDT C X.K (.and ta tb)):=(pw_and ha hb).imp fun σ H Q hq0=>by
 obtain⟨σd,m,ρ,c,m',S,M,e,q⟩:=hq0
 obtain⟨⟨k,m1⟩,e1,e⟩:=Option.bind_eq_some_iff.mp e
 refine⟨σd,m,ρ,k,m1,S,M,e1,fun H1 ρ1 g1 M1=>?_⟩
 cases k with
 | false=>
  try dsimp only at e
  rw[if_neg Bool.false_ne_true]at e ⊢
  cases e
  exact q H1 ρ1 g1 M1
 | true=>
  try dsimp only at e
  rw[if_pos rfl]at e ⊢
  exact⟨σd,m1,ρ1,c,m',S.mono M g1,M1,e,fun H2 ρ2 g2 M2=>q H2 ρ2 (g1.trans g2) M2⟩
theorem sw_or(ha:PT X a (tDT C X.K ta))(hb:PW X (.BoolOp .Or (b::rest) pos) (tDT C X.K tb)):PW X (.BoolOp .Or (a::b::rest) pos) (tDT C X.K (.or ta tb)):=(pw_or ha hb).imp fun σ H Q hq0=>by
 obtain⟨σd,m,ρ,c,m',S,M,e,q⟩:=hq0
 obtain⟨⟨k,m1⟩,e1,e⟩:=Option.bind_eq_some_iff.mp e
 refine⟨σd,m,ρ,k,m1,S,M,e1,fun H1 ρ1 g1 M1=>?_⟩
 cases k with
 | true=>
  try dsimp only at e
  rw[if_pos rfl]at e ⊢
  cases e
  exact q H1 ρ1 g1 M1
 | false=>
  try dsimp only at e
  rw[if_neg Bool.false_ne_true]at e ⊢
  exact⟨σd,m1,ρ1,c,m',S.mono M g1,M1,e,fun H2 ρ2 g2 M2=>q H2 ρ2 (g1.trans g2) M2⟩
theorem sd_last{bop:BoolOp}(ha:PE X a (tD C X.K pa)):PE X (.BoolOp bop [a] pos) (tD C X.K pa):=pe_one ha
theorem sd_and(ha:PE X a (tD C X.K pa))(hb:PE X (.BoolOp .And (b::rest) pos) (tD C X.K pb)):PE X (.BoolOp .And (a::b::rest) pos) (tD C X.K (.andv pa pb)):=(pe_and ha hb).imp fun σ H Q hq0=>by
 obtain⟨σd,m,ρ,d,m',S,M,e,q⟩:=hq0
 obtain⟨⟨x,m1⟩,e1,e⟩:=Option.bind_eq_some_iff.mp e
 refine⟨σd,m,ρ,x,m1,S,M,e1,fun v H1 ρ1 g1 M1 A1=>?_⟩
 cases x with
 | bl k=>
  cases A1
  refine⟨k,rfl,?_⟩
  cases k with
  | false=>
   rw[if_neg Bool.false_ne_true]
   cases e
   exact q _ H1 ρ1 g1 M1 rfl
  | true=>
   rw[if_pos rfl]
   exact⟨σd,m1,ρ1,d,m',S.mono M g1,M1,e,q.go g1⟩
 | _=>cases e
theorem sd_not(ha:PE X a (tD C X.K pa)):PE X (.UnaryOp .Not a pos) (tD C X.K (.notv pa)):=(pe_not ha).imp fun σ H Q hq0=>by
 obtain⟨σd,m,ρ,d,m',S,M,e,q⟩:=hq0
 obtain⟨⟨x,m1⟩,e1,e⟩:=Option.bind_eq_some_iff.mp e
 refine⟨σd,m,ρ,x,m1,S,M,e1,fun v H1 ρ1 g1 M1 A1=>?_⟩
 cases x with
 | bl k=>
  cases A1
  cases e
  exact⟨k,rfl,q _ H1 ρ1 g1 M1 rfl⟩
 | _=>cases e
end
end WL
end
section
namespace WL
open PySem PySem.Spec PyProof.Rows L2
section
variable{K:PySem.W.Frag}{ρ:List Addr}{H:Hp}
def KAt(K:PySem.W.Frag)(ρ:List Addr)(H:Hp)(ks:List Key)(ds:List D)(kvs:List (Key×V)):Prop:=kvs.map (·.1)=ks∧Ats K ρ H ds (kvs.map (·.2))
theorem KAt.rep{k:Key}{d:D}{v:V}(a:At K ρ H d v):∀ {kvs:List (Key×V)} {ks:List Key} {ds:List D},KAt K ρ H ks ds kvs→KAt K ρ H ks (repD ks ds k d) (kvs.map fun kv=>if kv.1=k then (kv.1,v) else kv)
 | [],_,ds,⟨e,b⟩=>by
  subst e
  refine⟨rfl,?_⟩
  simp[repD,Ats]
 | p::r,_,ds,⟨e,b⟩=>by
  subst e
  cases ds with
  | nil=>exact absurd (show List.map (·.2) (p::r)=[] from b) (by simp)
  | cons x ds=>
   obtain⟨w,vr,e,a1,a2⟩:=b
   simp only[List.map_cons,List.cons.injEq]at e
   obtain⟨rfl,rfl⟩:=e
   obtain⟨h1,h2⟩:=KAt.rep a (kvs:=r) (ds:=ds) ⟨rfl,a2⟩
   refine⟨?_,?_⟩
   ·simp only[List.map_cons]
    rw[h1]
    congr 1
    split<;>rfl
   ·simp only[List.map_cons,repD]
    refine⟨_,_,rfl,?_,h2⟩
    by_cases hk:p.1=k
    ·simp only[if_pos hk];exact a
    ·simp only[if_neg hk];exact a1
theorem KAt.put{k:Key}{d:D}{v:V}(a:At K ρ H d v){kvs:List (Key×V)}{ks:List Key}{ds:List D}(h:KAt K ρ H ks ds kvs):KAt K ρ H (putD ks ds k d).1 (putD ks ds k d).2 (putK kvs k v):=by
 have e:(ks.any fun x=>decide (x=k))=kvs.any fun kv=>decide (kv.1=k):=by rw[← h.1,List.any_map];rfl
 unfold putD putK
 rw[e]
 split
 ·exact h.rep a
 ·exact⟨by rw[List.map_append,h.1];rfl,by rw[List.map_append];exact h.2.snoc a⟩
theorem KAt.mono'{H':Hp}{ρ':List Addr}(hf:FzSub H H')(hr:RSub ρ ρ'){ks:List Key}{ds:List D}{kvs:List (Key×V)}(h:KAt K ρ H ks ds kvs):KAt K ρ' H' ks ds kvs:=⟨h.1,h.2.mono' hf hr⟩
theorem dct_rd{m:Mem}(M:MemAt K ρ m H){d:D}{x:V}{ks:List Key}{ds:List D}(a:At K ρ H d x)(e:dctOf d m=some (ks,ds)):∃ p kvs,x=.ref p∧Rd H p (.dK kvs)∧KAt K ρ H ks ds kvs:=by
 cases d with
 | dct ks' vs=>
  cases e
  obtain⟨p,o,kvs,rfl,h,hk,as⟩:=a
  exact⟨p,kvs,rfl,.inr ⟨o,h⟩,hk,as⟩
 | mref i=>
  obtain⟨p,hi,rfl⟩:=a
  have e:(match m[i]? with | some (.dct ks vs)=>some (ks,vs) | _=>none)=some (ks,ds):=e
  split at e
  ·rename_i hm
   cases e
   obtain⟨kvs,h,hk,as⟩:=M.at' i p _ hi hm
   exact⟨p,kvs,rfl,.inl h,hk,as.mono' (fun _ _ _ z=>z) (.take ρ i)⟩
  ·cases e
 | _=>cases e
theorem lst_rd{m:Mem}(M:MemAt K ρ m H){d:D}{x:V}{ds:List D}(a:At K ρ H d x)(e:lstOf d m=some ds):∃ p vs,x=.ref p∧SqL K H p vs∧Ats K ρ H ds vs:=by
 cases d with
 | lst xs=>
  cases e
  obtain⟨p,o,vs,rfl,h,as⟩:=a
  exact⟨p,vs,rfl,.inl (.inr ⟨o,h⟩),as⟩
 | scr ns=>
  cases e
  obtain⟨p,rfl,h⟩:=a
  exact⟨p,_,rfl,h.sq,.ints ns⟩
 | mref i=>
  obtain⟨p,hi,rfl⟩:=a
  have e:(match m[i]? with | some (.lst xs)=>some xs | _=>none)=some ds:=e
  split at e
  ·rename_i hm
   cases e
   obtain⟨vs,h,as⟩:=M.at' i p _ hi hm
   exact⟨p,vs,rfl,.of h,as.mono' (fun _ _ _ z=>z) (.take ρ i)⟩
  ·cases e
 | _=>cases e
theorem seq_rd{m:Mem}(M:MemAt K ρ m H){d:D}{x:V}{ds:List D}(a:At K ρ H d x)(e:seqOf d m=some ds):∃ p vs,x=.ref p∧(SqL K H p vs∨SqT K H p vs)∧Ats K ρ H ds vs:=by
 cases d with
 | tup xs=>
  cases e
  obtain⟨p,vs,rfl,h,as⟩:=a
  exact⟨p,vs,rfl,.inr h.sq,as⟩
 | lst xs=>obtain⟨p,vs,e,h,as⟩:=lst_rd M a (show lstOf (.lst xs) m=some ds from e);exact⟨p,vs,e,.inl h,as⟩
 | scr xs=>obtain⟨p,vs,e,h,as⟩:=lst_rd M a (show lstOf (.scr xs) m=some ds from e);exact⟨p,vs,e,.inl h,as⟩
 | mref xs=>obtain⟨p,vs,e,h,as⟩:=lst_rd M a (show lstOf (.mref xs) m=some ds from e);exact⟨p,vs,e,.inl h,as⟩
 | _=>cases e
theorem Ats.atI{ds:List D}{vs:List V}{i:Int}{d:D}(h:Ats K ρ H ds vs)(e:atI ds i=some d):∃ v,L2.atI vs i=some v∧At K ρ H d v:=by
 unfold L2.atI at e ⊢
 obtain⟨j,e1,e2⟩:=Option.bind_eq_some_iff.mp e
 obtain⟨v,e3,a⟩:=h.get e2
 exact⟨v,by rw[h.len,e1];exact e3,a⟩
end
section
variable{C:String→List D→Mem→Option (D×Mem)}{X:Cx}{a b c:Expr}{pa pb pc:Ex}{pos:Pos}{es:List Expr}{ps:Exs}
def tTupF(t:TA):TE:=fun σ H Q=>t σ H fun xs H1=>xs.length≤sizeLine∧∀ p o,H1 p=none→o.cls=.type "tuple"→o.dict=none→Q (.ref p) (upd H1 p (.frz o (.tup xs)))
theorem pe_tupF{x1}{t:TA}(h:PA X es t):PE X (.Tuple es x1 pos) (tTupF t):=by
 intro pins s σ H Q I hq
 refine wpAny_Tuple_spliced (thn (h pos pins s σ H _ I hq) fun us s1 ⟨xs,H1,I1,r,z,q⟩=>⟨by rw[← r.length];exact z,?_⟩)
 have hf:H1 s1.heap.objs.size=none:=I1.hok.fresh (Nat.le_refl _)
 refine⟨.ref s1.heap.objs.size,upd H1 s1.heap.objs.size (.frz { cls:=.type "tuple",data:=.seq us.toArray } (.tup xs)),I1.laid (t':=s1.toks) (fun b u e=>Heap.get?_push_of_some _ e) (Nat.le_refl _) ?_,rfl,q _ _ hf rfl rfl⟩
 exact⟨Heap.get?_push_size _ rfl,z,us,r,⟨_,Heap.get?_push_size _ rfl,rfl,_,rfl⟩⟩
theorem sd_tup{x1}(h:PA X es (tDs C X.K ps)):PE X (.Tuple es x1 pos) (tD C X.K (.tup ps)):=(pe_tupF h).imp fun σ H Q hq0=>by
 obtain⟨σd,m,ρ,d,m',S,M,e,q⟩:=hq0
 obtain⟨⟨xs,m1⟩,e1,e⟩:=Option.bind_eq_some_iff.mp e
 dsimp only at e
 split at e
 ·rename_i hl
  cases e
  exact⟨σd,m,ρ,xs,m',S,M,e1,fun vs H1 ρ1 g1 M1 A1=>⟨big_line (by rw[A1.len];omega),fun p o hp hc hd=>(q.go g1).tup M1 A1 hp hc hd⟩⟩
 ·cases e
theorem sd_lst{mu:Bool}(h:PA X es (tDs C X.K ps)):PE X (.List es pos) (tD C X.K (.lst mu ps)):=(pe_lst h).imf fun σ H Q hq0=>by
 obtain⟨σd,m,ρ,d,m',S,M,e,q⟩:=hq0
 obtain⟨⟨xs,m1⟩,e1,e⟩:=Option.bind_eq_some_iff.mp e
 dsimp only at e
 split at e
 ·rename_i hl
  have e':=Option.some.inj e
  have q':Beh X.K ρ H (mkL mu xs m1).1 (mkL mu xs m1).2 Q:=by rw[e'];exact q
  exact⟨σd,m,ρ,xs,m1,S,M,e1,fun vs H1 ρ1 g1 M1 A1=>⟨big_line (by rw[A1.len];omega),fun p hp=>(q'.go g1).lst M1 A1 hp⟩⟩
 ·cases e
theorem snd_ix:Snd2 X.K (fun x y m=>(ixD x y m).map fun d=>(d,m)) (rIx X.K):=by
 intro ρ m m' H dx dy d x y Q M ax ay e q
 obtain⟨d',e0,e'⟩:=Option.map_eq_some_iff.mp e
 clear e
 cases e'
 rename ixD dx dy m=some d=>e
 cases dy with
 | int i=>
  cases ay
  cases dx with
  | tup xs=>
   obtain⟨p,vs,rfl,h,as⟩:=ax
   obtain⟨v,e1,a1⟩:=as.atI (show atI xs i=some d from e)
   exact .inr (.inl ⟨p,vs,i,v,rfl,rfl,h.sq,e1,.of (q.here M a1)⟩)
  | lst xs=>
   obtain⟨p,vs,rfl,h,as⟩:=lst_rd M ax (show lstOf (.lst xs) m=some xs from rfl)
   obtain⟨v,e1,a1⟩:=as.atI (show atI xs i=some d from e)
   exact .inl ⟨p,vs,i,v,rfl,rfl,h,e1,.of (q.here M a1)⟩
  | scr ns=>
   obtain⟨p,vs,rfl,h,as⟩:=lst_rd M ax (show lstOf (.scr ns) m=some (ns.map .int) from rfl)
   obtain⟨n,e0,e0'⟩:=Option.map_eq_some_iff.mp (show (atI ns i).map D.int=some d from e)
   subst e0'
   have e2:atI (ns.map D.int) i=some (.int n):=by
    unfold atI at e0 ⊢
    obtain⟨j,e3,e4⟩:=Option.bind_eq_some_iff.mp e0
    rw[List.length_map,e3]
    show (ns.map D.int)[j]?=_
    rw[List.getElem?_map,e4];rfl
   obtain⟨v,e1,a1⟩:=as.atI e2
   exact .inl ⟨p,vs,i,v,rfl,rfl,h,e1,.of (q.here M a1)⟩
  | str z=>
   cases ax
   have e:(if z.length≤1000 then (atI z.cps.toList i).map fun c=>D.str ⟨#[c]⟩ else none)=some d:=e
   split at e
   ·rename_i hl
    obtain⟨c,e0,e0'⟩:=Option.map_eq_some_iff.mp e
    subst e0'
    exact .inr (.inr ⟨z,i,c,rfl,rfl,big_line (by omega),e0,.of (q.here M rfl)⟩)
   ·cases e
  | mref r=>
   have e:(match m[r]? with | some (.lst xs)=>atI xs i | _=>none)=some d:=e
   split at e
   ·rename_i xs hm
    obtain⟨p,vs,rfl,h,as⟩:=lst_rd M ax (show lstOf (.mref r) m=some xs by show (match m[r]? with | some (.lst xs)=>some xs | _=>none)=some xs;rw[hm])
    obtain⟨v,e1,a1⟩:=as.atI e
    exact .inl ⟨p,vs,i,v,rfl,rfl,h,e1,.of (q.here M a1)⟩
   ·cases e
  | _=>cases e
 | _=>cases dx<;>cases e
theorem sd_ix(ha:PE X a (tD C X.K pa))(hb:PE X b (tD C X.K pb))(hs:PlainIx b:=by intro _ _;rfl):PE X (.Subscript a b pos) (tD C X.K (.ix pa pb)):=sd_two (pe_ix ix_seq ha hb hs) snd_ix fun _ _=>rfl
def rSlF(K:PySem.W.Frag):V→Option Int→Option Int→Hp→VK→Prop:=fun x lo hi H Q=>∃ a xs,x=.ref a∧FzT K H a xs∧
 ((HT.sIx xs.length 0 lo=0∧HT.sIx xs.length xs.length hi=xs.length)→Q (.ref a) H)∧(¬ (HT.sIx xs.length 0 lo=0∧HT.sIx xs.length xs.length hi=xs.length)→∀ p o,H p=none→o.cls=.type "tuple"→o.dict=none→Q (.ref p) (upd H p (.frz o (.tup (cutV xs lo hi)))))
end
end WL
end
section
namespace WL
open PySem PySem.Spec PyProof.Rows L2
section
variable{C:String→List D→Mem→Option (D×Mem)}{X:Cx}{a b c:Expr}{pa pb pc:Ex}{p pos:Pos}{es:List Expr}{ps:Exs}{x:Str}{id:String}
def SndB(X:Cx)(k:B1)(r:List V→Hp→VK→Prop):Prop:=Snd1 X.K (b1D k) (fun x H Q=>r [x] H Q)
theorem sd_b1{k:B1}{r:List V→Hp→VK→Prop}(hc:CallR X (.builtin id) r)(hs:SndB X k r)(hv:bootBuiltins x=some (.builtin id))(hg:Gl X x)(hm:X.mg x=none)(ha:PE X a (tD C X.K pa))(hn:x≠"__name__":=by decide)(hdb:(x==("__debug__" : Str))=false:=by decide)
  (he:starEach [a] X.env=[(false,eval a X.env)]:=by rfl):PE X (.Call (.Name x p) [a] [] pos) (tD C X.K (.b1 k pa)):=
 sd_one (r:=fun x H Q=>r [x] H Q) (pe_callB hc hg hm hv (pa_cons ha pa_nil he) hn hdb he rfl) hs fun _ _=>rfl
theorem sd_t1{k:B1}{r:List V→Hp→VK→Prop}(hc:CallR X (.type id) r)(hs:SndB X k r)(hv:bootBuiltins x=some (.type id))(hg:Gl X x)(hm:X.mg x=none)(ha:PE X a (tD C X.K pa))(hn:x≠"__name__":=by decide)(hdb:(x==("__debug__" : Str))=false:=by decide)
  (he:starEach [a] X.env=[(false,eval a X.env)]:=by rfl):PE X (.Call (.Name x p) [a] [] pos) (tD C X.K (.b1 k pa)):=
 sd_one (r:=fun x H Q=>r [x] H Q) (pe_callTy hc hg hm hv (pa_cons ha pa_nil he) hn hdb he rfl) hs fun _ _=>rfl
theorem at_len{K:PySem.W.Frag}{ρ:List Addr}{H:Hp}{ks:List Key}{ds:List D}{kvs:List (Key×V)}(h:KAt K ρ H ks ds kvs):ks.length=kvs.length:=by rw[← h.1,List.length_map]
def rLen(K:PySem.W.Frag):List V→Hp→VK→Prop:=fun xs H Q=>(∃ x n,xs=[x]∧LenV K x H n∧Q (.int n) H)∨∃ a kvs,xs=[V.ref a]∧Rd H a (.dK kvs)∧Q (.int kvs.length) H
theorem call_lenU:CallR X (.builtin "len") (rLen X.K):=by
 refine call_len.or ?_
 intro pins s σ H xs us Q I r h
 obtain⟨a,kvs,rfl,ha,q⟩:=h
 obtain⟨u,rfl,ru⟩:=vals1 r
 cases ru
 exact d_len I ha fun t s' I'=>⟨.int kvs.length,H,I',⟨t,rfl⟩,q⟩
theorem snd_len:SndB X .len (rLen X.K):=by
 intro ρ m m' H dx d x Q M ax e q
 have gen:∀ {dx:D},At X.K ρ H dx x→(match seqOf dx m,dctOf dx m with
  | some xs,_=>some (D.int xs.length,m)
  | none,some (ks,_)=>some (.int ks.length,m)
  | none,none=>none)=some (d,m')→rLen X.K [x] H (Fz Q):=fun {dx} ax e=>by
  split at e
  ·rename_i xs hs
   cases e
   obtain⟨p,vs,rfl,h,as⟩:=seq_rd M ax hs
   refine .inl ⟨_,vs.length,rfl,?_,.of (q.here M (by rw[as.len];rfl))⟩
   rcases h with h | h
   ·exact .inl ⟨vs,h,rfl⟩
   ·exact .inr ⟨vs,h,rfl⟩
  ·rename_i ks ds _ hs
   cases e
   obtain⟨p,kvs,rfl,h,ka⟩:=dct_rd M ax hs
   exact .inr ⟨p,kvs,rfl,h,.of (q.here M (by rw[at_len ka];rfl))⟩
  ·cases e
 cases dx with
 | str z=>
  cases ax
  have e:(if z.length≤1000 then some (D.int z.length,m) else none)=some (d,m'):=e
  split at e
  ·rename_i hl
   cases e
   exact .inl ⟨_,z.length,rfl,⟨big_line (by omega),rfl⟩,.of (q.here M rfl)⟩
  ·cases e
 | _=>exact gen ax e
theorem sd_len(hg:Gl X "len")(hm:X.mg "len" = none)(ha:PE X a (tD C X.K pa))(he:starEach [a] X.env=[(false,eval a X.env)]:=by rfl):PE X (.Call (.Name "len" p) [a] [] pos) (tD C X.K (.b1 .len pa)):=sd_b1 call_lenU snd_len PySem.boot_len hg hm ha (by decide) (by decide) he
theorem snd_list{mu:Bool}:SndB X (.list mu) (fun xs H Q=>∃ p ys,xs=[.ref p]∧(SqL X.K H p ys∨SqT X.K H p ys)∧∀ l,H l=none→Q (.ref l) (upd H l (.lst ys))):=by
 intro ρ m m' H dx d x Q M ax e q
 obtain⟨xs,e1,e⟩:=Option.map_eq_some_iff.mp (show (seqOf dx m).map (fun xs=>mkL mu xs m)=some (d,m') from e)
 obtain⟨p,vs,rfl,h,as⟩:=seq_rd M ax e1
 have q':Beh X.K ρ H (mkL mu xs m).1 (mkL mu xs m).2 Q:=by rw[e];exact q
 exact⟨p,vs,rfl,h,fun l hl=>q'.lst M as hl⟩
theorem sd_list{mu:Bool}(hg:Gl X "list")(hm:X.mg "list" = none)(ha:PE X a (tD C X.K pa))(he:starEach [a] X.env=[(false,eval a X.env)]:=by rfl):PE X (.Call (.Name "list" p) [a] [] pos) (tD C X.K (.b1 (.list mu) pa)):=sd_t1 call_list_of snd_list PyProof.Rows.boot_list hg hm ha (by decide) (by decide) he
def rTuple(K:PySem.W.Frag):List V→Hp→VK→Prop:=fun xs H Q=>(∃ p ys,xs=[.ref p]∧SqL K H p ys∧∀ l o,H l=none→o.cls=.type "tuple"→o.dict=none→Q (.ref l) (upd H l (.frz o (.tup ys))))∨∃ a ys,xs=[.ref a]∧SqT K H a ys∧Q (.ref a) H
theorem call_tupleU:CallR X (.type "tuple") (rTuple X.K):=call_tupleF.or call_tupleT
theorem snd_tuple:SndB X .tuple (rTuple X.K):=by
 intro ρ m m' H dx d x Q M ax e q
 have gen:∀ {dx:D},At X.K ρ H dx x→((lstOf dx m).map fun xs=>(D.tup xs,m))=some (d,m')→rTuple X.K [x] H (Fz Q):=fun {dx} ax e=>by
  obtain⟨xs,e1,e⟩:=Option.map_eq_some_iff.mp e
  cases e
  obtain⟨p,vs,rfl,h,as⟩:=lst_rd M ax e1
  exact .inl ⟨p,vs,rfl,h,fun l o hl hc hd=>.of (q.tup M as hl hc hd)⟩
 cases dx with
 | tup xs=>
  cases e
  obtain⟨p,vs,rfl,h,as⟩:=ax
  exact .inr ⟨p,vs,rfl,h.sq,.of (q.here M ⟨p,vs,rfl,h,as⟩)⟩
 | _=>exact gen ax e
theorem sd_tuple(hg:Gl X "tuple")(hm:X.mg "tuple" = none)(ha:PE X a (tD C X.K pa))(he:starEach [a] X.env=[(false,eval a X.env)]:=by rfl):PE X (.Call (.Name "tuple" p) [a] [] pos) (tD C X.K (.b1 .tuple pa)):=sd_t1 call_tupleU snd_tuple PyProof.Rows.boot_tuple hg hm ha (by decide) (by decide) he
theorem snd_int:SndB X .int (fun xs H Q=>(∃ i,xs=[.int i]∧Q (.int i) H)∨∃ k,xs=[.bl k]∧Q (.int (if k then 1 else 0)) H):=by
 intro ρ m m' H dx d x Q M ax e q
 cases dx with
 | int i=>cases e;cases ax;exact .inl ⟨i,rfl,.of (q.here M rfl)⟩
 | bl k=>cases e;cases ax;exact .inr ⟨k,rfl,.of (q.here M (by cases k<;>rfl))⟩
 | _=>cases e
theorem sd_int1(hg:Gl X "int")(hm:X.mg "int" = none)(ha:PE X a (tD C X.K pa))(he:starEach [a] X.env=[(false,eval a X.env)]:=by rfl):PE X (.Call (.Name "int" p) [a] [] pos) (tD C X.K (.b1 .int pa)):=sd_t1 call_int1 snd_int PyProof.Rows.boot_int hg hm ha (by decide) (by decide) he
theorem ats_ints{K:PySem.W.Frag}{ρ:List Addr}{H:Hp}:∀ {ds:List D} {vs:List V} {ns:List Int},intsOf ds=some ns→Ats K ρ H ds vs→vs=ns.map V.int∧ds.length=ns.length
 | [],_,_,e,a=>by cases e;cases (show _=[] from a);exact⟨rfl,rfl⟩
 | d::r,_,_,e,⟨v,vr,ev,a1,as⟩=>by
  subst ev
  cases d with
  | int i=>
   obtain⟨ns',e1,rfl⟩:=Option.map_eq_some_iff.mp (show (intsOf r).map (i::·)=some _ from e)
   cases a1
   obtain⟨h1,h2⟩:=ats_ints e1 as
   exact⟨by rw[h1];rfl,by simp[h2]⟩
  | _=>cases e
theorem maxL_is{ns:List Int}{x:Int}(h:maxL ns=some x){y:Int}(hy:y∈ns)(hm:∀ a∈ns,a≤y):y=x:=by
 have fold:∀ (r:List Int) (a:Int),(r.foldl (fun x y=>if y > x then y else x) a∈a::r)∧∀ z∈a::r,z≤r.foldl (fun x y=>if y > x then y else x) a:=by
  intro r
  induction r with
  | nil=>intro a;exact⟨by simp,fun z hz=>by simp at hz;subst hz;exact Int.le_refl _⟩
  | cons b r ih=>
   intro a
   rw[List.foldl_cons]
   obtain⟨h1,h2⟩:=ih (if b > a then b else a)
   refine⟨?_,fun z hz=>?_⟩
   ·rcases List.mem_cons.mp h1 with h1 | h1
    ·rw[h1];split<;>simp
    ·exact List.mem_cons_of_mem _ (List.mem_cons_of_mem _ h1)
   ·have h3:=h2 _ List.mem_cons_self
    rcases List.mem_cons.mp hz with rfl | hz
    ·refine Int.le_trans ?_ h3;split<;>omega
    ·rcases List.mem_cons.mp hz with rfl | hz
     ·refine Int.le_trans ?_ h3;split<;>omega
     ·exact h2 z (List.mem_cons_of_mem _ hz)
 cases ns with
 | nil=>cases h
 | cons a r=>
  have e:r.foldl (fun x y=>if y > x then y else x) a=x:=Option.some.inj h
  obtain⟨h1,h2⟩:=fold r a
  rw[e]at h1 h2
  have:=h2 y hy
  have:=hm x h1
  omega
theorem snd_max:SndB X .max (fun xs H Q=>∃ (a:Addr) (ns:List Int),xs=[.ref a]∧SqL X.K H a (ns.map V.int)∧0<ns.length∧∀ M,M∈ns→(∀ a,a∈ns→a≤M)→Q (.int M) H):=by
 intro ρ m m' H dx d x Q M ax e q
 obtain⟨xs,e1,e⟩:=Option.bind_eq_some_iff.mp (show ((lstOf dx m).bind fun xs=>(intsOf xs).bind fun ns=>(maxL ns).map fun x=>(D.int x,m))=some (d,m') from e)
 obtain⟨ns,e2,e⟩:=Option.bind_eq_some_iff.mp e
 obtain⟨y,e3,e⟩:=Option.map_eq_some_iff.mp e
 cases e
 obtain⟨p,vs,rfl,h,as⟩:=lst_rd M ax e1
 obtain⟨rfl,_⟩:=ats_ints e2 as
 refine⟨p,ns,rfl,h,?_,fun z hz hm=>.of (q.here M (by rw[maxL_is e3 hz hm];rfl))⟩
 cases ns with
 | nil=>cases e3
 | cons _ _=>exact Nat.succ_pos _
theorem sd_max(hc:X.calm=true)(hg:Gl X "max")(hm:X.mg "max" = none)(ha:PE X a (tD C X.K pa))(he:starEach [a] X.env=[(false,eval a X.env)]:=by rfl):PE X (.Call (.Name "max" p) [a] [] pos) (tD C X.K (.b1 .max pa)):=sd_b1 (call_max_list hc) snd_max PyProof.Rows.boot_max hg hm ha (by decide) (by decide) he
theorem sd_max2(hc:X.calm=true)(hg:Gl X "max")(hm:X.mg "max" = none)(ha:PE X a (tD C X.K pa))(hb:PE X b (tD C X.K pb))(he:starEach [a,b] X.env=[(false,eval a X.env),(false,eval b X.env)]:=by rfl)(he1:starEach [b] X.env=[(false,eval b X.env)]:=by rfl):
  PE X (.Call (.Name "max" p) [a,b] [] pos) (tD C X.K (.max2 pa pb)):=
 sd_two (r:=fun x y H Q=>∃ i j,[x,y]=[.int i,.int j]∧Q (.int (if j > i then j else i)) H) (f:=fun x y m2=>match x,y with | .int i,.int j=>some (.int (if j > i then j else i),m2) | _,_=>none)
  (pe_callB (call_max2 hc) hg hm PyProof.Rows.boot_max (pa_cons ha (pa_cons hb pa_nil he1) (by rw[he,he1])) (by decide) (by decide) (by rw[he,he1]) (by rw[he1];rfl)) (by
  intro ρ m m' H dx dy d x y Q M ax ay e q
  cases dx<;>cases dy<;>simp only at e<;>try (cases e;done)
  cases e
  cases ax;cases ay
  exact⟨_,_,rfl,.of (q.here M rfl)⟩) fun _ _=>rfl
end
end WL
end
section
namespace WL
open PySem PySem.Spec PyProof.Rows L2
section
variable{X:Cx}{x:Str}{pos:Pos}
theorem sg_nm(i:Nat)(hN:X.N.Nodup)(hi:X.N[i]?=some x)(hx:Loc X.env.scope x)(hf:X.fn x=true∨X.env.scope.names.lookup x=some .local:=by first | exact .inl rfl | exact .inr rfl | assumption):PG X (.Name x pos) (tDG X.K (.nm i)):=by
 intro pins s σ H v u Q I r h
 obtain⟨σd,ρ,d,σd',S,a,e,q⟩:=h
 cases e
 exact pg_name hN hi hx hf pins s σ H v u Q I r (q _ (S.set i a))
theorem _root_.L2.PG.imp{tg:Expr}{t t':TG}(h:PG X tg t)(hi:∀ v σ H Q,t' v σ H Q→t v σ H Q):PG X tg t':=fun pins s σ H v u Q I r q=>h pins s σ H v u Q I r (hi v σ H Q q)
end
theorem same_go{ρ:List Addr}{H H':Hp}(h:Same H H'):Go ρ ρ H H':=⟨fun b o e _=>h b o e,List.prefix_rfl,fun _ e=>.inl e⟩
theorem MemAt.same{K:PySem.W.Frag}{ρ:List Addr}{m:Mem}{H H':Hp}(M:MemAt K ρ m H)(h:Same H H'):MemAt K ρ m H':=M.keep (fun a o u e=>h a _ e) fun a ha=>by
 obtain⟨u,e,_⟩:=M.there ha
 rw[e,h a u e]
def WalkAt(K:PySem.W.Frag)(w:Walk)(J:It)(ρ:List Addr)(H:Hp):Prop:=∀ (i:Nat) (ρ':List Addr) (m':Mem) (H':Hp),FzSub H H'→RSub ρ ρ'→MemAt K ρ' m' H'→w.ok m'=true→
 (∀ d,w.xs[i]?=some d→J.go i H'∧∀ x H2,J.yld i H' x H2→Same H' H2∧At K ρ' H2 d x)∧(w.xs.length≤i→J.stop i H')
def tDI(C:String→List D→Mem→Option (D×Mem))(K:PySem.W.Frag)(p:Ie):TI:=fun σ H R=>∃ σd m ρ w m',StAt K ρ H σd σ∧MemAt K ρ m H∧ei C p σd m=some (w,m')∧∀ J H' ρ',Go ρ ρ' H H'→MemAt K ρ' m' H'→WalkAt K w J ρ' H'→R J H'
section
variable{C:String→List D→Mem→Option (D×Mem)}{X:Cx}{tg a b:Expr}{pa pb:Ex}{p pos:Pos}
theorem _root_.L2.PI.imp{wi wi':TI}(h:PI X tg a wi)(hi:∀ σ H R,wi' σ H R→wi σ H R):PI X tg a wi':=fun pins s σ H R I q=>h pins s σ H R I (hi σ H R q)
def iSeq(K:PySem.W.Frag)(tl:TE):TI:=fun σ H R=>tl σ H fun x H1=>∃ a,x=.ref a∧(((∃ xs,SqL K H1 a xs)∧R (Itl K a) H1)∨((∃ xs,SqT K H1 a xs)∧R (Itt K a) H1))
theorem pi_seq{l:Expr}{tl:TE}(hl:PE X l tl):PI X tg l (iSeq X.K tl):=by
 intro pins s σ H R I h
 refine thn (hl pins s σ H _ I h) fun v s1 hq0=>?_
 obtain⟨x,H1,I1,r1,q1⟩:=hq0
 obtain⟨a,e,q1⟩:=q1
 subst e
 cases r1
 have fin:∀ b∈[s1.heap.objs.size],FpOk X pins H1 b:=fun b hb=>by
  have e:b=s1.heap.objs.size:=by simpa using hb
  subst e
  exact I1.fpOk (Nat.le_refl _) (I1.hok.fresh (Nat.le_refl _))
 rcases q1 with ⟨⟨xs,hq⟩,q⟩ | ⟨⟨xs,hq⟩,q⟩
 ·obtain⟨its,rv,p,hz⟩:=I1.list hq
  refine wpAny_pyIter_list p.isList ?_
  exact⟨s1.heap.objs.size,[s1.heap.objs.size],_,_,H1,rfl,I1.kept (t':=s1.toks) fun b o e=>Heap.get?_push_of_some _ e,turn_list a _,⟨_,Heap.get?_push_size _ rfl,rfl,rfl⟩,fin,q⟩
 ·obtain⟨its,rv,p,hz⟩:=I1.tuple hq
  refine wpAny_pyIter_tuple (show s1.heap.IsTuple a its.toArray from p) ?_
  exact⟨s1.heap.objs.size,[s1.heap.objs.size],_,_,H1,rfl,I1.kept (t':=s1.toks) fun b o e=>Heap.get?_push_of_some _ e,turn_tuple a _,⟨_,Heap.get?_push_size _ rfl,rfl,rfl⟩,fin,q⟩
theorem walk_l{K:PySem.W.Frag}{w:Walk}{ρ:List Addr}{H:Hp}{a:Addr}(h:∀ ρ' m' H',FzSub H H'→RSub ρ ρ'→MemAt K ρ' m' H'→w.ok m'=true→∃ vs,SqL K H' a vs∧Ats K ρ' H' w.xs vs):WalkAt K w (Itl K a) ρ H:=by
 intro i ρ' m' H' hf hr M ok
 obtain⟨vs,hs,as⟩:=h ρ' m' H' hf hr M ok
 refine⟨fun d e=>?_,fun hl=>⟨vs,hs,by rw[as.len];exact hl⟩⟩
 obtain⟨v,e1,a1⟩:=as.get e
 refine⟨⟨vs,v,hs,e1⟩,fun x H2 y=>?_⟩
 obtain⟨rfl,y⟩:=y
 have:=y vs hs
 rw[e1]at this
 cases this
 exact⟨.refl _,a1⟩
theorem walk_t{K:PySem.W.Frag}{w:Walk}{ρ:List Addr}{H:Hp}{a:Addr}(h:∀ ρ' m' H',FzSub H H'→RSub ρ ρ'→MemAt K ρ' m' H'→w.ok m'=true→∃ vs,SqT K H' a vs∧Ats K ρ' H' w.xs vs):WalkAt K w (Itt K a) ρ H:=by
 intro i ρ' m' H' hf hr M ok
 obtain⟨vs,hs,as⟩:=h ρ' m' H' hf hr M ok
 refine⟨fun d e=>?_,fun hl=>⟨vs,hs,by rw[as.len];exact hl⟩⟩
 obtain⟨v,e1,a1⟩:=as.get e
 refine⟨⟨vs,v,hs,e1⟩,fun x H2 y=>?_⟩
 obtain⟨rfl,y⟩:=y
 have:=y vs hs
 rw[e1]at this
 cases this
 exact⟨.refl _,a1⟩
theorem si_seq(ha:PE X a (tD C X.K pa)):PI X tg a (tDI C X.K (.seq pa)):=(pi_seq ha).imp fun σ H R hq0=>by
 obtain⟨σd,m,ρ,w,m',S,M,e,q⟩:=hq0
 obtain⟨⟨x,m1⟩,e1,e⟩:=Option.bind_eq_some_iff.mp e
 obtain⟨xs,e2,e⟩:=Option.map_eq_some_iff.mp e
 cases e
 refine⟨σd,m,ρ,x,m',S,M,e1,fun v H1 ρ1 g1 M1 A1=>?_⟩
 cases x with
 | tup ys=>
  cases e2
  obtain⟨p,vs,rfl,h,as⟩:=A1
  exact⟨p,rfl,.inr ⟨⟨vs,h.sq⟩,q _ H1 ρ1 g1 M1 (walk_t fun ρ' m'' H' hf hr M' _=>⟨vs,(h.mono hf).sq,as.mono' hf hr⟩)⟩⟩
 | lst ys=>
  cases e2
  obtain⟨p,o,vs,rfl,h,as⟩:=A1
  exact⟨p,rfl,.inl ⟨⟨vs,.inl (.inr ⟨o,h⟩)⟩,q _ H1 ρ1 g1 M1 (walk_l fun ρ' m'' H' hf hr M' _=>⟨vs,.inl (.inr ⟨o,hf _ _ _ h⟩),as.mono' hf hr⟩)⟩⟩
 | scr ns=>
  cases e2
  obtain⟨p,rfl,h⟩:=A1
  exact⟨p,rfl,.inl ⟨⟨_,h.sq⟩,q _ H1 ρ1 g1 M1 (walk_l fun ρ' m'' H' hf hr M' _=>⟨_,(h.mono hf).sq,.ints ns⟩)⟩⟩
 | mref i=>
  obtain⟨p,vs,e,h,as⟩:=lst_rd M1 A1 (show lstOf (.mref i) m'=some xs from e2)
  subst e
  obtain⟨p',hi,e⟩:=A1
  cases e
  refine⟨p,rfl,.inl ⟨⟨vs,h⟩,q _ H1 ρ1 g1 M1 (walk_l fun ρ' m'' H' hf hr M' ok=>?_)⟩⟩
  have ok:(match m''[i]? with | some (.lst ys)=>D.beqs xs ys | _=>false)=true:=ok
  split at ok
  ·rename_i ys hm
   have:=D.eqs_of_beq ok
   subst this
   obtain⟨us,hu,bs⟩:=M'.at' i p _ (hr _ _ hi) hm
   exact⟨us,.of hu,bs.mono' (fun _ _ _ z=>z) (.take ρ' i)⟩
  ·cases ok
 | _=>cases e2
theorem si_rng(hg:Gl X "range")(hm:X.mg "range" = none)(ha:PE X a (tD C X.K pa))(hs:starEach [a] X.env=[(false,eval a X.env)]:=by rfl):PI X tg (.Call (.Name "range" p) [a] [] pos) (tDI C X.K (.rng pa)):=
 (pi_range1 hg hm (pa_cons ha pa_nil hs) hs).imp fun σ H R hq0=>by
 obtain⟨σd,m,ρ,w,m',S,M,e,q⟩:=hq0
 obtain⟨⟨x,m1⟩,e1,e⟩:=Option.bind_eq_some_iff.mp e
 cases x with
 | int j=>
  have e:(if -(2 ^ 62)≤j∧j<2 ^ 62 then some ((⟨(List.range j.toNat).map fun(i:Nat)=>.int i,none⟩:Walk),m1) else none)=some (w,m'):=e
  split at e
  ·rename_i hj
   cases e
   refine⟨σd,m,ρ,_,m',S,M,e1,fun v H1 ρ1 g1 M1 A1=>?_⟩
   cases A1
   refine⟨j,rfl,hj.1,hj.2,q _ H1 ρ1 g1 M1 fun i ρ' m'' H' hf hr M' ok=>⟨fun d e=>?_,fun hl=>?_⟩⟩
   ·have hi:i<j.toNat:=by
     have:=(List.getElem?_eq_some_iff.mp e).1
     simpa using this
    have ed:d=.int i:=by
     have:((List.range j.toNat).map fun(i:Nat)=>D.int i)[i]?=some d:=e
     rw[List.getElem?_map,List.getElem?_range hi]at this
     exact(Option.some.inj this).symm
    subst ed
    refine⟨hi,fun x H2 y=>?_⟩
    obtain⟨rfl,rfl⟩:=y
    exact⟨.refl _,by rw[Int.zero_add];rfl⟩
   ·show j.toNat≤i
    simpa using hl
  ·cases e
 | _=>cases e
theorem enumD_get:∀ (xs:List D) (n i:Nat),(enumD xs n)[i]?=(xs[i]?).map fun d=>.tup [.int ((n+i:Nat):Int),d]
 | [],n,i=>by simp[enumD]
 | x::r,n,0=>by simp[enumD]
 | x::r,n,i+1=>by
  simp only[enumD,List.getElem?_cons_succ]
  rw[enumD_get r (n+1) i,show n+1+i=n+(i+1) by omega]
theorem enumD_len:∀ (xs:List D) (n:Nat),(enumD xs n).length=xs.length
 | [],_=>rfl
 | _::r,n=>by simp[enumD,enumD_len r (n+1)]
theorem si_enum{elts:List Expr}{k:Nat}{pt:Pos}(hg:Gl X "enumerate")(hm:X.mg "enumerate" = none)(ha:PE X a (tD C X.K pa))(hs:starEach [a] X.env=[(false,eval a X.env)]:=by rfl):PI X (.Tuple elts k pt) (.Call (.Name "enumerate" p) [a] [] pos) (tDI C X.K (.enum pa)):=
 (pi_enum hg hm (pa_cons ha pa_nil hs) hs).imp fun σ H R hq0=>by
 obtain⟨σd,m,ρ,w,m',S,M,e,q⟩:=hq0
 obtain⟨⟨x,m1⟩,e1,e⟩:=Option.bind_eq_some_iff.mp e
 cases x with
 | lst xs=>
  cases e
  refine⟨σd,m,ρ,_,m',S,M,e1,fun v H1 ρ1 g1 M1 A1=>?_⟩
  obtain⟨p,o,vs,rfl,h,as⟩:=A1
  refine⟨p,rfl,⟨vs,.inl (.inr ⟨o,h⟩)⟩,q _ H1 ρ1 g1 M1 fun i ρ' m'' H' hf hr M' ok=>?_⟩
  have h':SqL X.K H' p vs:=.inl (.inr ⟨o,hf _ _ _ h⟩)
  have as':=as.mono' (ρ':=ρ') hf hr
  refine⟨fun d e=>?_,fun hl=>⟨vs,h',by rw[as.len];rw[enumD_len]at hl;exact hl⟩⟩
  have e:(enumD xs 0)[i]?=some d:=e
  rw[enumD_get]at e
  obtain⟨d',e',rfl⟩:=Option.map_eq_some_iff.mp e
  obtain⟨v,e3,a3⟩:=as'.get e'
  refine⟨⟨vs,v,h',e3⟩,fun x H2 y=>?_⟩
  obtain⟨l,y,hl,rfl,⟨ob,hc,hd,rfl⟩,hy⟩:=y
  have:=hy vs h'
  rw[e3]at this
  cases this
  have hsm:Same H' (upd H' l (.frz ob (.tup [.int i,v]))):=fun b u z=>by rw[upd_ne (ne_of_none z hl)];exact z
  have hfz:FzSub H' (upd H' l (.frz ob (.tup [.int i,v]))):=upd_fz hl
  exact⟨hsm,l,_,rfl,⟨ob,hc,hd,.inl upd_same⟩,_,_,rfl,by rw[Nat.zero_add];rfl,_,_,rfl,a3.mono' hfz (.refl _),rfl⟩
 | _=>cases e
end
section
variable{C:String→List D→Mem→Option (D×Mem)}{W:Nat}{X:Cx}{a b c o i v:Expr}{pa pb pc pd pk pv:Ex}{p pos pos':Pos}{st:Stmt}{rest:List Stmt}{s:Sm}{r:Sms}
theorem ss_nil:PSs X [] (tDSs C W X.K .nil):=(pss_nil (X:=X)).imp fun E σ H hq0=>by
 obtain⟨σd,m,ρ,o,m',S,M,e,q⟩:=hq0
 cases e
 exact q H ρ (.refl _ _) M σ S
theorem beo_next{K:PySem.W.Frag}{ρ:List Addr}{H:Hp}{σd1:DS}{o:Out}{m1 m':Mem}{E:Ends}{r:Sms}(e:exs C W r σd1 m1=some (o,m'))(q:Beo K ρ H o m' E):Beo K ρ H (.nx σd1) m1 { E with nx:=fun σ' H'=>tDSs C W K r E σ' H' }:=fun H1 ρ1 g1 M1 σ1 S1=>⟨σd1,m1,ρ1,o,m',S1,M1,e,fun H2 ρ2 g2 M2=>q H2 ρ2 (g1.trans g2) M2⟩
theorem ss_cons(h1:PS X st (tDS C W X.K s))(h2:PSs X rest (tDSs C W X.K r)):PSs X (st::rest) (tDSs C W X.K (.cons s r)):=(pss_cons h1 h2).imp fun E σ H hq0=>by
 obtain⟨σd,m,ρ,o,m',S,M,e,q⟩:=hq0
 obtain⟨⟨o1,m1⟩,e1,e⟩:=Option.bind_eq_some_iff.mp e
 refine⟨σd,m,ρ,o1,m1,S,M,e1,?_⟩
 cases o1 with
 | nx σ1=>exact beo_next e q
 | rt d=>
  cases e
  exact q
theorem ss_set(i:Nat){x:Str}(hN:X.N.Nodup)(hi:X.N[i]?=some x)(hx:Loc X.env.scope x)(he:PE X a (tD C X.K pa))(hs:swapsWith a (some (.Name x pos')) pos.line X.env=pure false:=by rfl)(hf:X.fn x=true∨X.env.scope.names.lookup x=some .local:=by first | exact .inl rfl | exact .inr rfl | assumption):
  PS X (.Assign [.Name x pos'] a pos) (tDS C W X.K (.set i pa)):=(ps_set hN hi hx he hs hf).imp fun E σ H hq0=>by
 obtain⟨σd,m,ρ,o,m',S,M,e,q⟩:=hq0
 obtain⟨⟨d,m1⟩,e1,e⟩:=Option.map_eq_some_iff.mp e
 cases e
 exact⟨σd,m,ρ,d,m',S,M,e1,fun v H1 ρ1 g1 M1 A1=>q H1 ρ1 g1 M1 _ ((S.mono M g1).set i A1)⟩
theorem ss_drop(he:PE X a (tD C X.K pa))(hs:swapsWith a none pos.line X.env=pure false:=by rfl):PS X (.Expr a pos) (tDS C W X.K (.drop pa)):=(ps_expr he hs).imp fun E σ H hq0=>by
 obtain⟨σd,m,ρ,o,m',S,M,e,q⟩:=hq0
 obtain⟨⟨d,m1⟩,e1,e⟩:=Option.map_eq_some_iff.mp e
 cases e
 exact⟨σd,m,ρ,d,m',S,M,e1,fun v H1 ρ1 g1 M1 A1=>q H1 ρ1 g1 M1 _ (S.mono M g1)⟩
theorem ss_ret(he:PE X a (tD C X.K pa)):PS X (.Return (some a) pos) (tDS C W X.K (.ret pa)):=(ps_ret he).imp fun E σ H hq0=>by
 obtain⟨σd,m,ρ,o,m',S,M,e,q⟩:=hq0
 obtain⟨⟨d,m1⟩,e1,e⟩:=Option.map_eq_some_iff.mp e
 cases e
 exact⟨σd,m,ρ,d,m',S,M,e1,fun v H1 ρ1 g1 M1 A1=>q H1 ρ1 g1 M1 _ A1⟩
variable{t:Te}{ba bb:List Stmt}{ra rb:Sms}
theorem ss_if(hc:PT X c (tDT C X.K t))(ha:PSs X ba (tDSs C W X.K ra))(hb:PSs X bb (tDSs C W X.K rb)):PS X (.If c ba bb pos) (tDS C W X.K (.ite t ra rb)):=(ps_if hc ha hb).imp fun E σ H hq0=>by
 obtain⟨σd,m,ρ,o,m',S,M,e,q⟩:=hq0
 obtain⟨⟨k,m1⟩,e1,e⟩:=Option.bind_eq_some_iff.mp e
 refine⟨σd,m,ρ,k,m1,S,M,e1,fun H1 ρ1 g1 M1=>?_⟩
 cases k with
 | true=>
  try dsimp only at e
  rw[if_pos rfl]at e ⊢
  exact⟨σd,m1,ρ1,o,m',S.mono M g1,M1,e,fun H2 ρ2 g2 M2=>q H2 ρ2 (g1.trans g2) M2⟩
 | false=>
  try dsimp only at e
  rw[if_neg Bool.false_ne_true]at e ⊢
  exact⟨σd,m1,ρ1,o,m',S.mono M g1,M1,e,fun H2 ρ2 g2 M2=>q H2 ρ2 (g1.trans g2) M2⟩
variable{tg iter:Expr}{g:Tg}{ip:Ie}
theorem ss_for(hp:PassesOwn (model X.prog X.w) X.A X.env X.xe)(hc:X.calm=true)(hi:PI X tg iter (tDI C X.K ip))(hg:PG X tg (tDG X.K g))(hb:PSs X bb (tDSs C W X.K rb))(hs:∀ x,foldedSetIterable iter X.env x=pure x:=by intro _;rfl):
  PS X (.For tg iter bb [] pos) (tDS C W X.K (.fr g ip rb)):=(ps_for hp hc hi hg hb hs).imp fun E σ H hq0=>by
 obtain⟨σd,m,ρ,o,m',S,M,e,q⟩:=hq0
 obtain⟨⟨w,m1⟩,e1,e⟩:=Option.bind_eq_some_iff.mp e
 refine⟨σd,m,ρ,w,m1,S,M,e1,fun J H0 ρ0 g0 M0 wk=>?_⟩
 refine⟨fun i k σ1 H1=>k=w.xs.length-i∧i≤w.xs.length∧∃ σd1 m1 ρ1,StAt X.K ρ1 H1 σd1 σ1∧MemAt X.K ρ1 m1 H1∧Go ρ0 ρ1 H0 H1∧forL w g (fun σ m=>exs C W rb σ m) (w.xs.drop i) σd1 m1=some (o,m'),⟨_,rfl,Nat.zero_le _,σd,m1,ρ0,S.mono M g0,M0,.refl _ _,e⟩,?_⟩
 rintro i k σ1 H1 ⟨rfl,hil,σd1,m2,ρ1,S1,M1,g1,e⟩
 by_cases hlt:i<w.xs.length
 ·have hd:w.xs.drop i=w.xs[i]::w.xs.drop (i+1):=List.drop_eq_getElem_cons hlt
  rw[hd]at e
  unfold forL at e
  split at e
  ·rename_i ok
   obtain⟨σd2,e2,e⟩:=Option.bind_eq_some_iff.mp e
   obtain⟨⟨o3,m3⟩,e3,e⟩:=Option.bind_eq_some_iff.mp e
   obtain⟨k1,k2⟩:=(wk i ρ1 m2 H1 (g1.fz M0) (.pre g1.ex) M1 ok).1 _ (List.getElem?_eq_getElem hlt)
   refine .inr ⟨k1,fun σ' H'=>∃ σd1 m1 ρ1,StAt X.K ρ1 H' σd1 σ'∧MemAt X.K ρ1 m1 H'∧Go ρ0 ρ1 H0 H'∧forL w g (fun σ m=>exs C W rb σ m) (w.xs.drop (i+1)) σd1 m1=some (o,m'),fun σ' H' h=>⟨_,by omega,rfl,hlt,h⟩,fun x H2 y=>?_⟩
   obtain⟨hsm,ax⟩:=k2 x H2 y
   have g2:Go ρ1 ρ1 H1 H2:=same_go hsm
   have M2:=M1.same hsm
   refine⟨σd1,ρ1,_,σd2,S1.mono M1 g2,ax,e2,fun σ2 S2=>⟨σd2,m2,ρ1,o3,m3,S2,M2,e3,?_⟩⟩
   cases o3 with
   | nx σ3=>exact fun H3 ρ3 g3 M3 σ' S3=>⟨σ3,m3,ρ3,S3,M3,g1.trans (g2.trans g3),e⟩
   | rt d=>
    cases e
    exact fun H3 ρ3 g3 M3 v A=>q H3 ρ3 (g0.trans (g1.trans (g2.trans g3))) M3 v A
  ·cases e
 ·have hi':w.xs.drop i=[]:=List.drop_eq_nil_of_le (by omega)
  rw[hi']at e
  unfold forL at e
  split at e
  ·rename_i ok
   cases e
   exact .inl ⟨(wk i ρ1 m' H1 (g1.fz M0) (.pre g1.ex) M1 ok).2 (by omega),q H1 ρ1 (g0.trans g1) M1 σ1 S1⟩
  ·cases e
end
end WL
end
section
namespace WL
open PySem PySem.Spec PyProof.Rows L2
section
variable{C:String→List D→Mem→Option (D×Mem)}{W:Nat}{X:Cx}{pos:Pos}{e:Expr}{es:List Expr}{g:Tg}{gs:List Tg}{a:Expr}{pa:Ex}
theorem _root_.L2.PGs.imp{t t':TGs}(h:PGs X es t)(hi:∀ v σ H Q,t' v σ H Q→t v σ H Q):PGs X es t':=fun pins s σ H v u Q I r q=>h pins s σ H v u Q I r (hi v σ H Q q)
theorem sgs_nil:PGs X [] (tDGs X.K []):=(pgs_nil (X:=X)).imp fun vs σ H Q hq0=>by
 obtain⟨σd,ρ,ds,σd',S,as,e,q⟩:=hq0
 cases ds with
 | nil=>
  cases e
  cases (show _=[] from as)
  exact⟨rfl,q σ S⟩
 | cons _ _=>cases e
theorem sgs_cons(h1:PG X e (tDG X.K g))(h2:PGs X es (tDGs X.K gs))(hs:(assignEach (e::es) X.env).map (·.2)=assign e X.env::(assignEach es X.env).map (·.2):=by rfl):PGs X (e::es) (tDGs X.K (g::gs)):=
 (pgs_cons h1 h2 hs).imp fun vs σ H Q hq0=>by
 obtain⟨σd,ρ,ds,σd',S,as,e,q⟩:=hq0
 cases ds with
 | nil=>cases e
 | cons d ds=>
  obtain⟨v,vr,rfl,a1,as⟩:=as
  unfold bindTs at e
  obtain⟨σ1,e1,e⟩:=Option.bind_eq_some_iff.mp e
  exact⟨v,vr,rfl,σd,ρ,d,σ1,S,a1,e1,fun σ' S'=>⟨σ1,ρ,ds,σd',S',as,e,q⟩⟩
theorem sg_tp{k:Nat}(hc:X.calm=true)(h:PGs X es (tDGs X.K gs))(hn:(assignEach es X.env).length=gs.length:=by rfl)(hst:(assignEach es X.env).findIdx? (·.1)=none:=by rfl):PG X (.Tuple es k pos) (tDG X.K (.tp gs)):=
 (pg_tup hc h hn hst).imp fun v σ H Q hq0=>by
 obtain⟨σd,ρ,d,σd',S,a,e,q⟩:=hq0
 cases d with
 | tup xs=>
  obtain⟨p,vs,rfl,ht,as⟩:=a
  have e:(if gs.length=xs.length then bindTs gs xs σd else none)=some σd':=e
  split at e
  ·rename_i hl
   exact⟨p,vs,rfl,ht.sq,by rw[as.len,hl],σd,ρ,xs,σd',S,as,e,q⟩
  ·cases e
 | _=>cases e
theorem ss_asg{tg:Expr}(he:PE X a (tD C X.K pa))(hg:PG X tg (tDG X.K g))(hs:swapsWithSole [tg] a pos.line X.env=pure false:=by rfl)(hw:swappedStores [tg] a X.env=pure none:=by rfl)(h1:(assignEach [tg] X.env).map (·.2)=[assign tg X.env]:=by rfl):
  PS X (.Assign [tg] a pos) (tDS C W X.K (.asg g pa)):=(ps_asg he hg hs hw h1).imp fun E σ H hq0=>by
 obtain⟨σd,m,ρ,o,m',S,M,e,q⟩:=hq0
 obtain⟨⟨d,m1⟩,e1,e⟩:=Option.bind_eq_some_iff.mp e
 obtain⟨σ1,e2,e⟩:=Option.map_eq_some_iff.mp e
 cases e
 exact⟨σd,m,ρ,d,m',S,M,e1,fun v H1 ρ1 g1 M1 A1=>⟨σd,ρ1,d,σ1,S.mono M g1,A1,e2,fun σ' S'=>q H1 ρ1 g1 M1 σ' S'⟩⟩
end
section
variable{C:String→List D→Mem→Option (D×Mem)}{W:Nat}{X:Cx}{a b c:Expr}{pa pb pc:Ex}{pos pos' apos cpos:Pos}
section
variable(hbase:attributeBase a "append" X.env (eval a X.env)=eval a X.env)
end
theorem sd_app(ho:PE X a (tD C X.K pa))(hb:PE X b (tD C X.K pb))(hbase:attributeBase a "append" X.env (eval a X.env)=eval a X.env:=by rfl)
  (hfew:((backTo cpos (starEach [b] X.env)).all (fun x=>!x.1)&&(backToKw cpos (keywordEach [] X.env)).all (fun x=>x.1.isSome)
   &&decide (([b]:List Expr).length+([]:List Keyword).length+(if ([]:List Keyword).isEmpty then 0 else 1)<30))=true:=by rfl)
  (hline:(apos.endLine==cpos.line)=true:=by rfl) (hs:starEach [b] X.env=[(false,eval b X.env)]:=by rfl):PE X (.Call (.Attribute a "append" apos) [b] [] cpos) (tD C X.K (.app pa pb)):=
 (pe_bm PySem.F.plainAttrs_list PySem.F.slot_list_append PySem.F.type_list_append mt_append ho (pa_cons hb pa_nil hs) hbase hfew hline hs rfl).imp fun σ H Q hq0=>by
 obtain⟨σd,m,ρ,d,m',S,M,e,q⟩:=hq0
 obtain⟨⟨x,m1⟩,e1,e⟩:=Option.bind_eq_some_iff.mp e
 obtain⟨xs0,e0,e⟩:=Option.bind_eq_some_iff.mp e
 obtain⟨⟨y,m2⟩,e2,e⟩:=Option.bind_eq_some_iff.mp e
 refine⟨σd,m,ρ,x,m1,S,M,e1,fun v H1 ρ1 g1 M1 A1=>?_⟩
 obtain⟨p,vs0,rfl,h0,_⟩:=lst_rd M1 A1 e0
 refine⟨.inl ⟨rfl,vs0,h0⟩,σd,m1,ρ1,y,m2,S.mono M g1,M1,e2,fun u H2 ρ2 g2 M2 A2=>?_⟩
 have A1':=A1.mono M1 g2
 cases x with
 | mref i=>
  obtain⟨p',hi,e6⟩:=A1'
  cases e6
  have e:(match m2[i]? with
   | some (.lst xs)=>if y.clean&&decide (xs.length<100000) then some (D.non,m2.set i (.lst (xs++[y]))) else none
   | _=>none)=some (d,m'):=e
  split at e
  ·rename_i xs hm
   split at e
   ·rename_i hz
    rw[Bool.and_eq_true,decide_eq_true_eq]at hz
    cases e
    obtain⟨vs,hp,as⟩:=M2.at' i p _ hi hm
    have hz0:FzSub H2 (upd H2 p (.lst (vs++[u]))):=fun a' o' u' z'=>by
     rw[upd_ne]
     ·exact z'
     ·rintro rfl;rw[hp]at z';cases z'
    obtain⟨M4,g4⟩:=M2.write (o:=.lst (vs++[u])) (q:=.lst (xs++[y])) hi ⟨_,upd_same,(as.mono' hz0 (.refl _)).snoc (A2.clean hz0 hz.1)⟩
    exact⟨p,vs,u,rfl,rfl,hp,Nat.lt_of_lt_of_le (by rw[as.len];exact hz.2) (big_line (Nat.le_refl _)),q _ _ ρ2 (g1.trans (g2.trans g4)) M4 rfl⟩
   ·cases e
  ·cases e
 | _=>cases e
theorem find_of{K:PySem.W.Frag}{ρ:List Addr}{H:Hp}{y:D}{v:V}(fy:y.flat=true)(ay:At K ρ H y v):∀ {xs:List D} {vs:List V} {n k:Nat},xs.all D.flat=true→Ats K ρ H xs vs→findD y xs n=some k→∃ j,k=n+j∧j<vs.length∧(∃ u,vs[j]?=some u∧eqV u v=true)∧∀ i u,i<j→vs[i]?=some u→eqV u v=false
 | [],_,_,_,_,_,e=>by cases e
 | x::r,_,n,k,fs,⟨w,vr,ev,a1,as⟩,e=>by
  subst ev
  rw[List.all_cons,Bool.and_eq_true]at fs
  have h1:=(flat_at fy ay).2 fs.1 a1
  unfold findD at e
  split at e
  ·rename_i h
   cases e
   exact⟨0,rfl,by simp,⟨w,rfl,by rw[h1];exact h⟩,fun i u hi=>absurd hi (Nat.not_lt_zero _)⟩
  ·rename_i h
   obtain⟨j,e1,h2,⟨u,h3,h3'⟩,h4⟩:=find_of fy ay fs.2 as e
   refine⟨j+1,by omega,by simp;omega,⟨u,by simpa using h3,h3'⟩,fun i u' hi e'=>?_⟩
   cases i with
   | zero=>
    have:w=u':=by simpa using e'
    subst this
    rw[h1]
    simpa using h
   | succ i=>exact h4 i u' (by omega) (by simpa using e')
theorem inV_of{x:V}:∀ {xs:List V} {j:Nat} {u:V},xs[j]?=some u→eqV u x=true→inV x xs=true
 | [],_,_,e,_=>by simp at e
 | y::r,0,u,e,h=>by
  have:y=u:=by simpa using e
  subst this
  simp[inV,h]
 | y::r,j+1,u,e,h=>by
  have:=inV_of (xs:=r) (j:=j) (by simpa using e) h
  unfold inV at this ⊢
  rw[List.any_cons,this,Bool.or_true]
theorem sd_index(ho:PE X a (tD C X.K pa))(hb:PE X b (tD C X.K pb))(hbase:attributeBase a "index" X.env (eval a X.env)=eval a X.env:=by rfl)
  (hfew:((backTo cpos (starEach [b] X.env)).all (fun x=>!x.1)&&(backToKw cpos (keywordEach [] X.env)).all (fun x=>x.1.isSome)
   &&decide (([b]:List Expr).length+([]:List Keyword).length+(if ([]:List Keyword).isEmpty then 0 else 1)<30))=true:=by rfl)
  (hline:(apos.endLine==cpos.line)=true:=by rfl) (hs:starEach [b] X.env=[(false,eval b X.env)]:=by rfl):PE X (.Call (.Attribute a "index" apos) [b] [] cpos) (tD C X.K (.index pa pb)):=
 (pe_bm PySem.F.plainAttrs_list PySem.F.slot_list_index PySem.F.type_list_index mt_index ho (pa_cons hb pa_nil hs) hbase hfew hline hs rfl).imp fun σ H Q hq0=>by
 obtain⟨σd,m,ρ,d,m',S,M,e,q⟩:=hq0
 obtain⟨⟨x,m1⟩,e1,e⟩:=Option.bind_eq_some_iff.mp e
 obtain⟨xs0,e0,e⟩:=Option.bind_eq_some_iff.mp e
 obtain⟨⟨y,m2⟩,e2,e⟩:=Option.bind_eq_some_iff.mp e
 obtain⟨xs,e3,e⟩:=Option.bind_eq_some_iff.mp e
 split at e
 ·rename_i hz
  rw[Bool.and_eq_true,Bool.and_eq_true,decide_eq_true_eq]at hz
  obtain⟨k,e4,e⟩:=Option.map_eq_some_iff.mp e
  cases e
  refine⟨σd,m,ρ,x,m1,S,M,e1,fun v H1 ρ1 g1 M1 A1=>?_⟩
  obtain⟨p,vs0,rfl,h0,_⟩:=lst_rd M1 A1 e0
  refine⟨.inl ⟨rfl,vs0,h0⟩,σd,m1,ρ1,y,m',S.mono M g1,M1,e2,fun u H2 ρ2 g2 M2 A2=>?_⟩
  obtain⟨p',vs,e6,h,as⟩:=lst_rd M2 (A1.mono M1 g2) e3
  cases e6
  obtain⟨j,ek,h1,⟨w,h2,h3⟩,h4⟩:=find_of hz.1.1 A2 hz.1.2 as e4
  have hfl:=(flat_all hz.1.1 A2 hz.1.2 as).1
  refine⟨p,vs,u,rfl,rfl,h,(flat_at hz.1.1 A2).1,hfl,by rw[as.len];exact hz.2,inV_of h2 h3,fun i hi ⟨z,e7,e8⟩ hfirst=>?_⟩
  have hij:i=j:=by
   rcases Nat.lt_trichotomy i j with hlt | heq | hgt
   ·rw[h4 i z hlt e7]at e8;cases e8
   ·exact heq
   ·rw[hfirst j w hgt h2]at h3;cases h3
  subst hij
  refine q _ H2 ρ2 (g1.trans g2) M2 ?_
  rw[ek,Nat.zero_add]
  rfl
 ·cases e
theorem ats_strs{K:PySem.W.Frag}{ρ:List Addr}{H:Hp}:∀ {ds:List D} {vs:List V} {ns:List Str},strsOf ds=some ns→Ats K ρ H ds vs→vs=ns.map V.str
 | [],_,_,e,a=>by cases e;cases (show _=[] from a);rfl
 | d::r,_,_,e,⟨v,vr,ev,a1,as⟩=>by
  subst ev
  cases d with
  | str i=>
   obtain⟨ns',e1,rfl⟩:=Option.map_eq_some_iff.mp (show (strsOf r).map (i::·)=some _ from e)
   cases a1
   rw[ats_strs e1 as];rfl
  | _=>cases e
theorem sd_join(ho:PE X a (tD C X.K pa))(hb:PE X b (tD C X.K pb))(hbase:attributeBase a "join" X.env (eval a X.env)=eval a X.env:=by rfl)
  (hfew:((backTo cpos (starEach [b] X.env)).all (fun x=>!x.1)&&(backToKw cpos (keywordEach [] X.env)).all (fun x=>x.1.isSome)
   &&decide (([b]:List Expr).length+([]:List Keyword).length+(if ([]:List Keyword).isEmpty then 0 else 1)<30))=true:=by rfl)
  (hline:(apos.endLine==cpos.line)=true:=by rfl) (hs:starEach [b] X.env=[(false,eval b X.env)]:=by rfl):PE X (.Call (.Attribute a "join" apos) [b] [] cpos) (tD C X.K (.join pa pb)):=
 (pe_bm PySem.F.plainAttrs_str PySem.F.slot_str_join PySem.F.type_str_join mt_join ho (pa_cons hb pa_nil hs) hbase hfew hline hs rfl).imp fun σ H Q hq0=>by
 obtain⟨σd,m,ρ,d,m',S,M,e,q⟩:=hq0
 obtain⟨⟨x,m1⟩,e1,e⟩:=Option.bind_eq_some_iff.mp e
 obtain⟨⟨y,m2⟩,e2,e⟩:=Option.bind_eq_some_iff.mp e
 refine⟨σd,m,ρ,x,m1,S,M,e1,fun v H1 ρ1 g1 M1 A1=>?_⟩
 cases x with
 | str sep=>
  cases A1
  refine⟨rfl,σd,m1,ρ1,y,m2,S.mono M g1,M1,e2,fun u H2 ρ2 g2 M2 A2=>?_⟩
  obtain⟨xs,e3,e⟩:=Option.bind_eq_some_iff.mp (show ((lstOf y m2).bind fun xs=>(strsOf xs).bind fun ys=>if (ys.map (·.length)).sum+ys.length*sep.length≤100000 then some (D.str (Txt.join sep ys),m2) else none)=some (d,m') from e)
  obtain⟨ys,e4,e⟩:=Option.bind_eq_some_iff.mp e
  split at e
  ·rename_i hz
   cases e
   obtain⟨p,vs,rfl,h,as⟩:=lst_rd M2 A2 e3
   have:=ats_strs e4 as
   subst this
   exact⟨sep,p,ys,rfl,rfl,h,by omega,q _ H2 ρ2 (g1.trans g2) M2 rfl⟩
  ·cases e
 | _=>cases e
end
end WL
end
section
namespace WL
open PySem PySem.Spec PyProof.Rows L2
section
variable{C:String→List D→Mem→Option (D×Mem)}{W:Nat}{X:Cx}{scope:Scope}{own:List Str}{elt tg iter:Expr}{ifs:List Expr}{pos:Pos}{ip:Ie}{g:Tg}{t:Te}{pe:Ex}
theorem sts_nil:PTs X [] (tDT C X.K .tt):=fun pins s σ H Q I hq0=>by
 obtain⟨σd,m,ρ,c,m',S,M,e,q⟩:=hq0
 cases e
 exact pts_nil pins s σ H Q I (q H ρ (.refl _ _) M)
theorem sts_one{c:Expr}(h:PT X c (tDT C X.K t)):PTs X [c] (tDT C X.K t):=pts_one h
theorem stAt_pad{K:PySem.W.Frag}{ρ:List Addr}{H:Hp}{σd:DS}{σ:L2.St}(S:StAt K ρ H σd σ)(k:Nat):StAt K ρ H (σd++List.replicate k none) (σ++List.replicate k none):=by
 refine⟨by simp[S.1],fun i d e=>?_⟩
 by_cases hi:i<σd.length
 ·rw[List.getElem?_append_left hi]at e
  obtain⟨v,e1,a⟩:=S.2 i d e
  exact⟨v,by rw[List.getElem?_append_left (by rw[← S.1];exact hi)];exact e1,a⟩
 ·rw[List.getElem?_append_right (by omega)]at e
  have:=List.mem_of_getElem? e
  rw[List.mem_replicate]at this
  cases this.2
def turnC(C:String→List D→Mem→Option (D×Mem))(k:Nat)(g:Tg)(t:Te)(pe:Ex)(σ:DS):D→Mem→Option (Option D×Mem):=fun d m=>(bindT g d (σ++List.replicate k none)).bind fun σ1=>(et C t σ1 m).bind fun(c,m2)=>if c then (ev C pe σ1 m2).map fun(y,m3)=>(some y,m3) else some (none,m2)
mutual
theorem bind_out{n:Nat}:∀ {g:Tg} {d:D} {σ σ':DS},outT n g=true→bindT g d σ=some σ'→∀ i,i<n→σ'[i]?=σ[i]?
 | .nm j,d,σ,σ',o,e=>by
  cases e
  have:n≤j:=of_decide_eq_true o
  intro i hi
  rw[List.getElem?_set_ne (by omega)]
 | .tp ts,d,σ,σ',o,e=>by
  cases d with
  | tup xs=>
   have e:(if ts.length=xs.length then bindTs ts xs σ else none)=some σ':=e
   split at e
   ·exact binds_out o e
   ·cases e
  | _=>cases e
theorem binds_out{n:Nat}:∀ {gs:List Tg} {ds:List D} {σ σ':DS},outT.outTs n gs=true→bindTs gs ds σ=some σ'→∀ i,i<n→σ'[i]?=σ[i]?
 | [],ds,σ,σ',_,e=>by
  cases ds with
  | nil=>cases e;intro _ _;rfl
  | cons _ _=>cases e
 | t::ts,ds,σ,σ',o,e=>by
  cases ds with
  | nil=>cases e
  | cons d ds=>
   have o':=Bool.and_eq_true_iff.mp o
   obtain⟨σ1,e1,e⟩:=Option.bind_eq_some_iff.mp (show (bindT t d σ).bind (fun σ'=>bindTs ts ds σ')=some σ' from e)
   intro i hi
   rw[binds_out o'.2 e i hi,bind_out o'.1 e1 i hi]
end
mutual
theorem bind_len:∀ {g:Tg} {d:D} {σ σ':DS},bindT g d σ=some σ'→σ'.length=σ.length
 | .nm i,d,σ,σ',e=>by cases e;simp
 | .tp ts,d,σ,σ',e=>by
  cases d with
  | tup xs=>
   have e:(if ts.length=xs.length then bindTs ts xs σ else none)=some σ':=e
   split at e
   ·exact binds_len e
   ·cases e
  | _=>cases e
theorem binds_len:∀ {gs:List Tg} {ds:List D} {σ σ':DS},bindTs gs ds σ=some σ'→σ'.length=σ.length
 | [],ds,σ,σ',e=>by
  cases ds with
  | nil=>cases e;rfl
  | cons _ _=>cases e
 | t::ts,ds,σ,σ',e=>by
  cases ds with
  | nil=>cases e
  | cons d ds=>
   obtain⟨σ1,e1,e⟩:=Option.bind_eq_some_iff.mp (show (bindT t d σ).bind (fun σ'=>bindTs ts ds σ')=some σ' from e)
   rw[binds_len e,bind_len e1]
end
theorem stAt_outer{K:PySem.W.Frag}{ρ:List Addr}{H:Hp}{σd σd2:DS}{k:Nat}{g:Tg}{d:D}{σ:L2.St}(o:outT σd.length g=true)(e:bindT g d (σd++List.replicate k none)=some σd2)(S:StAt K ρ H σd2 σ):StAt K ρ H (σd++List.replicate k none) σ:=by
 refine⟨by rw[← bind_len e];exact S.1,fun i d' h=>?_⟩
 by_cases hi:i<σd.length
 ·rw[← bind_out o e i hi]at h
  exact S.2 i d' h
 ·rw[List.getElem?_append_right (by omega)]at h
  have:=List.mem_of_getElem? h
  rw[List.mem_replicate]at this
  cases this.2
theorem MemAt.push'{K:PySem.W.Frag}{ρ:List Addr}{H:Hp}{m:Mem}{p:Addr}{q:MO}(M:MemAt K ρ m H)(hn:p∉ρ)(h:MOAt K ρ H p q):MemAt K (ρ++[p]) (m++[q]) H:=by
 refine⟨by simp[M.len],List.nodup_append.mpr ⟨M.nd,by simp,fun a ha b hb=>?_⟩,fun j a u e1 e2=>?_⟩
 ·have:b=p:=by simpa using hb
  subst this
  exact fun z=>hn (z▸ha)
 ·by_cases hj:j<ρ.length
  ·rw[List.getElem?_append_left hj]at e1
   rw[List.getElem?_append_left (by rw[← M.len];exact hj)]at e2
   rw[List.take_append_of_le_length (Nat.le_of_lt hj)]
   exact M.at' j a u e1 e2
  ·have hj':j=ρ.length:=by
    have:=(List.getElem?_eq_some_iff.mp e1).1
    simp at this
    omega
   subst hj'
   have e1':p=a:=by simpa using e1
   rw[M.len]at e2
   have e2':q=u:=by simpa using e2
   subst e1' e2'
   rw[List.take_append_of_le_length (Nat.le_refl _),List.take_length]
   exact h
theorem comp_run{K:PySem.W.Frag}{wi:TI}{mu:Bool}{k:Nat}{te:TE}(hwi:wi=tDI C K ip)(hte:te=tD C K pe):∀ {σ:L2.St} {H:Hp} {Q:VK},tD C K (.comp mu k g ip t pe) σ H Q→tComp wi k (tDG K g) (tDT C K t) te σ H (Fz Q):=by
 intro σ H Q ⟨σd,m,ρ,d,m',S,M,e,q⟩
 subst hwi hte
 change (if outT σd.length g=true then (ei C ip σd m).bind _ else none)=_ at e
 split at e
 case isFalse=>cases e
 rename_i hout
 obtain⟨⟨w,m1⟩,e1,e⟩:=Option.bind_eq_some_iff.mp e
 obtain⟨⟨ys,m2⟩,e2,e⟩:=Option.bind_eq_some_iff.mp e
 dsimp only at e
 have e2:compL w (turnC C k g t pe σd) w.xs m1=some (ys,m2):=e2
 split at e
 case isFalse=>cases e
 rename_i hyl
 have e':=Option.some.inj e
 refine⟨σd,m,ρ,w,m1,S,M,e1,fun J H0 ρ0 g0 M0 wk D hD=>?_⟩
 have q':Beh K ρ0 H0 (mkL mu ys m2).1 (mkL mu ys m2).2 Q:=by rw[e'];exact q.go g0
 refine⟨fun i n σ1 H1=>n=w.xs.length-i∧i≤w.xs.length∧∃ zs us vs m3 ρ1,StAt K ρ1 H1 (σd++List.replicate k none) σ1∧MemAt K ρ1 m3 H1∧Go ρ0 ρ1 H0 H1∧H1 D=some (.lst vs)∧D∉ρ1∧Ats K ρ1 H1 zs vs∧compL w (turnC C k g t pe σd) (w.xs.drop i) m3=some (us,m2)∧ys=zs++us,
  ⟨_,rfl,Nat.zero_le _,[],ys,[],m1,ρ0,(stAt_pad (S.mono M g0) k).mono M0 (go_new hD),M0.new hD,go_new hD,upd_same,M0.fresh hD,rfl,e2,rfl⟩,?_⟩
 rintro i n σ1 H1 ⟨rfl,hil,zs,us,vs,m3,ρ1,S1,M1,g1,hv,hnD,as,e3,hys⟩
 by_cases hlt:i<w.xs.length
 ·have hd:w.xs.drop i=w.xs[i]::w.xs.drop (i+1):=List.drop_eq_getElem_cons hlt
  rw[hd]at e3
  unfold compL at e3
  split at e3
  case isFalse=>cases e3
  rename_i ok
  obtain⟨⟨oy,m4⟩,e4,e3⟩:=Option.bind_eq_some_iff.mp e3
  obtain⟨⟨us',m5⟩,e5,e3⟩:=Option.bind_eq_some_iff.mp e3
  cases e3
  obtain⟨k1,k2⟩:=(wk i ρ1 m3 H1 (g1.fz M0) (.pre g1.ex) M1 ok).1 _ (List.getElem?_eq_getElem hlt)
  refine .inr ⟨k1,fun x H2 y=>?_⟩
  obtain⟨hsm,ax⟩:=k2 x H2 y
  have g2:Go ρ1 ρ1 H1 H2:=same_go hsm
  have M2:=M1.same hsm
  unfold turnC at e4
  obtain⟨σd2,e6,e4⟩:=Option.bind_eq_some_iff.mp e4
  obtain⟨⟨c,m6⟩,e7,e4⟩:=Option.bind_eq_some_iff.mp e4
  refine⟨_,ρ1,_,σd2,S1.mono M1 g2,ax,e6,fun σ2 S2=>⟨σd2,m3,ρ1,c,m6,S2,M2,e7,fun H3 ρ3 g3 M3=>?_⟩⟩
  have keepD:∀ {ρa ρb:List Addr} {Ha Hb:Hp} {m:Mem},Go ρa ρb Ha Hb→MemAt K ρb m Hb→Ha D=some (.lst vs)→D∉ρa→Hb D=some (.lst vs)∧D∉ρb:=fun {ρa ρb Ha Hb m} ga Mb ha hn=>⟨ga.fr D _ ha hn,fun z=>(ga.nw D z).elim hn fun y=>by rw[ha]at y;cases y⟩
  obtain⟨hv2,hn2⟩:=keepD g2 M2 hv hnD
  obtain⟨hv3,hn3⟩:=keepD g3 M3 hv2 hn2
  cases c with
  | false=>
   dsimp only
   rw[if_neg Bool.false_ne_true]
   cases e4
   exact⟨_,by omega,rfl,hlt,zs,_,vs,_,ρ3,stAt_outer hout e6 (S2.mono M2 g3),M3,g1.trans (g2.trans g3),hv3,hn3,(as.mono M1 g2).mono M2 g3,e5,hys⟩
  | true=>
   dsimp only
   rw[if_pos rfl]
   obtain⟨⟨y,m7⟩,e8,e4⟩:=Option.map_eq_some_iff.mp (show (ev C pe σd2 m6).map (fun z=>(some z.1,z.2))=some (oy,m4) from e4)
   cases e4
   refine⟨σd2,m6,ρ3,y,m7,S2.mono M2 g3,M3,e8,fun v H5 ρ5 g5 M5 A5=>?_⟩
   obtain⟨hv5,hn5⟩:=keepD g5 M5 hv3 hn3
   have as5:=((as.mono M1 g2).mono M2 g3).mono M3 g5
   have hlen:vs.length<1001:=by
    have h1:=as.len
    rw[hys,List.length_append]at hyl
    omega
   have hz0:FzSub H5 (upd H5 D (.lst (vs++[v]))):=fun a' o' u' z'=>by
    rw[upd_ne]
    ·exact z'
    ·rintro rfl;rw[hv5]at z';cases z'
   have gall:=g1.trans (g2.trans (g3.trans g5))
   refine⟨vs,hv5,Nat.lt_of_lt_of_le hlen (big_line (by omega)),_,by omega,rfl,hlt,zs++[y],us',vs++[v],m7,ρ5,(stAt_outer hout e6 ((S2.mono M2 g3).mono M3 g5)).mono' hz0 (.refl _),M5.keep hz0 fun a' ha'=>upd_ne fun z=>hn5 (z▸ha'),⟨fun b' o' hb' hn'=>?_,gall.ex,gall.nw⟩,upd_same,hn5,(as5.mono' hz0 (.refl _)).snoc (A5.mono' hz0 (.refl _)),e5,by rw[hys];simp⟩
   rw[upd_ne (ne_of_none hb' hD)]
   exact gall.fr b' o' hb' hn'
 ·have hi':w.xs.drop i=[]:=List.drop_eq_nil_of_le (by omega)
  rw[hi']at e3
  unfold compL at e3
  split at e3
  case isFalse=>cases e3
  rename_i ok
  cases e3
  rw[List.append_nil]at hys
  subst hys
  refine .inl ⟨(wk i ρ1 _ H1 (g1.fz M0) (.pre g1.ex) M1 ok).2 (by omega),?_⟩
  cases mu with
  | true=>
   refine .inl (q' _ H1 (ρ1++[D]) ⟨g1.fr,g1.ex.trans (List.prefix_append _ _),fun b hb=>?_⟩ (M1.push' hnD ⟨vs,hv,as⟩) ⟨D,?_,rfl⟩)
   ·rcases List.mem_append.mp hb with hb | hb
    ·exact g1.nw b hb
    ·have:b=D:=by simpa using hb
     subst this
     exact .inr hD
   ·rw[← M1.len];simp
  | false=>
   have hz0:∀ o,FzSub H1 (upd H1 D (.frz o (.lst vs))):=fun o a' o' u' z'=>by
    rw[upd_ne]
    ·exact z'
    ·rintro rfl;rw[hv]at z';cases z'
   refine .inr ⟨D,_,rfl,hv,trivial,fun o=>q' _ _ ρ1 ⟨fun b' o' hb' hn'=>?_,g1.ex,g1.nw⟩ (M1.keep (hz0 o) fun a' ha'=>upd_ne fun z=>hnD (z▸ha')) ⟨D,o,vs,rfl,upd_same,as.mono' (hz0 o) (.refl _)⟩⟩
   rw[upd_ne (ne_of_none hb' hD)]
   exact g1.fr b' o' hb' hn'
theorem sd_comp{mu:Bool}(B:BlkOk X scope own)(hc:X.calm=true)(hi:PI X tg iter (tDI C X.K ip))(hg:∀ C' s₀ H₀ ex,PG (cxC X scope own C' s₀ H₀ ex) tg (tDG X.K g))(ht:∀ C' s₀ H₀ ex,PTs (cxC X scope own C' s₀ H₀ ex) ifs (tDT C X.K t))(he:∀ C' s₀ H₀ ex,PE (cxC X scope own C' s₀ H₀ ex) elt (tD C X.K pe))
  (hs:∀ x,foldedSetIterable iter X.env x=pure x:=by intro _;rfl):PE X (.ListComp elt [⟨tg,iter,ifs,0⟩] scope pos) (tD C X.K (.comp mu own.length g ip t pe)):=(pe_comp B hc hi hg ht he hs).imf fun σ H Q h=>comp_run rfl rfl h
theorem tComp_mono{wi:TI}{k:Nat}{gg:TG}{tt:TT}{te:TE}{σ:L2.St}{H:Hp}{Q Q':VK}(hwi:∀ σ H R R',(∀ J H1,R J H1→R' J H1)→wi σ H R→wi σ H R')(hq:∀ v H,Q v H→Q' v H)(h:tComp wi k gg tt te σ H Q):tComp wi k gg tt te σ H Q':=by
 refine hwi σ H _ _ (fun J H1 h1 D hD=>?_) h
 obtain⟨W,h0,ht⟩:=h1 D hD
 refine⟨W,h0,fun i m σ' H' hw=>?_⟩
 rcases ht i m σ' H' hw with ⟨a,b⟩ | z
 ·exact .inl ⟨a,hq _ _ b⟩
 ·exact .inr z
theorem tDI_mono{C:String→List D→Mem→Option (D×Mem)}{K:PySem.W.Frag}{ip:Ie}:∀ σ H R R',(∀ J H1,R J H1→R' J H1)→tDI C K ip σ H R→tDI C K ip σ H R':=fun σ H R R' h ⟨σd,m,ρ,w,m',S,M,e,q⟩=>⟨σd,m,ρ,w,m',S,M,e,fun J H' ρ' g M' wk=>h _ _ (q J H' ρ' g M' wk)⟩
def FzN(Q:L2.St→Hp→Prop):L2.St→Hp→Prop:=fun σ H=>Q σ H∨∃ a u,H a=some u∧canFz u∧∀ o,Q σ (upd H a (.frz o u))
theorem _root_.L2.PS.fzN{st:Stmt}{t:TS}(h:PS X st t):PS X st (fun E σ H=>t { E with nx:=FzN E.nx } σ H):=fun pins s σ H E I q=>thn (h pins s σ H _ I q) fun f s' z=>by
 cases f with
 | ret u=>exact z
 | brk=>exact z
 | cont=>exact z
 | next=>
  obtain⟨σ',H',I',q | ⟨a,w,ha,c,q⟩⟩:=z
  ·exact⟨σ',H',I',q⟩
  ·obtain⟨o,I2⟩:=freeze I' ha c
   exact⟨σ',_,I2,q o⟩
theorem ss_setC{mu:Bool}(i:Nat){y:Str}{py spos:Pos}(hN:X.N.Nodup)(hiN:X.N[i]?=some y)(hy:X.env.scope.names.lookup y=some .local)(B:BlkOk X scope own)(hc:X.calm=true)(hi:PI X tg iter (tDI C X.K ip))(hg:∀ C' s₀ H₀ ex,PG (cxC X scope own C' s₀ H₀ ex) tg (tDG X.K g))
  (ht:∀ C' s₀ H₀ ex,PTs (cxC X scope own C' s₀ H₀ ex) ifs (tDT C X.K t)) (he:∀ C' s₀ H₀ ex,PE (cxC X scope own C' s₀ H₀ ex) elt (tD C X.K pe))
  (hsw:swapsWith (.ListComp elt [⟨tg,iter,ifs,0⟩] scope pos) (some (.Name y py)) spos.line X.env=pure true:=by rfl)
  (hs:∀ x,foldedSetIterable iter X.env x=pure x:=by intro _;rfl):PS X (.Assign [.Name y py] (.ListComp elt [⟨tg,iter,ifs,0⟩] scope pos) spos) (tDS C W X.K (.set i (.comp mu own.length g ip t pe))):=
 (ps_setC hN hiN hy B hc hi hg ht he hsw hs).fzN.imp fun E σ H hq0=>by
 obtain⟨σd,m,ρ,o,m',S,M,e,q⟩:=hq0
 obtain⟨⟨d,m1⟩,e1,e⟩:=Option.map_eq_some_iff.mp e
 cases e
 have h:=comp_run (C:=C) (K:=X.K) (mu:=mu) (k:=own.length) (g:=g) (t:=t) (pe:=pe) (Q:=fun x H1=>E.nx (σ.set i (some x)) H1) rfl rfl ⟨σd,m,ρ,d,_,S,M,e1,fun v H1 ρ1 g1 M1 A1=>q H1 ρ1 g1 M1 _ ((S.mono M g1).set i A1)⟩
 refine tComp_mono tDI_mono (fun v H1 z=>?_) h
 rcases z with z | ⟨a,u,rfl,ha,cu,z⟩
 ·exact .inl z
 ·exact .inr ⟨a,u,ha,cu,z⟩
end
def spD(K:PySem.W.Frag)(call:List D→Mem→Option (D×Mem)):Sp:=fun vs H Q _=>∃ ds m ρ d m',Ats K ρ H ds vs∧MemAt K ρ m H∧call ds m=some (d,m')∧∀ v H',Go ρ ρ H H'→MemAt K ρ m' H'→At K ρ H' d v→Q v H'
def Cal(X:Cx)(C:String→List D→Mem→Option (D×Mem))(f:String):Prop:=∃ (k:Nat) (fa:Addr) (fd:FuncData) (ps:List Str),FnOk X.prog X.w X.K X.mg X.base CX0 k fa fd ps (spD X.K (C f))∧Room k X.A∧X.mg (Str.ofString f)=some (.ref fa)∧PySem.W.keepIn X.K (.ref fa)=true∧Binds X.K fd ps []
section
variable{C:String→List D→Mem→Option (D×Mem)}{W:Nat}{X:Cx}{e:Expr}{es:List Expr}{ps:Exs}{p pos:Pos}{f:String}
theorem sd_call(F:Cal X C f)(hg:Gl X (Str.ofString f))(ha:PA X (e::es) (tDs C X.K ps))(hdb:(Str.ofString f==("__debug__" : Str))=false:=by decide)(he:starEach (e::es) X.env=(false,eval e X.env)::starEach es X.env:=by rfl)(hpl:(backTo pos (starEach es X.env)).any (·.1)=false:=by rfl):
  PE X (.Call (.Name (Str.ofString f) p) (e::es) [] pos) (tD C X.K (.call f ps)):=by
 obtain⟨k,fa,fd,qs,F,hr,hm,hk,hb⟩:=F
 refine(pe_call F hr hg hm hk hb .nil pass0 ha hdb he hpl).imp fun σ H Q hq0=>?_
 obtain⟨σd,m,ρ,d,m',S,M,e,q⟩:=hq0
 obtain⟨⟨xs,m1⟩,e1,e⟩:=Option.bind_eq_some_iff.mp e
 refine⟨σd,m,ρ,xs,m1,S,M,e1,fun vs H1 ρ1 g1 M1 A1=>?_⟩
 show spD X.K (C f) (vs++[]) H1 Q E0
 rw[List.append_nil]
 exact⟨xs,m1,ρ1,d,m',A1,M1,e,fun v H' g M' A=>q v H' ρ1 (g1.trans g) M' A⟩
end
section
variable{X:Cx}
theorem _root_.L2.PSs.fz{st:List Stmt}{t:TS}(h:PSs X st t):PSs X st (fun E σ H=>t { E with rt:=Fz E.rt } σ H):=fun pins s σ H E I q=>thn (h pins s σ H _ I q) fun f s' z=>by
 cases f with
 | next=>exact z
 | brk=>exact z
 | cont=>exact z
 | ret u=>
  obtain⟨v,σ',H',I',r,q | ⟨a,w,e,ha,c,q⟩⟩:=z
  ·exact⟨v,σ',H',I',r,q⟩
  ·obtain⟨o,I2⟩:=freeze I' ha c
   exact⟨v,σ',_,I2,r,q o⟩
end
theorem start_at{K:PySem.W.Frag}{ρ:List Addr}{H:Hp}{ds:List D}{vs:List V}{N:List Str}(h:Ats K ρ H ds vs):StAt K ρ H (ds.map some++List.replicate (N.length-ds.length) none) (L2.start N vs):=by
 unfold L2.start
 rw[h.len]
 refine⟨by simp[h.len],fun i d e=>?_⟩
 by_cases hi:i<ds.length
 ·rw[List.getElem?_append_left (by simpa using hi),List.getElem?_map]at e
  obtain⟨d',e1,e2⟩:=Option.map_eq_some_iff.mp e
  cases e2
  obtain⟨v,e3,a⟩:=h.get e1
  exact⟨v,by rw[List.getElem?_append_left (by simpa[h.len] using hi),List.getElem?_map,e3];rfl,a⟩
 ·rw[List.getElem?_append_right (by simp;omega)]at e
  have:=List.mem_of_getElem? e
  rw[List.mem_replicate]at this
  cases this.2
theorem prefix_take{ρ ρ':List Addr}(h:ρ <+: ρ'):ρ'.take ρ.length=ρ:=by
 obtain⟨t,rfl⟩:=h
 simp
section
variable{P:Program}{w:World}{K:PySem.W.Frag}{mg:Str→Option Value}{base:Heap}{W:Nat}{Γ:String→Option Fn}
theorem fn_sound{name:String}{qual:Str}{st:Stmt}{f:Addr}{fd:FuncData}{N ps:List Str}{n:Nat}{F:Fn}(FN:Fun K (Str.ofString name) qual st f fd)(S:FnScope N ps (defScope st))(hΓ:Γ name=some F)(hps:F.ps=ps.length)(hns:F.ns=N.length)
  (hbody:∀ (cdv:Value) (A:Around) (outer:List Env) (s:Shared) (H:Hp) (E:XK),Room n (A.deeper (envOfC qual (defScope st) s.heap.objs.size f cdv))→PSs (cxOf CX0 P w K mg base N qual (defScope st) f cdv A outer s H E).nox (defBody st) (tDSs (callI W Γ n) W K F.body)) :
  FnOk P w K mg base CX0 (n+1) f fd ps (spD K (callI W Γ (n+1) name)):=by
 refine FN.ok S (fun vs H Q E h=>?_) (fun cdv A outer s H vs Q E hr h=>?_)
 ·obtain⟨ds,m,ρ,d,m',as,M,e,_⟩:=h
  unfold callI at e
  rw[hΓ]at e
  have e:(if ds.length=F.ps then _ else none)=some (d,m'):=e
  split at e
  ·rename_i hl
   rw[as.len,hl,hps]
  ·cases e
 obtain⟨ds,m,ρ,d,m',as,M,e,q⟩:=h
 refine⟨_,(hbody cdv A outer s H E hr).fz,?_⟩
 unfold callI at e
 rw[hΓ]at e
 dsimp only[Option.bind_some]at e
 split at e
 case isFalse=>cases e
 rename_i hl
 obtain⟨⟨o,m1⟩,e1,e⟩:=Option.bind_eq_some_iff.mp e
 rw[hns,← hl]at e1
 refine⟨_,m,ρ,o,m1,start_at as,M,e1,fun H' ρ' g M'=>?_⟩
 cases o with
 | nx σ'=>
  have hρ:ρ'.take m.length=ρ:=by rw[← M.len];exact prefix_take g.ex
  have g':Go ρ ρ H H':=⟨g.fr,List.prefix_rfl,fun _ h=>.inl h⟩
  have Mc:MemAt K ρ (m1.take m.length) H':=by have:=M'.cut m.length;rw[hρ]at this;exact this
  have e:some (D.non,m1.take m.length)=some (d,m'):=e
  cases e
  intro σ1 S1
  exact q .non H' g' Mc rfl
 | rt d0=>
  intro v A0
  obtain⟨d1,e2,e⟩:=Option.map_eq_some_iff.mp (show (outD m.length m1 d0).map (fun d=>(d,m1.take m.length))=some (d,m') from e)
  cases e
  have hρ:ρ'.take m.length=ρ:=by rw[← M.len];exact prefix_take g.ex
  have g':Go ρ ρ H H':=⟨g.fr,List.prefix_rfl,fun _ h=>.inl h⟩
  have Mc:MemAt K ρ (m1.take m.length) H':=by have:=M'.cut m.length;rw[hρ]at this;exact this
  have plain:d0.clean=true→d0=d→Fz Q v H':=fun hc hd=>by
   subst hd
   exact .inl (q v H' g' Mc (A0.clean (fun _ _ _ z=>z) hc))
  have frozen:∀ {i:Nat} {u:HO} {a:Addr},ρ'[i]?=some a→m.length≤i→v=.ref a→H' a=some u→canFz u→(∀ o,FzSub H' (upd H' a (.frz o u))→At K ρ (upd H' a (.frz o u)) d v)→Fz Q v H':=fun {i u a} hi hle hv ha hu hat=>by
   have hn:a∉ρ:=fun z=>by
    obtain⟨j,hj,ej⟩:=List.getElem_of_mem z
    have e3:ρ'[j]?=some a:=RSub.pre g.ex j a (by rw[List.getElem?_eq_getElem hj,ej])
    obtain⟨h1,x1⟩:=List.getElem?_eq_some_iff.mp hi
    obtain⟨h2,x2⟩:=List.getElem?_eq_some_iff.mp e3
    have:=(List.getElem_inj M'.nd).mp (x1.trans x2.symm)
    rw[M.len]at hj
    omega
   have hfree:H a=none:=by
    rcases g.nw a (List.mem_of_getElem? hi) with z | z
    ·exact absurd z hn
    ·exact z
   have hz0:∀ o,FzSub H' (upd H' a (.frz o u)):=fun o a' o' u' z'=>by
    rw[upd_ne]
    ·exact z'
    ·rintro rfl;rw[ha]at z';cases z';exact hu
   refine .inr ⟨a,u,hv,ha,hu,fun o=>q v _ ⟨fun b ob hb hnb=>?_,List.prefix_rfl,fun _ h=>.inl h⟩ (Mc.keep (hz0 o) fun b hb=>upd_ne fun z=>hn (z▸hb)) (hat o (hz0 o))⟩
   rw[upd_ne (ne_of_none hb hfree)]
   exact g.fr b ob hb hnb
  cases d0 with
  | mref i=>
   obtain⟨a,hi,rfl⟩:=A0
   have e2:(if i<m.length then none else match m1[i]? with
    | some (.lst xs)=>if D.clean.cleans xs then some (D.lst xs) else none
    | some (.dct ks vs)=>if D.clean.cleans vs then some (D.dct ks vs) else none
    | _=>none)=some d:=e2
   split at e2
   case isTrue=>cases e2
   rename_i hge
   split at e2
   ·rename_i xs hm
    split at e2
    ·rename_i hc
     cases e2
     obtain⟨us,ha,bs⟩:=M'.at' i a _ hi hm
     exact frozen hi (by omega) rfl ha trivial fun o hz=>⟨a,o,us,rfl,upd_same,bs.clean hz hc⟩
    ·cases e2
   ·rename_i ks xs hm
    split at e2
    ·rename_i hc
     cases e2
     obtain⟨kvs,ha,hk,bs⟩:=M'.at' i a _ hi hm
     exact frozen hi (by omega) rfl ha trivial fun o hz=>⟨a,o,kvs,rfl,upd_same,hk,bs.clean hz hc⟩
    ·cases e2
   ·cases e2
  | _=>
   unfold outD at e2
   dsimp only at e2
   split at e2
   ·rename_i hc
    exact plain hc (Option.some.inj e2)
   ·cases e2
end
end WL
end
section
namespace PySem
end PySem
namespace WL
open PySem PySem.Spec PyProof.Rows L2
section
variable{prog:Program}{w:World}{A:Around}{E:Value→Shared→Prop}{s:Shared}
theorem getItem_tuple_whole{t sl:Addr}{items:Array Value}{vl vu:Value}{lo hi:Option Int}{Q:Value→Shared→Prop}(ht:IsTup s.heap t items)(hs:s.heap.IsSliceOf sl vl vu .none)(pl:IsPart vl lo)(pu:IsPart vu hi)
  (hw:HT.sIx items.size 0 lo=0∧HT.sIx items.size items.size hi=items.size)
  (h:Q (.ref t) s) (hsz:items.size≤sizeLine):wpAny (model prog w) A (getItem (.ref t) (.ref sl)) Q E s:=by
 obtain⟨os,hos,hcs,hds⟩:=id hs
 have hTs:s.TypeIs (.ref sl) "slice":=⟨os,hos,hcs⟩
 unfold getItem
 try with_reducible refine wpAny_holding ?_
 first | refine wpAny_bind (wpAny_pure ?_) | skip
 refine wpAny_bind (wpAny_sequenceKey ht.typeIs (by decide) ?_)
 refine wpAny_bind (wpAny_callSpecial?_slot (name:=Str.ofString "__getitem__") ht.typeIs PyProof.Rows.slot_tuple_getitem
  (wpAny_call_entry PyProof.Rows.slot_tuple_getitem ht.typeIs entry_tuple_getitem ?_ (args_tuple_getitem _ _)))
 show wpAny _ _ (Builtin.Tuple.tupleItemsOf (.ref t) >>= _) _ _ s
 refine wpAny_bind (tupleItemsOf_ ht ?_)
 refine wpAny_bind (wpAny_typeOf hTs ?_)
 rw[if_pos (by decide)]
 refine wpAny_bind (HT.sliceApplied_gen hs pl pu ?_)
 have hyes:((((HT.sIx items.size 0 lo:Nat):Int)==0&&(1:Int)==1&&(HT.sIx items.size items.size hi-HT.sIx items.size 0 lo)==items.size)=true):=by
  rw[hw.1,hw.2];simp
 show wpAny _ _ (if (((HT.sIx items.size 0 lo:Nat):Int)==0&&(1:Int)==1&&(HT.sIx items.size items.size hi-HT.sIx items.size 0 lo)==items.size)=true then _ else _) _ _ s
 rw[if_pos hyes]
 refine wpAny_bind (m:=Builtin.Tuple.tupleIsExact (.ref t)) ?_
 unfold Builtin.Tuple.tupleIsExact
 refine wpAny_bind (wpAny_typeOf ht.typeIs (wpAny_pure ?_))
 rw[if_pos (by decide)]
 first
  | exact wpAny_bind (wpAny_rule (wpAny_pure ⟨_,rfl,wpAny_pure h⟩))
  | exact wpAny_rule (wpAny_pure ⟨_,rfl,wpAny_pure h⟩)
  | exact wpAny_bind (wpAny_pure (wpAny_pure ⟨_,rfl,wpAny_pure h⟩))
  | exact wpAny_pure ⟨_,rfl,wpAny_pure h⟩
end
section
variable{C:String→List D→Mem→Option (D×Mem)}{X:Cx}{a:Expr}{pa:Ex}{pos p2:Pos}{lo hi:Option Expr}{ol oh:Oe}
theorem sl_tupF:SlR X (rSlF X.K):=by
 intro pins s σ H x v vl vu lo hi sl Q I rx hs pl pu h
 obtain⟨a,xs,rfl,hx,hw,hn⟩:=h
 cases rx
 obtain⟨its,r,ht,hz⟩:=I.tuple hx.sq
 have hlen:its.toArray.size=xs.length:=by rw[List.size_toArray];exact r.length.symm
 refine⟨"tuple",_,PyProof.Rows.slot_tuple_getitem.lookup,ht.typeIs,?_⟩
 by_cases c:HT.sIx xs.length 0 lo=0∧HT.sIx xs.length xs.length hi=xs.length
 ·exact getItem_tuple_whole ht hs pl pu (by rw[hlen];exact c) ⟨.ref a,H,I,rfl,hw c⟩ (by rw[hlen];exact hz)
 ·refine HT.getItem_tuple_cut ht hs pl pu (by rw[hlen];exact c) ?_ (by rw[hlen];exact hz)
  rw[hlen]
  refine⟨.ref s.heap.objs.size,_,I.laid (t':=s.toks) (o:=.frz { cls:=.type "tuple",data:=.seq ((its.toArray.toList.drop (HT.sIx xs.length 0 lo)).take (HT.sIx xs.length xs.length hi-HT.sIx xs.length 0 lo)).toArray } (.tup (cutV xs lo hi))) (fun b ob q=>Heap.get?_push_of_some _ q) (Nat.le_refl _) ?_,rfl,hn c _ _ (I.hok.fresh (Nat.le_refl _)) rfl rfl⟩
  exact⟨Heap.get?_push_size _ rfl,Nat.le_trans (cutV_length xs lo hi) hz,_,(r.drop (HT.sIx xs.length 0 lo)).take (HT.sIx xs.length xs.length hi-HT.sIx xs.length 0 lo),IsTup.new _ _⟩
theorem sl_U:SlR X (fun x lo hi H Q=>rSlF X.K x lo hi H Q∨rSlL X.K x lo hi H Q∨rSlS x lo hi H Q):=sl_tupF.or (sl_list.or sl_str)
theorem Ats.cut{K:PySem.W.Frag}{ρ:List Addr}{H:Hp}{ds:List D}{vs:List V}(h:Ats K ρ H ds vs)(lo hi:Option Int):Ats K ρ H (cutD ds lo hi) (cutV vs lo hi):=by
 unfold cutD cutV
 rw[h.len]
 exact(h.drop _).take _
theorem so_no:PO X none (tDO C X.K .no):=(po_none (X:=X)).imp fun σ H Q hq0=>by
 obtain⟨σd,m,ρ,c,m',S,M,e,q⟩:=hq0
 cases e
 exact q H ρ (.refl _ _) M
theorem so_pt(ha:PE X a (tD C X.K pa)):PO X (some a) (tDO C X.K (.pt pa)):=(po_some ha).imp fun σ H Q hq0=>by
 obtain⟨σd,m,ρ,c,m',S,M,e,q⟩:=hq0
 obtain⟨⟨x,m1⟩,e1,e⟩:=Option.bind_eq_some_iff.mp e
 cases x with
 | int i=>
  cases e
  refine⟨σd,m,ρ,_,_,S,M,e1,fun v H1 ρ1 g1 M1 A1=>?_⟩
  cases A1
  exact⟨i,rfl,q H1 ρ1 g1 M1⟩
 | _=>cases e
theorem sl_at{ρ:List Addr}{m:Mem}{H:Hp}{d d':D}{x:V}{l h:Option Int}{Q:VK}(M:MemAt X.K ρ m H)(A:At X.K ρ H d x)(e:slD d l h=some d')(q:Beh X.K ρ H d' m Q):rSlF X.K x l h H (Fz Q)∨rSlL X.K x l h H (Fz Q)∨rSlS x l h H (Fz Q):=by
 cases d with
 | tup xs=>
  cases e
  obtain⟨p,vs,rfl,ht,as⟩:=A
  refine .inl ⟨p,vs,rfl,ht,fun c=>.of ?_,fun c p' o hp hc hd=>.of (q.tup M (as.cut l h) hp hc hd)⟩
  have e1:cutD xs l h=xs:=by
   unfold cutD
   rw[as.len]at c
   rw[c.1,c.2]
   simp
  rw[e1]at q
  exact q.here M ⟨p,vs,rfl,ht,as⟩
 | lst xs=>
  cases e
  obtain⟨p,vs,rfl,hs,as⟩:=lst_rd M A (show lstOf (.lst xs) m=some xs from rfl)
  exact .inr (.inl ⟨p,vs,rfl,hs,fun p' hp=>Beh.lst (mu:=false) q M (as.cut l h) hp⟩)
 | scr ns=>
  cases e
  obtain⟨p,vs,rfl,hs,as⟩:=lst_rd M A (show lstOf (.scr ns) m=some (ns.map .int) from rfl)
  exact .inr (.inl ⟨p,vs,rfl,hs,fun p' hp=>Beh.lst (mu:=false) q M (as.cut l h) hp⟩)
 | str z=>
  cases A
  have e:(if z.length≤1000 then some (D.str (StrLaws.sliceText z l h)) else none)=some d':=e
  split at e
  ·rename_i hl
   cases e
   exact .inr (.inr ⟨z,rfl,big_line (by omega),.of (q.here M rfl)⟩)
  ·cases e
 | _=>cases e
theorem sd_sl(ha:PE X a (tD C X.K pa))(hl:PO X lo (tDO C X.K ol))(hh:PO X hi (tDO C X.K oh)):PE X (.Subscript a (.Slice lo hi none p2) pos) (tD C X.K (.sl pa ol oh)):=(pe_slice sl_U ha hl hh).imf fun σ H Q hq0=>by
 obtain⟨σd,m,ρ,d,m',S,M,e,q⟩:=hq0
 obtain⟨⟨x,m1⟩,e1,e⟩:=Option.bind_eq_some_iff.mp e
 obtain⟨⟨l,m2⟩,e2,e⟩:=Option.bind_eq_some_iff.mp e
 obtain⟨⟨h,m3⟩,e3,e⟩:=Option.bind_eq_some_iff.mp e
 obtain⟨d',e4,e⟩:=Option.map_eq_some_iff.mp e
 cases e
 exact⟨σd,m,ρ,x,m1,S,M,e1,fun v H1 ρ1 g1 M1 A1=>⟨σd,m1,ρ1,l,m2,S.mono M g1,M1,e2,fun H2 ρ2 g2 M2=>⟨σd,m2,ρ2,h,_,(S.mono M g1).mono M1 g2,M2,e3,fun H3 ρ3 g3 M3=>sl_at M3 ((A1.mono M1 g2).mono M2 g3) e4 (q.go (g1.trans (g2.trans g3)))⟩⟩⟩
theorem strLe_eq(a b:Str):strLe a b=!ltCps b.cps.toList a.cps.toList:=by unfold strLe;rw[ltCps_eq]
theorem str_ext{a b:Str}(h:a.cps.toList=b.cps.toList):a=b:=by
 obtain⟨x⟩:=a
 obtain⟨y⟩:=b
 have:x=y:=by simpa using congrArg List.toArray h
 rw[this]
theorem strLe_anti{a b:Str}(h1:strLe a b=true)(h2:strLe b a=true):a=b:=by
 unfold strLe at h1 h2
 simp only[Bool.not_eq_true',decide_eq_false_iff_not]at h1 h2
 exact str_ext (List.le_antisymm h1 h2)
theorem strLe_trans{a b c:Str}(h1:strLe a b=true)(h2:strLe b c=true):strLe a c=true:=by
 unfold strLe at *
 simp only[Bool.not_eq_true',decide_eq_false_iff_not]at *
 exact List.le_trans h1 h2
theorem strLe_total(a b:Str):(strLe a b||strLe b a)=true:=by
 unfold strLe
 rcases List.le_total a.cps.toList b.cps.toList with h | h
 ·rw[decide_eq_false (show ¬ b.cps.toList<a.cps.toList from h)];rfl
 ·rw[decide_eq_false (show ¬ a.cps.toList<b.cps.toList from h),Bool.or_comm];rfl
theorem sortedS_pw:∀ {l:List Str},sortedS l=true→l.Pairwise fun a b=>strLe a b=true
 | [],_=>.nil
 | x::r,h=>by
  have go:∀ (r:List Str) (p:Str),risingS p r=true→(p::r).Pairwise fun a b=>strLe a b=true:=by
   intro r
   induction r with
   | nil=>intro p _;exact List.pairwise_singleton _ _
   | cons y r ih=>
    intro p h
    have h':(!ltCps y.cps.toList p.cps.toList)=true∧risingS y r=true:=Bool.and_eq_true_iff.mp h
    have i:=ih y h'.2
    have hp:strLe p y=true:=by rw[strLe_eq];exact h'.1
    refine List.pairwise_cons.mpr ⟨fun z hz=>?_,i⟩
    rcases List.mem_cons.mp hz with rfl | hz
    ·exact hp
    ·exact strLe_trans hp (List.rel_of_pairwise_cons i hz)
  exact go r x h
theorem sort_is{ss ss':List Str}(hp:ss'.Perm ss)(hs:sortedS ss'=true):ss'=sortStr ss:=by
 have h1:(sortStr ss).Pairwise fun a b=>strLe a b=true:=List.pairwise_mergeSort (le:=strLe) (fun a b c h1 h2=>strLe_trans h1 h2) strLe_total ss
 exact List.Perm.eq_of_pairwise (fun x y _ _ h1 h2=>strLe_anti h1 h2) (sortedS_pw hs) h1 (hp.trans (List.mergeSort_perm ss strLe).symm)
theorem rises_pw{ps:List (Str×Int)}(hn:(ps.map (·.1)).Nodup):∀ {js:List Nat},(∀ j∈js,j<ps.length)→PySem.W.risesA (ansP ps) js=true→js.Pairwise fun i j=>ansP ps i j=true
 | [],_,_=>.nil
 | [_],_,_=>List.pairwise_singleton _ _
 | a::b::r,hj,h=>by
  have h':ansP ps a b=true∧PySem.W.risesA (ansP ps) (b::r)=true:=Bool.and_eq_true_iff.mp h
  have ih:=rises_pw hn (js:=b::r) (fun j hj'=>hj j (List.mem_cons_of_mem _ hj')) h'.2
  refine List.pairwise_cons.mpr ⟨fun z hz=>?_,ih⟩
  rcases List.mem_cons.mp hz with rfl | hz
  ·exact h'.1
  ·exact(ansP_ord hn).2.2 a b z (hj a (by simp)) (hj b (by simp)) (hj z (by simp[hz])) h'.1 (List.rel_of_pairwise_cons ih hz)
theorem pairSI_at{K:PySem.W.Frag}{ρ:List Addr}{H:Hp}:∀ {ds:List D} {vs:List V} {ps:List (Str×Int)},pairSIs ds=some ps→Ats K ρ H ds vs→SiV K H vs ps∧ds=ps.map unSI
 | [],_,_,e,a=>by
  cases e
  cases (show _=[] from a)
  exact⟨.nil,rfl⟩
 | d::r,_,ps,e,⟨v,vr,ev,a1,as⟩=>by
  subst ev
  unfold pairSIs at e
  split at e
  ·rename_i hd;cases hd
  ·rename_i a b r' hd
   cases hd
   obtain⟨ps',e1,rfl⟩:=Option.map_eq_some_iff.mp e
   obtain⟨h1,h2⟩:=pairSI_at e1 as
   obtain⟨p,ws,rfl,ht,aw⟩:=a1
   obtain⟨x,xr,rfl,ax,y,yr,rfl,ay,hn⟩:=aw
   cases (show _=[] from hn)
   cases ax
   cases ay
   exact⟨.cons ⟨p,rfl,ht.sq⟩ h1,by rw[h2];rfl⟩
  ·cases e
theorem sortSI_is{ps L:List (Str×Int)}(hn:(ps.map (·.1)).Nodup)(hp:L.Perm ps)(hs:L.Pairwise fun p q=>strLe p.1 q.1=true):L=sortSI ps:=by
 have h1:(sortSI ps).Pairwise fun p q=>strLe p.1 q.1=true:=List.pairwise_mergeSort (le:=fun p q:Str×Int=>strLe p.1 q.1) (fun a b c h1 h2=>strLe_trans h1 h2) (fun a b=>strLe_total _ _) ps
 refine List.Perm.eq_of_pairwise (fun x y hx hy h1 h2=>?_) hs h1 (hp.trans (List.mergeSort_perm ps _).symm)
 have hx':=hp.mem_iff.mp hx
 have hy':y∈ps:=(List.mergeSort_perm ps _).mem_iff.mp hy
 have hk:=strLe_anti h1 h2
 obtain⟨i,hi,ei⟩:=List.getElem_of_mem hx'
 obtain⟨j,hj,ej⟩:=List.getElem_of_mem hy'
 have:i=j:=(List.getElem_inj hn (h₀:=by simpa using hi) (h₁:=by simpa using hj)).mp (by simp[ei,ej,hk])
 subst this
 rw[← ei,← ej]
theorem ats_pick{K:PySem.W.Frag}{ρ:List Addr}{H:Hp}{ds:List D}{vs:List V}(as:Ats K ρ H ds vs):∀ js:List Nat,(∀ j∈js,j<ds.length)→Ats K ρ H (js.map fun j=>ds.getD j .non) (js.map fun j=>vs.getD j .non)
 | [],_=>rfl
 | j::js,h=>by
  have hj:=h j List.mem_cons_self
  obtain⟨v,e,a⟩:=as.get (show ds[j]?=some ds[j] by simp[hj])
  refine⟨_,_,rfl,?_,ats_pick as js fun i hi=>h i (List.mem_cons_of_mem _ hi)⟩
  show At K ρ H (ds.getD j .non) (vs.getD j .non)
  rw[List.getD_eq_getElem?_getD,List.getD_eq_getElem?_getD,e]
  simpa[hj] using a
theorem perm_pick{α:Type}(l:List α)(d:α){js:List Nat}(h:js.Perm (List.range l.length)):(js.map fun j=>l.getD j d).Perm l:=by
 have e:(List.range l.length).map (fun j=>l.getD j d)=l:=by
  apply List.ext_getElem?
  intro i
  by_cases hi:i<l.length
  ·rw[List.getElem?_map,List.getElem?_range hi]
   simp[List.getD_eq_getElem?_getD,hi]
  ·rw[List.getElem?_eq_none (by simp;omega),List.getElem?_eq_none (by omega)]
 have:=h.map fun j=>l.getD j d
 rwa [e]at this
theorem sd_sorted{mu:Bool}{p1 q1:Pos}(hg:Gl X "sorted")(hm:X.mg "sorted" = none)(ha:PE X a (tD C X.K pa))(he:starEach [a] X.env=[(false,eval a X.env)]:=by rfl):PE X (.Call (.Name "sorted" p1) [a] [] q1) (tD C X.K (.b1 (.sorted mu) pa)):=
 sd_b1 call_sortedP (by
  intro ρ m m' H dx d x Q M ax e q
  obtain⟨xs,e1,e⟩:=Option.bind_eq_some_iff.mp (show ((lstOf dx m).bind fun xs=>(pairSIs xs).bind fun ps=>if xs.length≤4∧(ps.map (·.1)).Nodup then some (mkL mu ((sortSI ps).map unSI) m) else none)=some (d,m') from e)
  obtain⟨ps,e2,e⟩:=Option.bind_eq_some_iff.mp e
  split at e
  case isFalse=>cases e
  rename_i hc
  have e':=Option.some.inj e
  obtain⟨p,vs,rfl,hr,as⟩:=lst_rd M ax e1
  obtain⟨si,hds⟩:=pairSI_at e2 as
  have hl1:=as.len
  have hl2:xs.length=ps.length:=by rw[hds,List.length_map]
  refine⟨p,vs,ps,rfl,hr,si,by omega,hc.2,fun l js hl hp hs=>?_⟩
  have q':Beh X.K ρ H (mkL mu ((sortSI ps).map unSI) m).1 (mkL mu ((sortSI ps).map unSI) m).2 Q:=by rw[e'];exact q
  refine q'.lst M ?_ hl
  have hjs:∀ j∈js,j<vs.length:=fun j hj=>List.mem_range.mp (hp.mem_iff.mp hj)
  have hpw:=rises_pw hc.2 (fun j hj=>by have:=hjs j hj;omega) hs
  have hL:(js.map fun j=>ps.getD j (⟨#[]⟩,0))=sortSI ps:=by
   refine sortSI_is hc.2 (perm_pick ps _ (by rw[← hl2,← hl1];exact hp)) ?_
   rw[List.pairwise_map]
   have hnd:js.Nodup:=hp.nodup_iff.mpr List.nodup_range
   refine List.Pairwise.imp_of_mem (fun {i j} hi hj z=>?_) (List.Pairwise.and hpw hnd)
   obtain⟨z1,z2⟩:=z
   have ki:=hjs i hi
   have kj:=hjs j hj
   unfold ansP at z1
   rw[pltB_ne (key_ne hc.2 (by omega) (by omega) z2),decide_eq_true_eq]at z1
   unfold strLe
   rw[decide_eq_false (fun h=>List.lt_irrefl _ (List.lt_trans z1 h))]
   rfl
  rw[← hL,List.map_map]
  have hap:=ats_pick as js fun j hj=>by have:=hjs j hj;omega
  have he':(js.map (unSI∘fun j=>ps.getD j (⟨#[]⟩,0)))=js.map fun j=>xs.getD j .non:=by
   apply List.map_congr_left
   intro j hj
   have:=hjs j hj
   rw[hds]
   simp only[Function.comp,List.getD_eq_getElem?_getD,List.getElem?_map]
   have hjp:j<ps.length:=by omega
   rw[List.getElem?_eq_getElem hjp]
   rfl
  rw[he']
  exact hap) PyProof.Rows.boot_sorted hg hm ha (by decide) (by decide) he
theorem sd_gl{x:Str}{d:D}{v:V}{u:Value}(hg:Gl X x)(hm:X.mg x=some u)(r:RelV v u)(ha:∀ ρ H,At X.K ρ H d v)(hd:(x==("__debug__" : Str))=false:=by decide):PE X (.Name x pos) (tD C X.K (.con d)):=sd_con (pe_glob hg hm r hd) ha
end
end WL
end
section
namespace WL
open PySem PySem.Spec PyProof.Rows L2
def GlAt(K:PySem.W.Frag)(mg:Str→Option Value)(x:String)(d:D):Prop:=∃ v u,mg (Str.ofString x)=some u∧L2.RelV v u∧∀ ρ H,At K ρ H d v
theorem sd_glo{C:String→List D→Mem→Option (D×Mem)}{X:Cx}{pos:Pos}{x:String}{d:D}(h:GlAt X.K X.mg x d)(hg:Gl X (Str.ofString x))(hd:(Str.ofString x==("__debug__" : Str))=false:=by decide):PE X (.Name (Str.ofString x) pos) (tD C X.K (.con d)):=by
 obtain⟨v,u,hm,r,ha⟩:=h
 exact sd_gl hg hm r ha hd
theorem GlAt.int{K:PySem.W.Frag}{mg:Str→Option Value}{x:String}{i:Int}{t:Tok}(h:mg (Str.ofString x)=some (.int i t)):GlAt K mg x (.int i):=⟨.int i,_,h,⟨t,rfl⟩,fun _ _=>rfl⟩
theorem GlAt.str{K:PySem.W.Frag}{mg:Str→Option Value}{x:String}{i:Str}{t:Tok}(h:mg (Str.ofString x)=some (.str i t)):GlAt K mg x (.str i):=⟨.str i,_,h,⟨t,rfl⟩,fun _ _=>rfl⟩
section
variable(P:Program)(w:World)(K:PySem.W.Frag)(mg:Str→Option Value)(base:Heap)
def There(name:String)(st:Stmt)(ps:List Str)(fa:Addr)(fd:FuncData):Prop:=Fun K (Str.ofString name) (Str.ofString name) st fa fd∧Binds K fd ps []∧mg (Str.ofString name)=some (.ref fa)
def Def(n:Nat)(C:String→List D→Mem→Option (D×Mem))(g:String):Prop:=∃ (fa:Addr) (fd:FuncData) (ps:List Str),FnOk P w K mg base CX0 n fa fd ps (spD K (C g))∧mg (Str.ofString g)=some (.ref fa)∧PySem.W.keepIn K (.ref fa)=true∧Binds K fd ps []
end
section
variable{P:Program}{w:World}{K:PySem.W.Frag}{mg:Str→Option Value}{base:Heap}{W:Nat}{Γ:String→Option Fn}
theorem Def.cal{X:Cx}{n:Nat}{C:String→List D→Mem→Option (D×Mem)}{g:String}(h:Def X.prog X.w X.K X.mg X.base n C g)(hr:Room n X.A):Cal X C g:=by
 obtain⟨fa,fd,ps,F,hm,hk,hb⟩:=h
 exact⟨n,fa,fd,ps,F,hr,hm,hk,hb⟩
theorem fn_zero{name:String}{f:Addr}{fd:FuncData}{ps:List Str}:FnOk P w K mg base CX0 0 f fd ps (spD K (callI W Γ 0 name)):=by
 have no:∀ vs H Q E,¬ spD K (callI W Γ 0 name) vs H Q E:=fun vs H Q E h=>by
  obtain⟨ds,m,ρ,d,m',_,_,e,_⟩:=h
  cases e
 exact⟨fun vs H Q E h=>absurd h (no vs H Q E),fun A outer s H args us vs Q E _ _ _ _ h=>absurd h (no vs H Q E)⟩
theorem There.zero{name:String}{st:Stmt}{ps:List Str}{fa:Addr}{fd:FuncData}(t:There K mg name st ps fa fd):Def P w K mg base 0 (callI W Γ 0) name:=⟨fa,fd,ps,fn_zero,t.2.2,t.1.kp,t.2.1⟩
end
end WL
namespace WL
open PySem PySem.Spec PyProof.Rows L2
def spLaw(K:PySem.W.Frag):Sp:=fun vs H Q _=>∃ (a:Addr) (ns:List Int),vs=[.ref a]∧ScrAt K H a (ns.map V.int)∧ns.length≤63∧∀ H',Q (.bl true) H'
theorem law_imp{P:Program}{w:World}{K:PySem.W.Frag}{mg:Str→Option Value}{base:Heap}{k:Nat}{f:Addr}{fd:FuncData}{ps:List Str}{call:List D→Mem→Option (D×Mem)}(F:FnOk P w K mg base CX0 k f fd ps (spD K call))(h:∀ ns:List Int,ns.length≤63→call [.scr ns] []=some (.bl true,[])):
  FnOk P w K mg base CX0 k f fd ps (spLaw K):=F.imp fun vs H Q E hq0=>by
 obtain⟨a,ns,e,hs,hl,q⟩:=hq0
 subst e
 refine⟨[.scr ns],[],[],.bl true,[],⟨_,_,rfl,⟨a,rfl,hs⟩,rfl⟩,⟨rfl,List.nodup_nil,fun j a o e=>by simp at e⟩,h ns hl,fun v H' _ _ A=>?_⟩
 cases A
 exact q H'
theorem scr_of{K:PySem.W.Frag}{H:Hp}{a:Addr}{vs:List V}(o:Only H)(h:SqL K H a vs):ScrAt K H a vs:=by
 rcases h with (h | ⟨ob,h⟩) | h
 ·rcases o a with z | ⟨ob,xs,z⟩
  ·rw[h]at z;cases z
  ·rw[h]at z;cases z
 ·exact .inl ⟨ob,h⟩
 ·exact .inr h
theorem walk_law{l:PySem.W.OpenLaw}{q:Program}{loose:List Str}{XP:(Str→Option Value)→Heap→Prop}{YP:World→Heap→Prop}{d:DefRec}{K:Params→PySem.W.Frag}(hn:l.most=some 63)(hdf:d.params.defaults=[])
  (hY:∀ (w:World) (h:Heap),YP w h→(K w.params).In h)
  (F:∀ (w:World) (mg:Str→Option Value) (fa:Addr) (h:Heap),(K w.params).In h→h.Ns mainGlobals mg→mg d.name=some (.ref fa)→
   ∃ fd:FuncData,(∀ (s:Shared) (u:Value),BindsTo s fd ⟨[u],[]⟩ [("_law_script",u)])∧∀ base:Heap,(K w.params).In base→base.Ns mainGlobals mg→FnOk l.prog w (K w.params) mg base CX0 60 fa fd ["_law_script"] (spLaw (K w.params))) :
  PySem.W.WalkO q loose XP YP l.row.toRowW d [] (fun f vs=>PySem.call f vs):=
 L2.walk_of (n:=63) (k:=60) (x:="_law_script") (CX:=fun _=>CX0) (sp:=fun w=>spLaw (K w.params)) hn (by decide) hdf ⟨rfl,by decide,by decide⟩ hY F (fun _ _ a ns hl ho hS=>⟨a,ns,rfl,scr_of ho hS,hl,fun _=>rfl⟩) fun _ _ _ _ _ z=>z
end WL
end
section
namespace PySem
structure Drw(prog:Program)(w:World)(it l:Addr)(St:Nat→Heap→Prop)(xs:Array Value):Prop where
 item:∀ (A:Around) (E:Value→Shared→Prop) (s:Shared) (k:Nat) (x:Value) (Q:Value→Shared→Prop),St k s.heap→xs[k]?=some x→
  (∀ h',St (k+1) h'→Heap.SameBut it s.heap h'→Q x { s with heap:=h' })→wpAny (model prog w) A (Builtin.SmallTypes.nextOf (.ref it)) Q E s
 stop:∀ (A:Around) (E:Value→Shared→Prop) (s:Shared) (k:Nat) (Q:Value→Shared→Prop),A.handled=none→St k s.heap→xs[k]?=none→
  (∀ h' e,Heap.ExtBut it s.heap h'→(∃ o,h'.get? e=some o∧o.cls=.type "StopIteration")→E (.ref e) { s with heap:=h' })→wpAny (model prog w) A (Builtin.SmallTypes.nextOf (.ref it)) Q E s
 ext:∀ (k:Nat) (h h':Heap),St k h→(∀ c o,(c=it∨c=l)→h.get? c=some o→h'.get? c=some o)→St k h'
 obj:∀ (k:Nat) (h:Heap),St k h→(∃ o,h.get? it=some o∧(∀ v,o.data≠.cell v)∧o.cls≠.type "tuple"∧o.cls≠.type "zip")∧∃ o,h.get? l=some o∧∀ a,o.data≠.fields a
theorem drw_list{prog:Program}{w:World}{it l:Addr}{xs:Array Value}(hne:l≠it):Drw prog w it l (fun k h=>h.IsListIter it l k∧h.IsList l xs) xs where
 item:=fun A E s k x Q st hx q=>wpAny_nextOf_list_item st.1 st.2 hx fun h' a b=>q h' ⟨a,st.2.extBut b.extBut hne⟩ b
 stop:=fun A E s k Q hh st hx q=>wpAny_nextOf_list_end hh st.1 st.2 hx q
 ext:=fun k h h' st e=>⟨st.1.at fun o z=>e it o (.inl rfl) z,st.2.at fun o z=>e l o (.inr rfl) z⟩
 obj:=fun k h st=>by
  obtain⟨⟨o,ho,hc,hd⟩,⟨ol,hl,_,n,hdl⟩⟩:=st
  exact⟨⟨o,ho,(fun v z=>by rw[hd]at z;cases z),(by rw[hc];decide),(by rw[hc];decide)⟩,ol,hl,(fun a z=>by rw[hdl]at z;cases z)⟩
section
variable{prog:Program}{w:World}{A:Around}{E:Value→Shared→Prop}{s:Shared}
structure ZApart(z TI TO i1 i2 l1 l2:Addr):Prop where
 nd:[z,TI,TO,i1,i2].Nodup
 l1:l1∉[z,TO,i1,i2]
 l2:l2∉[z,TO,i1,i2]
variable{z TI TO i1 i2 l1 l2:Addr}{S1 S2:Nat→Heap→Prop}{xs ys:Array Value}{k:Nat}{a b:Value}
theorem zp_next(D:ZApart z TI TO i1 i2 l1 l2)(d1:Drw prog w i1 l1 S1 xs)(d2:Drw prog w i2 l2 S2 ys)(hz:IsZip s.heap z TI TO .none)(hTI:IsPair s.heap TI (.ref i1) (.ref i2))(hTO:IsPair s.heap TO a b)(h1:S1 k s.heap)(h2:S2 k s.heap){Q:Value→Shared→Prop}
  (h:(∃ x y,xs[k]?=some x∧ys[k]?=some y∧∀ h',IsZip h' z TI TO (rawInt s.heap.objs.size)→IsPair h' TO x y→S1 (k+1) h'→S2 (k+1) h'→IsPair h' s.heap.objs.size x y→(∀ c o,c≠z→c≠TO→c≠i1→c≠i2→s.heap.get? c=some o→h'.get? c=some o)→Q (.ref s.heap.objs.size) { s with heap:=h' })∨
   (A.handled=none∧(xs[k]?=none∨ys[k]?=none)∧∀ h' e,(∀ c o,c≠z→c≠TO→c≠i1→c≠i2→s.heap.get? c=some o→h'.get? c=some o)→(∃ o,h'.get? e=some o∧o.cls=.type "StopIteration")→E (.ref e) { s with heap:=h' })) :
  wpAny (model prog w) A (Builtin.«zip.__next__» ⟨[.ref z],[]⟩) (fun fin s'=>∃ v,fin=.done (.ret v)∧Q v s') E s:=by
 have nd:=D.nd
 simp only[List.nodup_cons,List.mem_cons,List.not_mem_nil,or_false,not_or,List.nodup_nil,not_false_eq_true,and_true]at nd
 obtain⟨⟨zTI,zTO,zi1,zi2⟩,⟨TITO,TIi1,TIi2⟩,⟨TOi1,TOi2⟩,i12⟩:=nd
 have D1:=D.l1;have D2:=D.l2
 simp only[List.mem_cons,List.not_mem_nil,or_false,not_or]at D1 D2
 obtain⟨l1z,l1TO,l1i1,l1i2⟩:=D1
 obtain⟨l2z,l2TO,l2i1,l2i2⟩:=D2
 show wpAny _ _ (field (.ref z) 2 >>= _) _ _ _
 refine wpAny_bind (wpAny_field hz rfl (x:=.bool false) rfl ?_);show wpAny _ _ (field (.ref z) 3 >>= _) _ _ _
 refine wpAny_bind (wpAny_field hz rfl (x:=.ref TI) rfl (wpAny_bind (wpAny_seqItems hTI rfl ?_)))
 show wpAny _ _ (Builtin.SmallTypes.ownedTupleIsFree (.ref z) >>= _) _ _ _
 refine wpAny_bind ?_
 unfold Builtin.SmallTypes.ownedTupleIsFree
 refine wpAny_bind (wpAny_field hz rfl (x:=.none) rfl (wpAny_pure ?_));simp only[if_true]
 refine wpAny_bind (wpAny_rule (wpAny_bind (wpAny_field hz rfl (x:=.ref TO) rfl (wpAny_bind (wpAny_setField_rec hz (by simp) fun ha hza sa=>?_)))))
 replace hza:IsZip ha z TI TO .ellipsis:=hza
 refine wpAny_bind ?_
 simp only[List.zipIdx_cons,List.zipIdx_nil,List.forIn_cons,List.forIn_nil]
 have h1a:S1 k ha:=d1.ext k _ _ h1 fun c o hc e=>sa.extBut c o (by rcases hc with rfl | rfl;exact Ne.symm zi1;exact l1z) e
 have h2a:S2 k ha:=d2.ext k _ _ h2 fun c o hc e=>sa.extBut c o (by rcases hc with rfl | rfl;exact Ne.symm zi2;exact l2z) e
 have hTOa:IsPair ha TO a b:=sa.extBut _ _ (Ne.symm zTO) hTO
 refine wpAny_bind (wpAny_bind (wpAny_onRaise ?_));show wpAny _ _ (Builtin.SmallTypes.nextOf (.ref i1) >>= _) _ _ _
 refine wpAny_bind ?_
 cases hx:xs[k]? with
 | none=>
  have h':A.handled=none∧∀ h' e,(∀ c o,c≠z→c≠TO→c≠i1→c≠i2→s.heap.get? c=some o→h'.get? c=some o)→(∃ o,h'.get? e=some o∧o.cls=.type "StopIteration")→E (.ref e) { s with heap:=h' }:=by
   rcases h with ⟨x,_,e,_⟩ | ⟨hh,_,q⟩
   ·rw[hx]at e;cases e
   ·exact⟨hh,q⟩
  refine d1.stop _ _ _ k _ h'.1 h1a hx fun hb e sb he=>?_
  obtain⟨oe,hoe,hce⟩:=he
  have hzb:IsZip hb z TI TO .ellipsis:=sb _ _ zi1 hza
  have hez:e≠z:=fun x=>by subst x;rw[hzb]at hoe;cases hoe;simp at hce
  exact wpAny_setField_rec hzb (by simp) fun hc _ sc=>h'.2 hc e (fun c o c1 _ c3 _ x=>sc.extBut _ _ c1 (sb _ _ c3 (sa.extBut _ _ c1 x))) ⟨oe,sc.extBut _ _ hez hoe,hce⟩
 | some x=>
  refine d1.item _ _ _ k x _ h1a hx fun hb h1b sb=>wpAny_pure ?_
  have hTOb:IsPair hb TO a b:=sb.extBut _ _ TOi1 hTOa
  have h2b:S2 k hb:=d2.ext k _ _ h2a fun c o hc e=>sb.extBut c o (by rcases hc with rfl | rfl;exact Ne.symm i12;exact l2i1) e
  refine wpAny_bind (wpAny_seqItems hTOb rfl (wpAny_bind (wpAny_updateSeq_pair hTOb fun hc hTOc sc=>wpAny_bind (wpAny_letGo (wpAny_pure ?_)))))
  replace hTOc:IsPair hc TO x b:=hTOc
  have h1c:S1 (k+1) hc:=d1.ext _ _ _ h1b fun c o hc' e=>sc.extBut c o (by rcases hc' with rfl | rfl;exact Ne.symm TOi1;exact l1TO) e
  have h2c:S2 k hc:=d2.ext k _ _ h2b fun c o hc' e=>sc.extBut c o (by rcases hc' with rfl | rfl;exact Ne.symm TOi2;exact l2TO) e
  refine wpAny_bind (wpAny_bind (wpAny_onRaise ?_));show wpAny _ _ (Builtin.SmallTypes.nextOf (.ref i2) >>= _) _ _ _
  refine wpAny_bind ?_
  have kc:∀ c o,c≠z→c≠TO→c≠i1→s.heap.get? c=some o→hc.get? c=some o:=fun c o c1 c2 c3 e=>sc.extBut _ _ c2 (sb.extBut _ _ c3 (sa.extBut _ _ c1 e))
  have hzc:IsZip hc z TI TO .ellipsis:=sc.extBut _ _ zTO (sb.extBut _ _ zi1 hza)
  cases hy:ys[k]? with
  | none=>
   have h':A.handled=none∧∀ h' e,(∀ c o,c≠z→c≠TO→c≠i1→c≠i2→s.heap.get? c=some o→h'.get? c=some o)→(∃ o,h'.get? e=some o∧o.cls=.type "StopIteration")→E (.ref e) { s with heap:=h' }:=by
    rcases h with ⟨_,y,_,e,_⟩ | ⟨hh,_,q⟩
    ·rw[hy]at e;cases e
    ·exact⟨hh,q⟩
   refine d2.stop _ _ _ k _ h'.1 h2c hy fun hd e sd he=>?_
   obtain⟨oe,hoe,hce⟩:=he
   have hzd:IsZip hd z TI TO .ellipsis:=sd _ _ zi2 hzc
   have hez:e≠z:=fun x=>by subst x;rw[hzd]at hoe;cases hoe;simp at hce
   exact wpAny_setField_rec hzd (by simp) fun he' _ se=>h'.2 he' e (fun c o c1 c2 c3 c4 x=>se.extBut _ _ c1 (sd _ _ c4 (kc c o c1 c2 c3 x))) ⟨oe,se.extBut _ _ hez hoe,hce⟩
  | some y=>
   have q:∀ h',IsZip h' z TI TO (rawInt s.heap.objs.size)→IsPair h' TO x y→S1 (k+1) h'→S2 (k+1) h'→IsPair h' s.heap.objs.size x y→(∀ c o,c≠z→c≠TO→c≠i1→c≠i2→s.heap.get? c=some o→h'.get? c=some o)→Q (.ref s.heap.objs.size) { s with heap:=h' }:=by
    rcases h with ⟨x',y',e1,e2,q⟩ | ⟨_,e | e,_⟩
    ·rw[hx]at e1;rw[hy]at e2;cases e1;cases e2;exact q
    ·rw[hx]at e;cases e
    ·rw[hy]at e;cases e
   refine d2.item _ _ _ k y _ h2c hy fun hd h2d sd=>wpAny_pure ?_
   have hTOd:IsPair hd TO x b:=sd.extBut _ _ TOi2 hTOc
   refine wpAny_bind (wpAny_seqItems hTOd rfl (wpAny_bind (wpAny_updateSeq_pair hTOd fun he hTOe se=>wpAny_bind (wpAny_letGo (wpAny_pure (wpAny_pure ?_))))))
   replace hTOe:IsPair he TO x y:=hTOe
   refine wpAny_bind (wpAny_seqItems hTOe rfl (wpAny_bind (wpAny_newTuple ?_)))
   have ke:∀ c o,c≠z→c≠TO→c≠i1→c≠i2→s.heap.get? c=some o→he.get? c=some o:=fun c o c1 c2 c3 c4 e=>se.extBut _ _ c2 (sd.extBut _ _ c4 (kc c o c1 c2 c3 e))
   have hsz:he.objs.size=s.heap.objs.size:=by rw[se.1,sd.1,sc.1,sb.1,sa.1]
   have hze:IsZip he z TI TO .ellipsis:=se.extBut _ _ zTO (sd.extBut _ _ zi2 hzc)
   have h1e:S1 (k+1) he:=d1.ext _ _ _ h1c fun c o hc' e=>se.extBut c o (by rcases hc' with rfl | rfl;exact Ne.symm TOi1;exact l1TO) (sd.extBut c o (by rcases hc' with rfl | rfl;exact i12;exact l1i2) e)
   have h2e:S2 (k+1) he:=d2.ext _ _ _ h2d fun c o hc' e=>se.extBut c o (by rcases hc' with rfl | rfl;exact Ne.symm TOi2;exact l2TO) e
   have hzlt:z<he.objs.size:=Heap.lt_size hze
   show wpAny _ _ (Builtin.SmallTypes.ownedTupleHandOut (.ref z) (.ref he.objs.size) >>= _) _ _ _
   refine wpAny_bind ?_
   unfold Builtin.SmallTypes.ownedTupleHandOut
   refine wpAny_bind (wpAny_setField_rec (show IsZip (he.push { cls:=.type "tuple",data:=.seq #[x,y] }) z TI TO .ellipsis from Heap.get?_push_of_some _ hze) (by simp) fun hf hzf sf=>?_)
   replace hzf:IsZip hf z TI TO (rawInt he.objs.size):=hzf
   refine wpAny_setField_rec hzf (by simp) fun hg hzg sg=>wpAny_pure ⟨_,rfl,?_⟩
   replace hzg:IsZip hg z TI TO (rawInt he.objs.size):=hzg
   have up:∀ c o,c≠z→he.get? c=some o→hg.get? c=some o:=fun c o c1 e=>sg.extBut _ _ c1 (sf.extBut _ _ c1 (Heap.get?_push_of_some _ e))
   have hT:IsPair hg he.objs.size x y:=sg.extBut _ _ (Nat.ne_of_gt hzlt) (sf.extBut _ _ (Nat.ne_of_gt hzlt) (Heap.get?_push_size _ rfl))
   show Q (.ref he.objs.size) _
   rw[hsz]at hzg hT ⊢
   exact q hg hzg (up _ _ (Ne.symm zTO) hTOe) (d1.ext _ _ _ h1e fun c o hc' e=>up c o (by rcases hc' with rfl | rfl;exact Ne.symm zi1;exact l1z) e) (d2.ext _ _ _ h2e fun c o hc' e=>up c o (by rcases hc' with rfl | rfl;exact Ne.symm zi2;exact l2z) e) hT fun c o c1 c2 c3 c4 e=>up c o c1 (ke c o c1 c2 c3 c4 e)
theorem zp_pyNext(D:ZApart z TI TO i1 i2 l1 l2)(d1:Drw prog w i1 l1 S1 xs)(d2:Drw prog w i2 l2 S2 ys)(hz:IsZip s.heap z TI TO .none)(hTI:IsPair s.heap TI (.ref i1) (.ref i2))(hTO:IsPair s.heap TO a b)(h1:S1 k s.heap)(h2:S2 k s.heap){Q:Option Value→Shared→Prop}
  (h:(∃ x y,xs[k]?=some x∧ys[k]?=some y∧∀ h',IsZip h' z TI TO (rawInt s.heap.objs.size)→IsPair h' TO x y→S1 (k+1) h'→S2 (k+1) h'→IsPair h' s.heap.objs.size x y→(∀ c o,c≠z→c≠TO→c≠i1→c≠i2→s.heap.get? c=some o→h'.get? c=some o)→Q (some (.ref s.heap.objs.size)) { s with heap:=h' })∨
   (A.handled=none∧(xs[k]?=none∨ys[k]?=none)∧∀ h',(∀ c o,c≠z→c≠TO→c≠i1→c≠i2→s.heap.get? c=some o→h'.get? c=some o)→Q none { s with heap:=h' })) :
  wpAny (model prog w) A (pyNext (.ref z)) Q E s:=by
 have hT:s.TypeIs (.ref z) "zip":=⟨_,hz,rfl⟩
 unfold pyNext
 refine wpAny_bind (wpAny_attempt (wpAny_callSpecial?_slot (name:=Str.ofString "__next__") hT F.slot_zip_next (wpAny_call_entry F.slot_zip_next hT F.entry_zip_next (zp_next (A:=A.in1) D d1 d2 hz hTI hTO h1 h2 ?_) (F.args_zip_next_1 _))))
 rcases h with ⟨x,y,e1,e2,q⟩ | ⟨hh,he,q⟩
 ·exact .inl ⟨x,y,e1,e2,fun h' a1 a2 a3 a4 a5 a6=>wpAny_pure (q h' a1 a2 a3 a4 a5 a6)⟩
 ·refine .inr ⟨hh,he,fun h' e hk ⟨o,ho,hc⟩=>?_⟩
  exact wpAny_bind (wpAny_isInstance (T:="StopIteration") (b:=true) ⟨o,ho,hc⟩ isSubtype_stop (wpAny_pure (q h' hk)))
theorem zp_apart{n t u:Nat}(ht:t<n)(hu:u<n):ZApart (n+4) (n+2) (n+3) n (n+1) t u:=by
 have a1:(n+4:Nat)≠n+2∧(n+4:Nat)≠n+3∧(n+4:Nat)≠n∧(n+4:Nat)≠n+1:=by omega
 have a2:(n+2:Nat)≠n+3∧(n+2:Nat)≠n∧(n+2:Nat)≠n+1:=by omega
 have a3:(n+3:Nat)≠n∧(n+3:Nat)≠n+1:=by omega
 have a4:(n:Nat)≠n+1:=by omega
 have b1:(t:Nat)≠n+4∧(t:Nat)≠n+3∧(t:Nat)≠n∧(t:Nat)≠n+1:=by omega
 have b2:(u:Nat)≠n+4∧(u:Nat)≠n+3∧(u:Nat)≠n∧(u:Nat)≠n+1:=by omega
 refine⟨?_,?_,?_⟩
 ·simp only[List.nodup_cons,List.mem_cons,List.not_mem_nil,or_false,not_or,List.nodup_nil,not_false_eq_true,and_true]
  exact⟨a1,a2,a3,a4⟩
 ·simp only[List.mem_cons,List.not_mem_nil,or_false,not_or]
  exact b1
 ·simp only[List.mem_cons,List.not_mem_nil,or_false,not_or]
  exact b2
end
end PySem
end
section
namespace L2
open PySem PySem.Spec PyProof.Rows
section
variable{X:Cx}
end
end L2
end
section
namespace L2
open PySem PySem.Spec PyProof.Rows
section
variable{X:Cx}
theorem bools_at{bs:List Bool}:∀ {us:List Value},Vals (bs.map V.bl) us→us=bs.map Value.bool:=by
 induction bs with
 | nil=>intro us r;rw[List.map_nil]at r;cases r;rfl
 | cons n ns ih=>
  intro us r
  rw[List.map_cons]at r
  cases r with
  | cons r1 r2=>cases r1;rw[ih r2];rfl
theorem call_all_list(hc:X.calm=true):CallR X (.builtin "all") (fun xs H Q=>∃ (a:Addr) (bs:List Bool),xs=[.ref a]∧SqL X.K H a (bs.map V.bl)∧Q (.bl (bs.all id)) H):=by
 intro pins s σ H xs us Q I r h
 obtain⟨a,bs,rfl,hq,q⟩:=h
 obtain⟨u,rfl,ru⟩:=vals1 r
 cases ru
 obtain⟨its,rv,p,hz⟩:=I.list hq
 have hi:=bools_at rv
 have pl:=p.isList
 have hlt:a<s.heap.objs.size:=by obtain⟨_,e,_⟩:=pl;exact Heap.lt_size e
 refine call_all_walk (wpAny_pyIter_list pl ?_)
 refine⟨s.heap.objs.size,[s.heap.objs.size,a],[s.heap.objs.size],_,_,_,fun i=>(bs[i]?).getD true,rfl,Walks.list (A:=X.A.in1) (I.ok.hd hc) _ a (Nat.ne_of_lt hlt) _,⟨⟨_,Heap.get?_push_size _ rfl,rfl,rfl⟩,pl.push _⟩,fun i v s' Q' E' hP hQ=>?_,fun h' tk hk=>?_⟩
 ·have hv:its[i]?=some v:=by simpa using hP
  rw[hi,List.getElem?_map]at hv
  cases e:bs[i]? with
  | none=>rw[e]at hv;cases hv
  | some b=>
   rw[e]at hv
   cases hv
   simp only[e,Option.getD_some]at hQ
   exact wpAny_truthy_bool hQ
 ·have hl:its.length=bs.length:=by rw[hi,List.length_map]
  have e:((List.range its.toArray.size).all fun i=>(bs[i]?).getD true)=bs.all id:=by
   rw[List.size_toArray,hl];exact LSm.range_all bs
  rw[e]
  exact⟨.bl _,H,I.kept (LSm.kept_iter hk),rfl,q⟩
end
end L2
end
section
namespace WL
open PySem PySem.Spec PyProof.Rows L2
def tyD:D→Option String
 | .non=>some "NoneType"
 | .bl _=>some "bool"
 | .int _=>some "int"
 | .str _=>some "str"
 | .tup _=>some "tuple"
 | .lst _=>some "list"
 | .scr _=>some "list"
 | _=>none
section
variable{C:String→List D→Mem→Option (D×Mem)}{X:Cx}{a b:Expr}{pa pb:Ex}{pos p p2:Pos}
def rIsi(K:PySem.W.Frag)(T:String):List V→Hp→VK→Prop:=fun xs H Q=>∃ ρ d x t b,xs=[x,.ty T]∧At K ρ H d x∧tyD d=some t∧PySem.W.kitOne K (.type t) (.type T)=some b∧Q (.bl b) H
theorem call_isi{T:String}:CallR X (.builtin "isinstance") (rIsi X.K T):=by
 intro pins s σ H xs us Q I r h
 obtain⟨ρ,d,x,t,b,rfl,A,e,k,q⟩:=h
 obtain⟨u,c,rfl,rx,rc⟩:=vals2 r
 cases rc
 have fin:∀ tk,EP X pins σ Q (.bool b) { s with toks:=tk }:=fun tk=>⟨.bl b,H,I.tok tk,rfl,q⟩
 cases d with
 | non=>cases e;cases A;cases rx;exact PySem.W.kia_one PySem.W.kitx_none I.kIn True.intro k (fun z=>nomatch z) fin
 | bl y=>cases e;cases A;cases rx;exact PySem.W.kia_one PySem.W.kitx_bool I.kIn True.intro k (fun z=>nomatch z) fin
 | int i=>cases e;cases A;obtain⟨t,rfl⟩:=rx;exact PySem.W.kia_one PySem.W.kitx_int I.kIn True.intro k (fun z=>nomatch z) fin
 | str i=>cases e;cases A;obtain⟨t,rfl⟩:=rx;exact PySem.W.kia_one PySem.W.kitx_str I.kIn True.intro k (fun z=>nomatch z) fin
 | tup ys=>
  cases e
  obtain⟨a,vs,rfl,ht,_⟩:=A
  cases rx
  obtain⟨_,_,⟨o,h1,h2,_⟩,_⟩:=I.tuple ht.sq
  exact PySem.W.kia_one PySem.W.kitx_tuple I.kIn ⟨o,h1,h2⟩ k (fun z=>nomatch z) fin
 | lst ys=>
  cases e
  obtain⟨a,o,vs,rfl,ht,_⟩:=A
  cases rx
  obtain⟨_,_,⟨o,_,h1,h2,_⟩,_⟩:=I.list (X:=X) (.inl (.inr ⟨o,ht⟩))
  exact PySem.W.kia_one PySem.W.kitx_list I.kIn ⟨o,h1,h2⟩ k (fun z=>nomatch z) fin
 | scr ns=>
  cases e
  obtain⟨a,rfl,ht⟩:=A
  cases rx
  obtain⟨_,_,⟨o,_,h1,h2,_⟩,_⟩:=I.list ht.sq
  exact PySem.W.kia_one PySem.W.kitx_list I.kIn ⟨o,h1,h2⟩ k (fun z=>nomatch z) fin
 | _=>cases e
theorem sd_isi{T:String}{k:B1}{x:Str}(hx:bootBuiltins x=some (.type T))(hk:∀ (K:PySem.W.Frag) (d dd:D) (m m':Mem),b1D k d m=some (dd,m')→m'=m∧∃ t b,tyD d=some t∧PySem.W.kitOne K (.type t) (.type T)=some b∧dd=.bl b)
  (hg:Gl X "isinstance") (hm:X.mg "isinstance" = none) (hg2:Gl X x) (hm2:X.mg x=none) (ha:PE X a (tD C X.K pa)) (hn:x≠"__name__":=by decide) (hd:(x==("__debug__" : Str))=false:=by decide)
  (hs:starEach [a,.Name x p2] X.env=[(false,eval a X.env),(false,eval (.Name x p2) X.env)]:=by rfl) (hs2:starEach [Expr.Name x p2] X.env=[(false,eval (.Name x p2) X.env)]:=by rfl) :
  PE X (.Call (.Name "isinstance" p) [a,.Name x p2] [] pos) (tD C X.K (.b1 k pa)):=
 (pe_callB call_isi hg hm PyProof.Rows.boot_isinstance (pa_cons ha (pa_cons (pe_bltn hg2 hm2 hx (v:=.ty T) rfl hn hd) pa_nil hs2) (by rw[hs,hs2])) (by decide) (by decide) (by rw[hs,hs2]) (by rw[hs2];rfl)).imp fun σ H Q hq0=>by
 obtain⟨σd,m,ρ,d,m',S,M,e,q⟩:=hq0
 obtain⟨⟨y,m1⟩,e1,e⟩:=Option.bind_eq_some_iff.mp e
 obtain⟨rfl,t,b,ht,hb,rfl⟩:=hk X.K y d m1 m' e
 exact⟨σd,m,ρ,y,m',S,M,e1,fun v H1 ρ1 g1 M1 A1=>⟨ρ1,y,v,t,b,rfl,A1,ht,hb,q _ H1 ρ1 g1 M1 rfl⟩⟩
theorem sd_istuple(hg:Gl X "isinstance")(hm:X.mg "isinstance" = none)(hg2:Gl X "tuple")(hm2:X.mg "tuple" = none)(ha:PE X a (tD C X.K pa))(hs:starEach [a,.Name "tuple" p2] X.env=[(false,eval a X.env),(false,eval (.Name "tuple" p2) X.env)]:=by rfl):
  PE X (.Call (.Name "isinstance" p) [a,.Name "tuple" p2] [] pos) (tD C X.K (.b1 .isTuple pa)):=sd_isi PyProof.Rows.boot_tuple (by
  intro K d dd m m' e
  cases d<;>cases e<;>exact⟨rfl,_,_,rfl,rfl,rfl⟩) hg hm hg2 hm2 ha (by decide) (by decide) hs
theorem sd_isint(hg:Gl X "isinstance")(hm:X.mg "isinstance" = none)(hg2:Gl X "int")(hm2:X.mg "int" = none)(ha:PE X a (tD C X.K pa))(hs:starEach [a,.Name "int" p2] X.env=[(false,eval a X.env),(false,eval (.Name "int" p2) X.env)]:=by rfl):
  PE X (.Call (.Name "isinstance" p) [a,.Name "int" p2] [] pos) (tD C X.K (.b1 .isInt pa)):=sd_isi PyProof.Rows.boot_int (by
  intro K d dd m m' e
  cases d<;>cases e<;>exact⟨rfl,_,_,rfl,rfl,rfl⟩) hg hm hg2 hm2 ha (by decide) (by decide) hs
theorem sd_isstr(hg:Gl X "isinstance")(hm:X.mg "isinstance" = none)(hg2:Gl X "str")(hm2:X.mg "str" = none)(ha:PE X a (tD C X.K pa))(hs:starEach [a,.Name "str" p2] X.env=[(false,eval a X.env),(false,eval (.Name "str" p2) X.env)]:=by rfl):
  PE X (.Call (.Name "isinstance" p) [a,.Name "str" p2] [] pos) (tD C X.K (.b1 .isStr pa)):=sd_isi PyProof.Rows.boot_str (by
  intro K d dd m m' e
  cases d<;>cases e<;>exact⟨rfl,_,_,rfl,rfl,rfl⟩) hg hm hg2 hm2 ha (by decide) (by decide) hs
theorem sd_isbool(hg:Gl X "isinstance")(hm:X.mg "isinstance" = none)(hg2:Gl X "bool")(hm2:X.mg "bool" = none)(ha:PE X a (tD C X.K pa))(hs:starEach [a,.Name "bool" p2] X.env=[(false,eval a X.env),(false,eval (.Name "bool" p2) X.env)]:=by rfl):
  PE X (.Call (.Name "isinstance" p) [a,.Name "bool" p2] [] pos) (tD C X.K (.b1 .isBool pa)):=sd_isi PyProof.Rows.boot_bool (by
  intro K d dd m m' e
  cases d<;>cases e<;>exact⟨rfl,_,_,rfl,rfl,rfl⟩) hg hm hg2 hm2 ha (by decide) (by decide) hs
end
end WL
end
section
namespace WL
open PySem PySem.Spec PyProof.Rows L2
section
variable{C:String→List D→Mem→Option (D×Mem)}{X:Cx}{a b:Expr}{pa pb:Ex}{pos p:Pos}
end
end WL
end
section
namespace WL
open PySem L2 PySem.Spec PyProof.Rows
section
variable{C:String→List D→Mem→Option (D×Mem)}{X:Cx}
theorem sd_neg{i:Int}{j p pos}:PE X (.UnaryOp .USub (.Constant (.int i) j p) pos) (tD C X.K (.con (.int (-i)))):=sd_con ((pe_un un_neg pe_int).imp fun _ _ _ h=>⟨i,rfl,h⟩) fun _ _=>rfl
theorem ats_bls{K:PySem.W.Frag}{ρ:List Addr}{H:Hp}:∀ {ds:List D} {bs:List Bool} {vs:List V},blsOf ds=some bs→Ats K ρ H ds vs→vs=bs.map V.bl
 | [],_,_,e,a=>by
  cases e
  exact a
 | .bl b::r,bs,vs,e,a=>by
  obtain⟨cs,e1,rfl⟩:=Option.map_eq_some_iff.mp e
  obtain⟨v,us,rfl,a1,a2⟩:=a
  cases a1
  rw[ats_bls e1 a2]
  rfl
theorem snd_all:SndB X .all (fun xs H Q=>∃ (a:Addr) (bs:List Bool),xs=[.ref a]∧SqL X.K H a (bs.map V.bl)∧Q (.bl (bs.all id)) H):=by
 intro ρ m m' H dx d x Q M ax e q
 obtain⟨xs,e1,e⟩:=Option.bind_eq_some_iff.mp (show ((lstOf dx m).bind fun xs=>(blsOf xs).map fun bs=>(D.bl (bs.all id),m))=some (d,m') from e)
 obtain⟨bs,e2,e⟩:=Option.map_eq_some_iff.mp e
 cases e
 obtain⟨p,vs,rfl,h,as⟩:=lst_rd M ax e1
 cases ats_bls e2 as
 exact⟨p,bs,rfl,h,.of (q.here M rfl)⟩
variable{a:Expr}{pa:Ex}{p pos:Pos}
theorem sd_all(hc:X.calm=true)(hg:Gl X "all")(hm:X.mg "all" = none)(ha:PE X a (tD C X.K pa))(he:starEach [a] X.env=[(false,eval a X.env)]:=by rfl):PE X (.Call (.Name "all" p) [a] [] pos) (tD C X.K (.b1 .all pa)):=sd_b1 (call_all_list hc) snd_all PyProof.Rows.boot_all hg hm ha (by decide) (by decide) he
end
end WL
end
section
namespace WL
open PySem L2 PySem.Spec PyProof.Rows
def txts:List Value→Option (List D)
 | []=>some []
 | .str x _::r=>(txts r).map (.str x::·)
 | _=>none
def txtT(its:Array Value):Option D:=if its.size≤100 then (txts its.toList).map .tup else none
theorem txts_at{K:PySem.W.Frag}:∀ {l:List Value} {ds:List D},txts l=some ds→∃ vs,Vals vs l∧∀ ρ H,Ats K ρ H ds vs
 | [],ds,e=>by
  cases e
  exact⟨[],.nil,fun _ _=>rfl⟩
 | .str x t::r,ds,e=>by
  obtain⟨es,e1,rfl⟩:=Option.map_eq_some_iff.mp e
  obtain⟨vs,h1,h2⟩:=txts_at (K:=K) e1
  exact⟨.str x::vs,.cons ⟨t,rfl⟩ h1,fun ρ H=>⟨_,_,rfl,rfl,h2 ρ H⟩⟩
theorem GlAt.strs{K:PySem.W.Frag}{mg:Str→Option Value}{x:String}{a:Addr}{its:Array Value}{n:Nat}{d:D}(h:mg (Str.ofString x)=some (.ref a))(hl:K.lookup a=some { cls:=.type "tuple",data:=.seq its n })(he:txtT its=some d):GlAt K mg x d:=by
 unfold txtT at he
 split at he
 ·rename_i hs
  obtain⟨ds,e1,rfl⟩:=Option.map_eq_some_iff.mp he
  obtain⟨vs,h1,h2⟩:=txts_at (K:=K) e1
  exact⟨.ref a,.ref a,h,rfl,fun ρ H=>⟨a,vs,rfl,⟨_,rfl,rfl,Or.inr ⟨hl,its,n,rfl,Nat.le_trans hs (by decide),h1⟩⟩,h2 ρ H⟩⟩
 ·cases he
end WL
end
section
namespace PySem
def ZipG(h:Heap)(z TI TO:Addr)(o1:Value)(b:Bool):Prop:=h.get? z=some { cls:=.type "zip",data:=.fields #[o1,.bool b,.bool false,.ref TI,.ref TO] }
section
variable{prog:Program}{w:World}{A:Around}{E:Value→Shared→Prop}{s:Shared}{z TI TO i1 i2 l1 l2 p:Addr}{S1 S2:Nat→Heap→Prop}{xs ys:Array Value}{k:Nat}{b:Bool}
theorem wpAny_loadIfAlive{α:Type}{M:Model}{a:Addr}{f:Option Obj→Sem α}{Q:α→Shared→Prop}(h:wpAny M A (f (s.heap.get? a)) Q E s):wpAny M A (loadIfAlive a >>= f) Q E s:=h
theorem zg_next(D:ZApart z TI TO i1 i2 l1 l2)(d1:Drw prog w i1 l1 S1 xs)(d2:Drw prog w i2 l2 S2 ys)(hz:ZipG s.heap z TI TO (rawInt p) b)(hp:(s.heap.get? p).isSome=true)(hTI:IsPair s.heap TI (.ref i1) (.ref i2))(h1:S1 k s.heap)(h2:S2 k s.heap){Q:Value→Shared→Prop}
  (h:(∃ x y,xs[k]?=some x∧ys[k]?=some y∧∀ h',ZipG h' z TI TO (rawInt p) true→S1 (k+1) h'→S2 (k+1) h'→IsPair h' s.heap.objs.size x y→(∀ c o,c≠z→c≠i1→c≠i2→s.heap.get? c=some o→h'.get? c=some o)→Q (.ref s.heap.objs.size) { s with heap:=h' })∨
   (A.handled=none∧(xs[k]?=none∨ys[k]?=none)∧∀ h' e,(∀ c o,c≠z→c≠i1→c≠i2→s.heap.get? c=some o→h'.get? c=some o)→(∃ o,h'.get? e=some o∧o.cls=.type "StopIteration")→E (.ref e) { s with heap:=h' })) :
  wpAny (model prog w) A (Builtin.«zip.__next__» ⟨[.ref z],[]⟩) (fun fin s'=>∃ v,fin=.done (.ret v)∧Q v s') E s:=by
 show wpAny _ _ (field (.ref z) 2 >>= _) _ _ _
 refine wpAny_bind (wpAny_field hz rfl (x:=.bool false) rfl ?_);show wpAny _ _ (field (.ref z) 3 >>= _) _ _ _
 refine wpAny_bind (wpAny_field hz rfl (x:=.ref TI) rfl (wpAny_bind (wpAny_seqItems hTI rfl ?_)))
 show wpAny _ _ (Builtin.SmallTypes.ownedTupleIsFree (.ref z) >>= _) _ _ _
 obtain⟨op,hop⟩:=Option.isSome_iff_exists.mp hp
 have free:wpAny (model prog w) A (Builtin.SmallTypes.ownedTupleIsFree (.ref z)) (fun a s'=>a=false∧∃ ha,s'={ s with heap:=ha }∧ZipG ha z TI TO (rawInt p) true∧Heap.SameBut z s.heap ha) E s:=by
  unfold Builtin.SmallTypes.ownedTupleIsFree
  refine wpAny_bind (wpAny_field hz rfl (x:=rawInt p) rfl ?_)
  refine wpAny_loadIfAlive ?_
  rw[show (Int.toNat (p:Int))=p from Int.toNat_natCast p,hop]
  simp only[Option.isNone_some,Bool.false_eq_true,if_false]
  refine wpAny_bind (wpAny_field hz rfl (x:=.bool b) rfl ?_)
  cases b with
  | true=>exact wpAny_pure ⟨rfl,s.heap,rfl,hz,Heap.SameBut.refl _ _⟩
  | false=>exact wpAny_bind (wpAny_setField_rec hz (by simp) fun ha hza sa=>wpAny_pure ⟨rfl,ha,rfl,hza,sa⟩)
 refine wpAny_bind (wpAny_mono free (fun a s' hq0=>?_) fun _ _ x=>x)
 obtain⟨ea,ha,es,hza,sa⟩:=hq0
 subst ea es
 have nd:=D.nd
 simp only[List.nodup_cons,List.mem_cons,List.not_mem_nil,or_false,not_or,List.nodup_nil,not_false_eq_true,and_true]at nd
 obtain⟨⟨zTI,zTO,zi1,zi2⟩,⟨TITO,TIi1,TIi2⟩,⟨TOi1,TOi2⟩,i12⟩:=nd
 have D1:=D.l1;have D2:=D.l2
 simp only[List.mem_cons,List.not_mem_nil,or_false,not_or]at D1 D2
 obtain⟨l1z,l1TO,l1i1,l1i2⟩:=D1
 obtain⟨l2z,l2TO,l2i1,l2i2⟩:=D2
 have h1a:S1 k ha:=d1.ext k _ _ h1 fun c o hc e=>sa.extBut c o (by rcases hc with rfl | rfl;exact Ne.symm zi1;exact l1z) e
 have h2a:S2 k ha:=d2.ext k _ _ h2 fun c o hc e=>sa.extBut c o (by rcases hc with rfl | rfl;exact Ne.symm zi2;exact l2z) e
 simp only[Bool.false_eq_true,if_false]
 refine wpAny_bind ?_
 rw[← Array.forIn_toList]
 simp only[List.forIn_cons,List.forIn_nil]
 refine wpAny_bind (wpAny_bind (wpAny_holding ?_));show wpAny _ _ (Builtin.SmallTypes.nextOf (.ref i1) >>= _) _ _ _
 refine wpAny_bind ?_
 cases hx:xs[k]? with
 | none=>
  have h':A.handled=none∧∀ h' e,(∀ c o,c≠z→c≠i1→c≠i2→s.heap.get? c=some o→h'.get? c=some o)→(∃ o,h'.get? e=some o∧o.cls=.type "StopIteration")→E (.ref e) { s with heap:=h' }:=by
   rcases h with ⟨x,_,e,_⟩ | ⟨hh,_,q⟩
   ·rw[hx]at e;cases e
   ·exact⟨hh,q⟩
  exact d1.stop _ _ _ k _ h'.1 h1a hx fun hb e sb he=>h'.2 hb e (fun c o c1 c2 _ x=>sb _ _ c2 (sa.extBut _ _ c1 x)) he
 | some x=>
  refine d1.item _ _ _ k x _ h1a hx fun hb h1b sb=>wpAny_pure (wpAny_pure ?_)
  have h2b:S2 k hb:=d2.ext k _ _ h2a fun c o hc e=>sb.extBut c o (by rcases hc with rfl | rfl;exact Ne.symm i12;exact l2i1) e
  have kb:∀ c o,c≠z→c≠i1→s.heap.get? c=some o→hb.get? c=some o:=fun c o c1 c2 e=>sb.extBut _ _ c2 (sa.extBut _ _ c1 e)
  refine wpAny_bind (wpAny_bind (wpAny_holding ?_));show wpAny _ _ (Builtin.SmallTypes.nextOf (.ref i2) >>= _) _ _ _
  refine wpAny_bind ?_
  cases hy:ys[k]? with
  | none=>
   have h':A.handled=none∧∀ h' e,(∀ c o,c≠z→c≠i1→c≠i2→s.heap.get? c=some o→h'.get? c=some o)→(∃ o,h'.get? e=some o∧o.cls=.type "StopIteration")→E (.ref e) { s with heap:=h' }:=by
    rcases h with ⟨_,y,_,e,_⟩ | ⟨hh,_,q⟩
    ·rw[hy]at e;cases e
    ·exact⟨hh,q⟩
   exact d2.stop _ _ _ k _ h'.1 h2b hy fun hc e sc he=>h'.2 hc e (fun c o c1 c2 c3 x=>sc _ _ c3 (kb c o c1 c2 x)) he
  | some y=>
   have q:∀ h',ZipG h' z TI TO (rawInt p) true→S1 (k+1) h'→S2 (k+1) h'→IsPair h' s.heap.objs.size x y→(∀ c o,c≠z→c≠i1→c≠i2→s.heap.get? c=some o→h'.get? c=some o)→Q (.ref s.heap.objs.size) { s with heap:=h' }:=by
    rcases h with ⟨x',y',e1,e2,q⟩ | ⟨_,e | e,_⟩
    ·rw[hx]at e1;rw[hy]at e2;cases e1;cases e2;exact q
    ·rw[hx]at e;cases e
    ·rw[hy]at e;cases e
   refine d2.item _ _ _ k y _ h2b hy fun hc h2c sc=>wpAny_pure (wpAny_pure (wpAny_pure ?_))
   have hsz:hc.objs.size=s.heap.objs.size:=by rw[sc.1,sb.1,sa.1]
   have h1c:S1 (k+1) hc:=d1.ext _ _ _ h1b fun c o hc' e=>sc.extBut c o (by rcases hc' with rfl | rfl;exact i12;exact l1i2) e
   have hzc:ZipG hc z TI TO (rawInt p) true:=sc.extBut _ _ zi2 (sb.extBut _ _ zi1 hza)
   refine wpAny_bind (wpAny_newTuple (hsz:=by show 2≤sizeLine;decide) (wpAny_pure ⟨_,rfl,?_⟩))
   show Q (.ref hc.objs.size) _
   have hk:∀ c o,hc.get? c=some o→(hc.push { cls:=.type "tuple",data:=.seq #[x,y] }).get? c=some o:=fun c o e=>Heap.get?_push_of_some _ e
   have hT:IsPair (hc.push { cls:=.type "tuple",data:=.seq #[x,y] }) hc.objs.size x y:=Heap.get?_push_size _ rfl
   rw[hsz]at hT ⊢
   exact q _ (hk _ _ hzc) (d1.ext _ _ _ h1c fun c o _ e=>hk c o e) (d2.ext _ _ _ h2c fun c o _ e=>hk c o e) hT fun c o c1 c2 c3 e=>hk c o (sc.extBut _ _ c3 (kb c o c1 c2 e))
end
end PySem
end
section
namespace PySem
open Sem (wp)
namespace F
theorem zl_nolen:typeLookup (.type "zip") "__len__" = pure none:=by rw[typeLookup_type,builtinLookup_eq_fast];kernel_rfl
theorem zl_nohint:typeLookup (.type "zip") "__length_hint__" = pure none:=by rw[typeLookup_type,builtinLookup_eq_fast];kernel_rfl
end F
structure ZS(z TI TO i1 i2 a b:Addr)(k:Nat)(h:Heap):Prop where
 rc:IsZip h z TI TO .none∨∃ (p:Addr) (q:Bool),ZipG h z TI TO (rawInt p) q∧(h.get? p).isSome=true∧p≠z∧p≠i1∧p≠i2
 ti:IsPair h TI (.ref i1) (.ref i2)
 to:∃ x y,IsPair h TO x y
 s1:h.IsListIter i1 a k
 s2:h.IsListIter i2 b k
section
variable{prog:Program}{w:World}{A:Around}{E:Value→Shared→Prop}{s:Shared}{z TI TO i1 i2 a b:Addr}{xs ys:Array Value}{k:Nat}
theorem zs_next(D:ZApart z TI TO i1 i2 a b)(Z:ZS z TI TO i1 i2 a b k s.heap)(ha:s.heap.IsList a xs)(hb:s.heap.IsList b ys){Q:Option Value→Shared→Prop}
  (h:(∃ x y,xs[k]?=some x∧ys[k]?=some y∧∀ h',ZS z TI TO i1 i2 a b (k+1) h'→IsPair h' s.heap.objs.size x y→(∀ c o,c∉[z,TO,i1,i2]→s.heap.get? c=some o→h'.get? c=some o)→Q (some (.ref s.heap.objs.size)) { s with heap:=h' })∨
   (A.handled=none∧(xs[k]?=none∨ys[k]?=none)∧∀ h',(∀ c o,c∉[z,TO,i1,i2]→s.heap.get? c=some o→h'.get? c=some o)→Q none { s with heap:=h' })) :
  wpAny (model prog w) A (pyNext (.ref z)) Q E s:=by
 have D1:=D.l1;have D2:=D.l2
 simp only[List.mem_cons,List.not_mem_nil,or_false,not_or]at D1 D2
 have nd:=D.nd
 simp only[List.nodup_cons,List.mem_cons,List.not_mem_nil,or_false,not_or,List.nodup_nil,not_false_eq_true,and_true]at nd
 have d1:=drw_list (prog:=prog) (w:=w) (xs:=xs) D1.2.2.1
 have d2:=drw_list (prog:=prog) (w:=w) (xs:=ys) D2.2.2.2
 have lt:∀ {c:Addr} {o:Obj},s.heap.get? c=some o→s.heap.objs.size≠c:=fun e=>Nat.ne_of_gt (Heap.lt_size e)
 obtain⟨o1,e1,_⟩:=id Z.s1
 obtain⟨o2,e2,_⟩:=id Z.s2
 rcases Z.rc with hz | ⟨p,q,hz,hp,pz,p1,p2⟩
 ·obtain⟨x0,y0,hTO⟩:=Z.to
  refine zp_pyNext D d1 d2 hz Z.ti hTO ⟨Z.s1,ha⟩ ⟨Z.s2,hb⟩ ?_
  rcases h with ⟨x,y,q1,q2,q3⟩ | ⟨hh,q1,q2⟩
  ·refine .inl ⟨x,y,q1,q2,fun h' g1 g2 g3 g4 g5 g6=>q3 h' ⟨.inr ⟨_,false,g1,by rw[show h'.get? s.heap.objs.size=_ from g5];rfl,lt hz,lt e1,lt e2⟩,g6 _ _ (Ne.symm nd.1.1) nd.2.1.1 nd.2.1.2.1 nd.2.1.2.2 Z.ti,⟨x,y,g2⟩,g3.1,g4.1⟩ g5 fun c o hc e=>?_⟩
   simp only[List.mem_cons,List.not_mem_nil,or_false,not_or]at hc
   exact g6 c o hc.1 hc.2.1 hc.2.2.1 hc.2.2.2 e
  ·refine .inr ⟨hh,q1,fun h' g6=>q2 h' fun c o hc e=>?_⟩
   simp only[List.mem_cons,List.not_mem_nil,or_false,not_or]at hc
   exact g6 c o hc.1 hc.2.1 hc.2.2.1 hc.2.2.2 e
 ·have hT:s.TypeIs (.ref z) "zip":=⟨_,hz,rfl⟩
  obtain⟨x0,y0,hTO⟩:=Z.to
  unfold pyNext
  refine wpAny_bind (wpAny_attempt (wpAny_callSpecial?_slot (name:=Str.ofString "__next__") hT F.slot_zip_next (wpAny_call_entry F.slot_zip_next hT F.entry_zip_next (zg_next (A:=A.in1) D d1 d2 hz hp Z.ti ⟨Z.s1,ha⟩ ⟨Z.s2,hb⟩ ?_) (F.args_zip_next_1 _))))
  rcases h with ⟨x,y,q1,q2,q3⟩ | ⟨hh,q1,q2⟩
  ·refine .inl ⟨x,y,q1,q2,fun h' g1 g3 g4 g5 g6=>wpAny_pure (q3 h' ⟨.inr ⟨p,true,g1,?_,pz,p1,p2⟩,g6 _ _ (Ne.symm nd.1.1) nd.2.1.2.1 nd.2.1.2.2 Z.ti,⟨x0,y0,g6 _ _ (Ne.symm nd.1.2.1) nd.2.2.1.1 nd.2.2.1.2 hTO⟩,g3.1,g4.1⟩ g5 fun c o hc e=>?_)⟩
   ·obtain⟨op,hop⟩:=Option.isSome_iff_exists.mp hp
    rw[g6 p op pz p1 p2 hop];rfl
   ·simp only[List.mem_cons,List.not_mem_nil,or_false,not_or]at hc
    exact g6 c o hc.1 hc.2.2.1 hc.2.2.2 e
  ·refine .inr ⟨hh,q1,fun h' e g6 ⟨o,ho,hc⟩=>?_⟩
   refine wpAny_bind (wpAny_isInstance (T:="StopIteration") (b:=true) ⟨o,ho,hc⟩ isSubtype_stop (wpAny_pure (q2 h' fun c o hc e=>?_)))
   simp only[List.mem_cons,List.not_mem_nil,or_false,not_or]at hc
   exact g6 c o hc.1 hc.2.2.1 hc.2.2.2 e
end
end PySem
namespace L2
open PySem PySem.Spec PyProof.Rows
theorem Inv.tracked{X:Cx}{pins:List (Addr×Obj)}{σ:St}{H:Hp}{s:Shared}{p:Addr}{o:HO}(I:Inv X pins σ H s)(f:FpOk X pins H p)(new:ObjOk X.prog X.w (upd H p o) s.heap p o):Inv X pins σ (upd H p o) s:=by
 have hn:=f.1
 have up:∀ b u,H b=some u→upd H p o b=some u:=fun b u e=>by rw[upd_ne (ne_of_none e hn)];exact e
 refine I.step (h':=s.heap) (t':=s.toks) (g':=s.gens) (d':=s.drawn) (ch:=[p]) (fun b hb=>?_) (fun b ob _ _ _ e _=>e) (fun b ob _ _ _ e _=>⟨ob.slots,e⟩)
  (fun b ob hc e n=>by rw[upd_ne (fun z=>hc (by simp[z]))];exact n) (fun b ob _ e=>⟨ob,e⟩) (fun b xs e=>up b _ e) (fun b u xs e=>up b _ e) (fun b ps e=>⟨#[],by rw[up b _ e];simp⟩) (fun m hm=>hm) (fun b u e=>?_) I.bare
 ·rw[List.mem_singleton.mp hb]
  exact⟨f.2.2.2.1,f.2.1,f.2.2.2.2.1,f.2.2.2.2.2⟩
 ·by_cases hb:b=p
  ·subst hb;rw[upd_same]at e;cases e;exact new
  ·rw[upd_ne hb]at e
   exact(I.hok b u e).stay (fun c v _ q=>q) (fun c q=>up c _ q) fun c xs q=>up c _ q
def ZI(H:Hp)(xs ys vs:List V):Prop:=∀ (j:Nat) (v:V),vs[j]?=some v→∃ (x y:V) (p:Addr) (o:Obj),xs[j]?=some x∧ys[j]?=some y∧v=.ref p∧H p=some (.frz o (.tup [x,y]))∧o.cls=.type "tuple"∧o.dict=none
def SubH(H H':Hp):Prop:=∀ c u,H c=some u→H' c=some u
section
variable{X:Cx}{pins:List (Addr×Obj)}{σ:St}{z TI TO i1 i2 a b S:Addr}{xs ys:List V}{oa ob:Obj}
theorem zl_loop{A:Around}(hA:A.handled=none)(D:ZApart z TI TO i1 i2 a b)(hS:S∉[z,TI,TO,i1,i2,a,b])(hl:min xs.length ys.length≤1000){R:Result→Shared→Prop}:
  ∀ (m k:Nat) (s:Shared) (H:Hp) (acc:Array Value) (c:Nat) (vs:List V),min xs.length ys.length-k=m→k≤min xs.length ys.length→Inv X pins σ H s→(∀ e∈[z,TI,TO,i1,i2,S],FpOk X pins H e)→
   H a=some (.frz oa (.lst xs))→H b=some (.frz ob (.lst ys))→ZS z TI TO i1 i2 a b k s.heap→s.heap.get? S=some { cls:=.type "list",data:=.seq acc c }→Vals vs acc.toList→vs.length=k→ZI H xs ys vs→
   (∀ h' H' acc' c' vs',Inv X pins σ H' { s with heap:=h' }→FpOk X pins H' S→h'.get? S=some { cls:=.type "list",data:=.seq acc' c' }→Vals vs' acc'.toList→vs'.length=min xs.length ys.length→ZI H' xs ys vs'→SubH H H'→R (.ok (.ret .none)) { s with heap:=h' })→
   codeAny (model X.prog X.w) A (.builtin "list.extend.loop" ⟨[.ref S,.ref z,.none],[]⟩) R s:=by
 have nd:=D.nd
 simp only[List.nodup_cons,List.mem_cons,List.not_mem_nil,or_false,not_or,List.nodup_nil,not_false_eq_true,and_true]at nd
 simp only[List.mem_cons,List.not_mem_nil,or_false,not_or]at hS
 obtain⟨Sz,STI,STO,S1,S2,Sa,Sb⟩:=hS
 intro m
 induction m with
 | zero=>
  intro k s H acc c vs hm hk I hf ha hb Z hL hv hvl hz hR
  obtain⟨its,r1,p1,_⟩:=I.list (.inl (.inr ⟨oa,ha⟩):SqL X.K H a xs)
  obtain⟨jts,r2,p2,_⟩:=I.list (.inl (.inr ⟨ob,hb⟩):SqL X.K H b ys)
  have l1:=r1.length
  have l2:=r2.length
  refine codeAny_builtin PySem.F.entry_extend_loop ?_
  rw[Around.under_plainId PySem.F.plain_extend_loop _]
  show wpAny _ A.in1 (pyNext (.ref z) >>= _) _ _ s
  refine wpAny_bind (zs_next D Z p1.isList p2.isList (.inr ⟨by simp[hA],?_,fun h' hk'=>?_⟩))
  ·rcases(show xs.length≤k∨ys.length≤k by omega) with q | q
   ·left;simp;omega
   ·right;simp;omega
  ·have I1:Inv X pins σ H { s with heap:=h' }:=I.turnedL (t':=s.toks) (fp:=[z,TI,TO,i1,i2,S]) hf fun e o he q=>hk' e o (fun w=>he (by simp only[List.mem_cons,List.not_mem_nil,or_false]at w ⊢;rcases w with rfl | rfl | rfl | rfl<;>simp)) q
   refine wpAny_pure (hR h' H acc c vs I1 (hf S (by simp)) (hk' S _ (by simp[Sz,STO,S1,S2]) hL) hv (by omega) hz fun _ _ q=>q)
 | succ m ih=>
  intro k s H acc c vs hm hk I hf ha hb Z hL hv hvl hz hR
  obtain⟨its,r1,p1,_⟩:=I.list (.inl (.inr ⟨oa,ha⟩):SqL X.K H a xs)
  obtain⟨jts,r2,p2,_⟩:=I.list (.inl (.inr ⟨ob,hb⟩):SqL X.K H b ys)
  have hk1:k<xs.length:=by omega
  have hk2:k<ys.length:=by omega
  obtain⟨u,eu,ru⟩:=r1.get (List.getElem?_eq_getElem hk1)
  obtain⟨v,ev,rv⟩:=r2.get (List.getElem?_eq_getElem hk2)
  refine codeAny_builtin PySem.F.entry_extend_loop ?_
  rw[Around.under_plainId PySem.F.plain_extend_loop _]
  show wpAny _ A.in1 (pyNext (.ref z) >>= _) _ _ s
  refine wpAny_bind (zs_next D Z p1.isList p2.isList (.inl ⟨u,v,by simpa using eu,by simpa using ev,fun h' Z' hT hk'=>?_⟩))
  have hL':h'.get? S=some { cls:=.type "list",data:=.seq acc c }:=hk' S _ (by simp[Sz,STO,S1,S2]) hL
  have hacc:acc.size=k:=by rw[← hvl,hv.length,Array.length_toList]
  have hSlt:=Heap.lt_size hL
  have line:(1002:Nat)≤sizeLine:=by decide
  show wpAny _ A.in1 (updateSeq S (·.push (.ref s.heap.objs.size)) >>= _) _ _ _
  refine wpAny_bind ?_
  refine wpAny_updateSeq hL' rfl (wpAny_pure ⟨plainId_quiet PySem.F.plain_extend_loop _,?_⟩) (by omega) (by show (acc.push _).size≤sizeLine+1;rw[Array.size_push];omega)
  generalize hH:h'.update S (Obj.mapSeq (·.push (.ref s.heap.objs.size)))=h2
  obtain⟨c2,hL2⟩:∃ c2,h2.get? S=some { cls:=.type "list",data:=.seq (acc.push (.ref s.heap.objs.size)) c2 }:=⟨_,by rw[← hH];exact Heap.get?_update_self (Obj.mapSeq (·.push (.ref s.heap.objs.size))) hL' rfl⟩
  have k2:∀ e o,e≠S→h'.get? e=some o→h2.get? e=some o:=fun e o he q=>by rw[← hH];exact(Heap.get?_update_other _ _ (Ne.symm he)).trans q
  have hT2:h2.get? s.heap.objs.size=some { cls:=.type "tuple",data:=.seq #[u,v] }:=k2 _ _ (Nat.ne_of_gt hSlt) hT
  have fresh:=I.hok.fresh (Nat.le_refl s.heap.objs.size)
  have hkk:∀ e o,e∉[z,TI,TO,i1,i2,S]→s.heap.get? e=some o→h2.get? e=some o:=fun e o he q=>by
   simp only[List.mem_cons,List.not_mem_nil,or_false,not_or]at he
   exact k2 e o he.2.2.2.2.2 (hk' e o (by simp[he.1,he.2.2.1,he.2.2.2.1,he.2.2.2.2.1]) q)
  have I2:Inv X pins σ (upd H s.heap.objs.size (.frz { cls:=.type "tuple",data:=.seq #[u,v] } (.tup [xs[k],ys[k]]))) { s with heap:=h2 }:=
   I.turnedNew (t':=s.toks) (fp:=[z,TI,TO,i1,i2,S]) hf hkk (Nat.le_refl _) ⟨hT2,by show 2≤sizeLine;decide,[u,v],.cons ru (.cons rv .nil),⟨_,hT2,rfl,_,rfl⟩⟩
  have sub:SubH H (upd H s.heap.objs.size (.frz { cls:=.type "tuple",data:=.seq #[u,v] } (.tup [xs[k],ys[k]]))):=fun e w q=>by rw[upd_ne (ne_of_none q fresh)];exact q
  have there:∀ e∈[z,TI,TO,i1,i2,S],e<s.heap.objs.size:=fun e he=>by
   simp only[List.mem_cons,List.not_mem_nil,or_false]at he
   obtain⟨x0,y0,hTO⟩:=Z.to
   obtain⟨o1,e1,_⟩:=id Z.s1
   obtain⟨o2,e2,_⟩:=id Z.s2
   rcases he with rfl | rfl | rfl | rfl | rfl | rfl
   ·rcases Z.rc with q | ⟨_,_,q,_⟩<;>exact Heap.lt_size q
   ·exact Heap.lt_size Z.ti
   ·exact Heap.lt_size hTO
   ·exact Heap.lt_size e1
   ·exact Heap.lt_size e2
   ·exact hSlt
  have hf2:∀ e∈[z,TI,TO,i1,i2,S],FpOk X pins (upd H s.heap.objs.size (.frz { cls:=.type "tuple",data:=.seq #[u,v] } (.tup [xs[k],ys[k]]))) e:=fun e he=>
   ⟨by rw[upd_ne (Nat.ne_of_lt (there e he))];exact(hf e he).1,(hf e he).2⟩
  have Z2:ZS z TI TO i1 i2 a b (k+1) h2:=by
   have up:∀ e o,e≠S→h'.get? e=some o→h2.get? e=some o:=k2
   have hp:∀ e,(h'.get? e).isSome=true→(h2.get? e).isSome=true:=fun e q=>by
    obtain⟨o,ho⟩:=Option.isSome_iff_exists.mp q
    by_cases he:e=S
    ·rw[he,hL2];rfl
    ·rw[up e o he ho];rfl
   refine⟨?_,up _ _ (Ne.symm STI) Z'.ti,?_,Z'.s1.at fun o q=>up _ _ (Ne.symm S1) q,Z'.s2.at fun o q=>up _ _ (Ne.symm S2) q⟩
   ·rcases Z'.rc with q | ⟨p,q,r1,r2,r3⟩
    ·exact .inl (up _ _ (Ne.symm Sz) q)
    ·exact .inr ⟨p,q,up _ _ (Ne.symm Sz) r1,hp p r2,r3⟩
   ·obtain⟨x0,y0,q⟩:=Z'.to
    exact⟨x0,y0,up _ _ (Ne.symm STO) q⟩
  refine ih (k+1) _ _ (acc.push (.ref s.heap.objs.size)) c2 (vs++[.ref s.heap.objs.size]) (by omega) (by omega) I2 hf2 (sub _ _ ha) (sub _ _ hb) Z2 hL2 ?_ (by simp[hvl]) ?_ fun h3 H3 acc3 c3 vs3 q1 q2 q3 q4 q5 q6 q7=>hR h3 H3 acc3 c3 vs3 q1 q2 q3 q4 q5 q6 fun e w q=>q7 e w (sub e w q)
  ·rw[Array.toList_push]
   exact hv.append (.cons rfl .nil)
  ·intro j w hj
   by_cases hlt:j<vs.length
   ·rw[List.getElem?_append_left hlt]at hj
    obtain⟨x,y,p,o,e1,e2,e3,e4,e5⟩:=hz j w hj
    exact⟨x,y,p,o,e1,e2,e3,sub _ _ e4,e5⟩
   ·have hj':j=k:=by
     have:=(List.getElem?_eq_some_iff.mp hj).1
     simp at this
     omega
    subst hj'
    have ew:w=.ref s.heap.objs.size:=by
     have:(vs++[V.ref s.heap.objs.size])[j]?=some (V.ref s.heap.objs.size):=by rw[← hvl];simp
     rw[this]at hj
     exact(Option.some.inj hj).symm
    exact⟨xs[j],ys[j],_,_,List.getElem?_eq_getElem hk1,List.getElem?_eq_getElem hk2,ew,upd_same,rfl,rfl⟩
end
end L2
end
section
namespace L2
open PySem PySem.Spec PyProof.Rows
section
variable{X:Cx}{pins:List (Addr×Obj)}{σ:St}{H:Hp}{s:Shared}{z TI TO i1 i2 a b:Addr}{xs ys:List V}{oa ob:Obj}
theorem zl_hint{A:Around}{E:Value→Shared→Prop}{h:Heap}(hz:IsZip h z TI TO .none){t:Shared}(ht:t.heap=h){Q:Bool→Shared→Prop}(q:Q true t):wpAny (model X.prog X.w) A (Builtin.List.listLengthHint (.ref z)) Q E t:=by
 have hT:t.TypeIs (.ref z) "zip":=⟨_,by rw[ht];exact hz,rfl⟩
 unfold Builtin.List.listLengthHint
 refine wpAny_bind (wpAny_specialOf hT PySem.F.zl_nolen ?_)
 refine wpAny_bind (wpAny_specialOf hT PySem.F.zl_nohint ?_)
 exact wpAny_pure q
theorem zl_list{A:Around}(hA:A.handled=none){E:Value→Shared→Prop}(D:ZApart z TI TO i1 i2 a b)(hl:min xs.length ys.length≤1000)(I:Inv X pins σ H s)(hf:∀ e∈[z,TI,TO,i1,i2],FpOk X pins H e)(ha:H a=some (.frz oa (.lst xs)))(hb:H b=some (.frz ob (.lst ys)))(hz:IsZip s.heap z TI TO .none)(hTI:IsPair s.heap TI (.ref i1) (.ref i2))(hTO:∃ x y,IsPair s.heap TO x y)(h1:s.heap.IsListIter i1 a 0)(h2:s.heap.IsListIter i2 b 0){Q:Value→Shared→Prop}
  (hQ:∀ S h' H' vs,Inv X pins σ (upd H' S (.lst vs)) { s with heap:=h' }→H' S=none→vs.length=min xs.length ys.length→ZI H' xs ys vs→SubH H H'→Q (.ref S) { s with heap:=h' }) :
  wpAny (model X.prog X.w) A (call (.type "list") [.ref z]) Q E s:=by
 obtain⟨x0,y0,hTO⟩:=hTO
 obtain⟨oi1,ei1,_⟩:=id h1
 obtain⟨oi2,ei2,_⟩:=id h2
 obtain⟨its,r1,p1,_⟩:=I.list (.inl (.inr ⟨oa,ha⟩):SqL X.K H a xs)
 obtain⟨jts,r2,p2,_⟩:=I.list (.inl (.inr ⟨ob,hb⟩):SqL X.K H b ys)
 obtain⟨ola,nla,ela,_⟩:=id p1
 obtain⟨olb,nlb,elb,_⟩:=id p2
 have fresh:=I.hok.fresh (Nat.le_refl s.heap.objs.size)
 have lt:∀ {c:Addr} {o:Obj},s.heap.get? c=some o→s.heap.objs.size≠c:=fun e=>Nat.ne_of_gt (Heap.lt_size e)
 have hS:s.heap.objs.size∉[z,TI,TO,i1,i2,a,b]:=by
  simp only[List.mem_cons,List.not_mem_nil,or_false,not_or]
  exact⟨lt hz,lt hTI,lt hTO,lt ei1,lt ei2,lt ela,lt elb⟩
 refine callType_codes (Q₁:=fun obj s₁=>obj=.ref s.heap.objs.size∧s₁={ s with heap:=s.heap.push { cls:=.type "list",data:=.seq #[] } }) PySem.F.called_list (PySem.F.typeCall_list_1 _) PySem.F.entry_list_init (code_list_new _ ⟨rfl,rfl⟩) ?_
 rintro obj s₁ ⟨rfl,rfl⟩
 have hL:(s.heap.push { cls:=.type "list",data:=.seq #[] }).get? s.heap.objs.size=some { cls:=.type "list",data:=.seq #[] }:=Heap.get?_push_size _ rfl
 refine⟨⟨_,hL,rfl⟩,PySem.F.args_list_init_2 _ _,?_⟩
 generalize hH:s.heap.push { cls:=.type "list",data:=.seq #[] }=H1 at hL
 have k1:∀ c o,s.heap.get? c=some o→H1.get? c=some o:=fun c o e=>by rw[← hH];exact Heap.get?_push_of_some _ e
 have loop:∀ (h:Heap) (c:Nat),h.get? s.heap.objs.size=some { cls:=.type "list",data:=.seq #[] c }→(∀ c o,s.heap.get? c=some o→h.get? c=some o)→
   codeAny (model X.prog X.w) A.in1 (.builtin "list.extend.loop" ⟨[.ref s.heap.objs.size,.ref z,.none],[]⟩) (wants (fun r s₂=>r=.none∧Q (.ref s.heap.objs.size) s₂) E) { s with heap:=h }:=by
  intro h c e1 e2
  have I1:Inv X pins σ H { s with heap:=h }:=I.kept (t':=s.toks) e2
  refine zl_loop (by simp[hA]) D hS hl (min xs.length ys.length) 0 { s with heap:=h } H #[] c [] rfl (Nat.zero_le _) I1 (fun e he=>?_) ha hb ⟨.inl (e2 _ _ hz),e2 _ _ hTI,⟨x0,y0,e2 _ _ hTO⟩,h1.at fun o q=>e2 _ _ q,h2.at fun o q=>e2 _ _ q⟩ e1 .nil rfl (fun j v q=>by simp at q) fun h' H' acc' c' vs' q1 q2 q3 q4 q5 q6 q7=>⟨rfl,?_⟩
  ·rcases List.mem_append.mp (show e∈[z,TI,TO,i1,i2]++[s.heap.objs.size] by simpa using he) with he | he
   ·exact hf e he
   ·rw[List.mem_singleton.mp he];exact I.fpOk (Nat.le_refl _) fresh
  ·have I2:Inv X pins σ (upd H' s.heap.objs.size (.lst vs')) { s with heap:=h' }:=by
    refine q1.tracked q2 ⟨?_,acc'.toList,c',q4,by simpa using q3⟩
    rw[q5]
    exact Nat.le_trans hl (by decide)
   exact hQ _ h' H' vs' I2 q2.1 q5 q6 q7
 unfold Builtin.«list.__init__»
 show wpAny _ _ (do let old ← Builtin.List.listItems (.ref s.heap.objs.size);Builtin.List.listUpdate (.ref s.heap.objs.size) (fun _=>#[]);letGo old.toList.reverse;Builtin.List.listExtendWith (.ref s.heap.objs.size) (.ref z) .none) _ _ _
 refine wpAny_bind ?_
 unfold Builtin.List.listItems
 refine wpAny_bind (wpAny_seqItems hL rfl (wpAny_pure ?_))
 refine wpAny_bind (m:=updateSeq s.heap.objs.size (fun _=>#[])) (wpAny_updateSeq hL rfl ?_)
 have hL2:=Heap.get?_update_self (Obj.mapSeq (fun _=>(#[]:Array Value))) hL rfl
 have k2:∀ c o,s.heap.get? c=some o→(H1.update s.heap.objs.size (Obj.mapSeq (fun _=>(#[]:Array Value)))).get? c=some o:=fun c o e=>(Heap.get?_update_other _ _ (lt e)).trans (k1 c o e)
 generalize hH2:H1.update s.heap.objs.size (Obj.mapSeq (fun _=>(#[]:Array Value)))=H2 at hL2 k2
 refine wpAny_bind (wpAny_letGo ?_)
 unfold Builtin.List.listExtendWith
 refine wpAny_bind (wpAny_typeOf (T:="zip") ⟨_,k2 _ _ hz,rfl⟩ ?_)
 rw[if_neg (by simp[Builtin.List.listSameRef,lt hz])]
 refine wpAny_bind (wpAny_pyIter_zip (k2 _ _ hz) ?_)
 refine wpAny_bind (wpAny_holding (zl_hint (X:=X) (k2 _ _ hz) rfl ?_))
 refine wpAny_ite_split (fun _=>?_) (fun q=>absurd (by simp) q)
 refine wpAny_bind (wpAny_rule ?_)
 refine wpAny_bind ?_
 show wpAny _ _ (updateSeq s.heap.objs.size (·.push .none) >>= fun _=>updateSeq s.heap.objs.size (·.pop)) _ _ _
 refine wpAny_bind (wpAny_updateSeq hL2 rfl ?_)
 have hL3:=Heap.get?_update_self (Obj.mapSeq (·.push Value.none)) hL2 rfl
 refine wpAny_updateSeq (hz:=by seq_fits) hL3 rfl ?_
 have hL4:=Heap.get?_update_self (Obj.mapSeq (·.pop)) hL3 rfl
 exact wpAny_pure ⟨plainId_quiet PySem.F.plain_extend_loop _,loop _ _ hL4 fun c o e=>(Heap.get?_update_other _ _ (lt e)).trans ((Heap.get?_update_other _ _ (lt e)).trans (k2 c o e))⟩
end
end L2
end
section
namespace L2
open PySem PySem.Spec PyProof.Rows
section
variable{X:Cx}
def rZipL(vs:List V)(H1:Hp)(Q:VK):Prop:=∃ (a b:Addr) (oa ob:Obj) (xs ys:List V),vs=[.ref a,.ref b]∧H1 a=some (.frz oa (.lst xs))∧H1 b=some (.frz ob (.lst ys))∧min xs.length ys.length≤1000∧
 ∀ (S:Addr) (H':Hp) (ws:List V),H' S=none→ws.length=min xs.length ys.length→ZI H' xs ys ws→SubH H1 H'→Q (.ref S) (upd H' S (.lst ws))
theorem pe_lzip{l r:Expr}{ta:TA}{p1 p2 q1 q2:Pos}(hc:X.calm=true)(hg1:Gl X "list")(hm1:X.mg "list" = none)(hg2:Gl X "zip")(hm2:X.mg "zip" = none)(ha:PA X [l,r] ta)
  (hs1:starEach [Expr.Call (.Name "zip" p2) [l,r] [] q2] X.env=[(false,eval (.Call (.Name "zip" p2) [l,r] [] q2) X.env)]:=by rfl) (hs:starEach [l,r] X.env=[(false,eval l X.env),(false,eval r X.env)]:=by rfl) (hs2:starEach [r] X.env=[(false,eval r X.env)]:=by rfl) :
  PE X (.Call (.Name "list" p1) [.Call (.Name "zip" p2) [l,r] [] q2] [] q1) (fun σ H Q=>ta σ H fun vs H1=>rZipL vs H1 Q):=by
 intro pins s σ H Q I h
 refine Call_ (ld_blt I hg1 hm1 boot_list (PyProof.Rows.callWith_type1 ?_ hs1 rfl))
 have inner:wpAny (model X.prog X.w) X.A (eval (.Call (.Name "zip" p2) [l,r] [] q2) X.env)
   (fun v s1=>∃ z TI TO i1 i2 a b oa ob xs ys H1,v=.ref z∧ZApart z TI TO i1 i2 a b∧Inv X pins σ H1 s1∧(∀ e∈[z,TI,TO,i1,i2],FpOk X pins H1 e)∧H1 a=some (.frz oa (.lst xs))∧H1 b=some (.frz ob (.lst ys))∧IsZip s1.heap z TI TO .none∧IsPair s1.heap TI (.ref i1) (.ref i2)∧(∃ x y,IsPair s1.heap TO x y)∧s1.heap.IsListIter i1 a 0∧s1.heap.IsListIter i2 b 0∧min xs.length ys.length≤1000∧
    ∀ (S:Addr) (H':Hp) (ws:List V),H' S=none→ws.length=min xs.length ys.length→ZI H' xs ys ws→SubH H1 H'→Q (.ref S) (upd H' S (.lst ws))) X.xe s:=by
  refine Call_ (ld_blt I hg2 hm2 boot_zip (PyProof.Rows.callWith_type1 (thn (ha q2 pins s σ H _ I h) fun us s1 hq0=>?_) (by rw[hs,hs2]) (by rw[hs2];rfl)))
  obtain⟨vs,H1,I1,r1,q1⟩:=hq0
  obtain⟨a,b,oa,ob,xs,ys,rfl,hA,hB,hl,q⟩:=q1
  obtain⟨u,v,rfl,ru,rv⟩:=r1.two
  cases ru
  cases rv
  obtain⟨its,rx,px,hzx⟩:=I1.list (.inl (.inr ⟨oa,hA⟩):SqL X.K H1 a xs)
  obtain⟨jts,ry,py,hzy⟩:=I1.list (.inl (.inr ⟨ob,hB⟩):SqL X.K H1 b ys)
  obtain⟨ox,nx,ex,_⟩:=id px
  obtain⟨oy,ny,ey,_⟩:=id py
  refine call_zip_2 px.isList py.isList fun h' g1 g2 g3 g4 g5 _ hk=>?_
  have I2:Inv X pins σ H1 { s1 with heap:=h' }:=I1.kept (t':=s1.toks) hk
  refine⟨_,_,_,_,_,a,b,oa,ob,xs,ys,H1,rfl,zp_apart (Heap.lt_size ex) (Heap.lt_size ey),I2,fun c hc=>?_,hA,hB,g1,g2,⟨_,_,g3⟩,g4,g5,hl,q⟩
  have hb':s1.heap.objs.size≤c:=by
   simp only[List.mem_cons,List.not_mem_nil,or_false]at hc
   rcases hc with rfl | rfl | rfl | rfl | rfl
   ·exact Nat.le_add_right _ _
   ·exact Nat.le_add_right _ _
   ·exact Nat.le_add_right _ _
   ·exact Nat.le_refl _
   ·exact Nat.le_add_right _ _
  exact I1.fpOk hb' (I1.hok.fresh hb')
 rw[hs1]
 refine Calls.spliced_cons (thn inner fun v s1 hq0=>?_)
 obtain⟨z,TI,TO,i1,i2,a,b,oa,ob,xs,ys,H1,ev,D,I1,hf,hA,hB,hz,hTI,hTO,h1,h2,hl,q⟩:=hq0
 refine Calls.spliced_nil ?_
 subst ev
 exact zl_list (I1.ok.hd hc) D hl I1 hf hA hB hz hTI hTO h1 h2 fun S h' H' vs J n e1 e2 e3=>⟨.ref S,_,J,rfl,q S H' vs n e1 e2 e3⟩
end
end L2
end
section
namespace WL
open PySem PySem.Spec PyProof.Rows L2
section
variable{C:String→List D→Mem→Option (D×Mem)}{X:Cx}{a b:Expr}{pa pb:Ex}
theorem zi_at{K:PySem.W.Frag}{ρ:List Addr}{H:Hp}:∀ {ds es:List D} {xs ys ws:List V},Ats K ρ H ds xs→Ats K ρ H es ys→ws.length=min xs.length ys.length→ZI H xs ys ws→Ats K ρ H (zipD ds es) ws
 | [],es,xs,ys,ws,h1,h2,hl,hz=>by
  cases (show xs=[] from h1)
  have:ws=[]:=List.eq_nil_of_length_eq_zero (by rw[hl];simp)
  subst this
  rfl
 | d::ds,[],xs,ys,ws,h1,h2,hl,hz=>by
  cases (show ys=[] from h2)
  have:ws=[]:=List.eq_nil_of_length_eq_zero (by rw[hl];simp)
  subst this
  rfl
 | d::ds,e::es,xs,ys,ws,h1,h2,hl,hz=>by
  obtain⟨x,xs',rfl,ax,as⟩:=h1
  obtain⟨y,ys',rfl,ay,bs⟩:=h2
  cases ws with
  | nil=>simp at hl
  | cons w ws=>
   obtain⟨x',y',p,o,e1,e2,e3,e4,e5,e6⟩:=hz 0 w rfl
   have e1:x=x':=Option.some.inj e1
   have e2:y=y':=Option.some.inj e2
   subst e1 e2
   refine⟨w,ws,rfl,⟨p,[x,y],e3,⟨o,e5,e6,.inl e4⟩,x,[y],rfl,ax,y,[],rfl,ay,rfl⟩,zi_at as bs (by simp at hl;omega) fun j v hj=>?_⟩
   obtain⟨x',y',p,o,e1,e2,e3⟩:=hz (j+1) v (by simpa using hj)
   exact⟨x',y',p,o,by simpa using e1,by simpa using e2,e3⟩
theorem SubH.fz{H H':Hp}(h:SubH H H'):FzSub H H':=fun a o u e=>h a _ e
theorem SubH.go{H H':Hp}(h:SubH H H')(ρ:List Addr):Go ρ ρ H H':=⟨fun b o e _=>h b o e,List.prefix_rfl,fun _ h=>.inl h⟩
theorem SubH.mem{K:PySem.W.Frag}{ρ:List Addr}{m:Mem}{H H':Hp}(h:SubH H H')(M:MemAt K ρ m H):MemAt K ρ m H':=M.keep (SubH.fz h) fun a ha=>by
 obtain⟨u,e,_⟩:=M.there ha
 rw[h a u e,e]
theorem sd_lzip{mu:Bool}{p1 p2 q1 q2:Pos}(hc:X.calm=true)(hg1:Gl X "list")(hm1:X.mg "list" = none)(hg2:Gl X "zip")(hm2:X.mg "zip" = none)(ha:PE X a (tD C X.K pa))(hb:PE X b (tD C X.K pb))
  (hs1:starEach [Expr.Call (.Name "zip" p2) [a,b] [] q2] X.env=[(false,eval (.Call (.Name "zip" p2) [a,b] [] q2) X.env)]:=by rfl) (hs:starEach [a,b] X.env=[(false,eval a X.env),(false,eval b X.env)]:=by rfl) (hs2:starEach [b] X.env=[(false,eval b X.env)]:=by rfl) :
  PE X (.Call (.Name "list" p1) [.Call (.Name "zip" p2) [a,b] [] q2] [] q1) (tD C X.K (.lzip mu pa pb)):=(pe_lzip hc hg1 hm1 hg2 hm2 (pa_cons ha (pa_cons hb pa_nil hs2) (by rw[hs,hs2])) hs1 hs hs2).imf fun σ H Q hq0=>by
 obtain⟨σd,m,ρ,d,m',S,M,e,q⟩:=hq0
 obtain⟨⟨x,m1⟩,e1,e⟩:=Option.bind_eq_some_iff.mp e
 obtain⟨⟨y,m2⟩,e2,e⟩:=Option.bind_eq_some_iff.mp e
 refine⟨σd,m,ρ,x,m1,S,M,e1,fun v H1 ρ1 g1 M1 A1=>⟨σd,m1,ρ1,y,m2,S.mono M g1,M1,e2,fun u H2 ρ2 g2 M2 A2=>?_⟩⟩
 have A1':=A1.mono M1 g2
 cases x with
 | lst xs=>
  cases y with
  | lst ys=>
   have e:(if xs.length≤1000 then some (mkL mu (zipD xs ys) m2) else none)=some (d,m'):=e
   by_cases hl:xs.length≤1000
   ·rw[if_pos hl]at e
    have e':mkL mu (zipD xs ys) m2=(d,m'):=Option.some.inj e
    obtain⟨a1,o1,vs,rfl,h1,as⟩:=A1'
    obtain⟨a2,o2,us,rfl,h2,bs⟩:=A2
    have l1:=as.len
    refine⟨a1,a2,o1,o2,vs,us,rfl,h1,h2,by omega,fun p H' ws hp hw hz sub=>?_⟩
    have q':Beh X.K ρ2 H' (mkL mu (zipD xs ys) m2).1 (mkL mu (zipD xs ys) m2).2 Q:=by
     rw[e']
     exact(q.go (g1.trans g2)).go (SubH.go sub ρ2)
    exact q'.lst (SubH.mem sub M2) (zi_at (as.mono' (SubH.fz sub) (.refl _)) (bs.mono' (SubH.fz sub) (.refl _)) hw hz) hp
   ·rw[if_neg hl]at e
    cases e
  | _=>cases e
 | _=>cases e
end
end WL
end
section
namespace PySem
section
variable{prog:Program}{w:World}{A:Around}{E:Value→Shared→Prop}{s:Shared}
end
end PySem
end
section
namespace PySem
section
variable{prog:Program}{w:World}{A:Around}{E:Value→Shared→Prop}{s:Shared}
end
end PySem
namespace L2
open PySem PySem.Spec PyProof.Rows
section
variable{X:Cx}
end
end L2
end
section
namespace WL
open PySem PySem.Spec PyProof.Rows L2
section
variable{C:String→List D→Mem→Option (D×Mem)}{X:Cx}{a:Expr}{pa:Ex}{p q pos kp:Pos}{z:Int}{kk:Nat}
end
end WL
end
section
namespace PySem
def nmE(e:Int×Value):Str:=match e.2 with | .str x _=>x | _=>⟨#[]⟩
def SE(w:World)(l:List (Int×Value)):Prop:=∀ e∈l,∃ (x:Str) (tk:Tok),e=(hashStr w x,.str x tk)
theorem SE.elems{prog:Program}{w:World}{l:List (Int×Value)}(h:SE w l):ElemsOf (strKind prog w) l:=fun e he=>by
 obtain⟨x,tk,rfl⟩:=h e he
 exact⟨⟨x,by simp[strKind,Value.isStrOf],rfl⟩,rfl⟩
theorem SE.perm{w:World}{l l':List (Int×Value)}(h:SE w l)(p:l'.Perm l):SE w l':=fun e he=>h e (p.mem_iff.mp he)
theorem SE.is{prog:Program}{w:World}{l:List (Int×Value)}(h:SE w l){e:Int×Value}(he:e∈l)(x:Str):(strKind prog w).is x e.2=decide (x=nmE e):=by
 obtain⟨y,tk,rfl⟩:=h e he
 exact KeyKind.is_eq_decide (knd:=strKind prog w) (show (strKind prog w).is y (.str y tk)=true by simp[strKind,Value.isStrOf]) x
theorem orSI(t:SetTable)(n:Nat):(t.orStandIn n).led=t.led∧((t.orStandIn n).plain=true→t.plain=true):=by
 unfold SetTable.orStandIn
 split
 ·exact⟨rfl,id⟩
 ·exact⟨rfl,fun q=>by simp[SetTable.standIn]at q⟩
theorem layNew_led(t:SetTable)(es:Array (Int×Value))(h:Int)(x:Value):(layNew t es h x).2.1.led=t.led∧((layNew t es h x).2.1.plain=true→t.plain=true):=by
 unfold layNew
 split
 ·rename_i slot wd he
  exact orSI (t.put slot).1 (SetTable.insertAt es (t.put slot).2 (h,x)).size
 ·exact⟨rfl,fun q=>by simp[SetTable.standIn]at q⟩
theorem relayAll_led(t:SetTable)(es:Array (Int×Value))(wanted:Nat):(relayAll t es wanted).2.1.led=t.led∧((relayAll t es wanted).2.1.plain=true→t.plain=true):=by
 unfold relayAll
 split
 ·rename_i t' order he
  have ht:t'.led=t.led∧t'.plain=t.plain:=by
   unfold SetTable.relaid SetTable.laid at he
   cases hc:SetTable.layClean (SetTable.sizeAbove wanted-1) (es.map (·.1)) with
   | none=>rw[hc]at he;cases he
   | some owner=>rw[hc]at he;cases he;exact⟨rfl,rfl⟩
  dsimp only
  split
  ·exact⟨ht.1,fun q=>by rw[← ht.2];exact q⟩
  ·exact⟨rfl,fun q=>by simp[SetTable.standIn]at q⟩
 ·exact⟨rfl,fun q=>by simp[SetTable.standIn]at q⟩
abbrev setObj(es:Array (Int×Value))(ep:Nat)(t:SetTable):Obj:={ cls:=.type "set",dict:=none,data:=.set es ep t,slots:=#[] }
structure SetS(w:World)(h:Heap)(a:Addr)(es:Array (Int×Value))(ep:Nat)(t:SetTable):Prop where
 ob:h.get? a=some (setObj es ep t)
 se:SE w es.toList
 nd:(es.toList.map nmE).Nodup
 fit:t.fits es.size=true
 led:t.led=!w.params.followText "set-order"
 pl:es.size≠0→t.plain=false
section
variable{prog:Program}{w:World}{A:Around}{E:Value→Shared→Prop}{s:Shared}
theorem ss_add{a:Addr}{es:Array (Int×Value)}{ep:Nat}{t:SetTable}(S:SetS w s.heap a es ep t)(hb:es.size+1<scanBound){x:Str}{tk:Tok}{Q:Bool→Shared→Prop}
  (h:∀ h' es' ep' t' b,Heap.SameBut a s.heap h'→SetS w h' a es' ep' t'→es'.size≤es.size+1→(∀ y,y∈es'.toList.map nmE↔y∈es.toList.map nmE∨y=x)→Q b { s with heap:=h' }) :
  wpAny (model prog w) A (setAddHashed a (.str x tk) (hashStr w x)) Q E s:=by
 have hel:ElemsOf (strKind prog w) es.toList:=S.se.elems
 have hsc:(Value.str x tk).scannable=true:=rfl
 have hkey:(strKind prog w).is x (.str x tk)=true:=by simp[strKind,Value.isStrOf]
 unfold setAddHashed setAddHashedIn
 refine wpAny_holding (wpAny_bind (wpAny_setState_of S.ob rfl S.fit ?_))
 dsimp only
 rw[byScan_of hsc (Nat.lt_of_succ_lt hb) hel]
 simp only[↓reduceIte]
 unfold setAddByScan
 refine wpAny_bind (wpAny_bind (wpAny_rule (wpAny_bind (wpAny_setScan_of (knd:=strKind prog w) hkey S.ob rfl S.fit hel ?_))))
 cases hr:List.findIdx? (fun e=>(strKind prog w).is x e.2) es.toList with
 | some j=>
  dsimp only
  obtain⟨hj,hpj,_⟩:=List.findIdx?_eq_some_iff_getElem.mp hr
  rw[S.se.is (List.getElem_mem hj),decide_eq_true_eq]at hpj
  have hx:x∈es.toList.map nmE:=by rw[hpj];exact List.mem_map_of_mem (List.getElem_mem hj)
  refine wpAny_pure (wpAny_pure ?_)
  exact h s.heap es ep t _ (Heap.SameBut.refl a s.heap) S (Nat.le_succ _) fun y=>⟨.inl,fun q=>q.elim id fun e=>e▸hx⟩
 | none=>
  dsimp only
  have hx:x∉es.toList.map nmE:=fun q=>by
   obtain⟨e,he,rfl⟩:=List.mem_map.mp q
   have:=List.findIdx?_eq_none_iff.mp hr e he
   rw[S.se.is he]at this
   simp at this
  have gw:∀ (b:Bool) {s₁:Shared} {Q':Unit→Shared→Prop},Q' () s₁→wpAny (model prog w) A (match b with | true=>rule "set.scan.the-table-gave-way" | false=>pure ()) Q' E s₁:=fun b s₁ Q' q=>by cases b<;>first | exact wpAny_pure q | exact wpAny_rule q
  have lp:=layNew_perm t es (hashStr w x) (.str x tk)
  have lf:=layNew_fits t es (hashStr w x) (.str x tk)
  have ll:=layNew_led t es (hashStr w x) (.str x tk)
  generalize hL:layNew t es (hashStr w x) (.str x tk)=L at lp lf ll ⊢
  obtain⟨es1,t1,wd,gv⟩:=L
  dsimp only at lp lf ll ⊢
  rw[Array.toList_push]at lp
  have hse1:SE w es1.toList:=SE.perm (l:=es.toList++[(hashStr w x,.str x tk)]) (fun e he=>by
   rcases List.mem_append.mp he with he | he
   ·exact S.se e he
   ·exact⟨x,tk,List.mem_singleton.mp he⟩) lp
  have hm1:(es1.toList.map nmE).Perm (es.toList.map nmE++[x]):=by
   have:=lp.map nmE
   rw[List.map_append]at this
   exact this
  have hnd1:(es1.toList.map nmE).Nodup:=hm1.nodup_iff.mpr (List.nodup_append.mpr ⟨S.nd,by simp,fun a ha b hb e=>hx (by rw[← List.mem_singleton.mp hb,← e];exact ha)⟩)
  have hmem1:∀ y,y∈es1.toList.map nmE↔y∈es.toList.map nmE∨y=x:=fun y=>by rw[hm1.mem_iff];simp
  have hsz1:es1.size=es.size+1:=by rw[← Array.length_toList,lp.length_eq,List.length_append,Array.length_toList];rfl
  refine wpAny_bind (gw _ ?_)
  have tail:∀ (t2:SetTable),t2.fits es1.size=true→t2.led=t.led→t2.plain=false→wpAny (model prog w) A (do
    storeSet a es1 t2
    if (!wd&&t2.tooFull)=true then do
      (match (relayAll t2 es1 (SetTable.grown es1.size)).2.2 with | true=>rule "set.scan.the-table-gave-way" | false=>pure ())
      storeSet a (relayAll t2 es1 (SetTable.grown es1.size)).1 (relayAll t2 es1 (SetTable.grown es1.size)).2.1
      pure (some true)
     else pure (some true)) (fun r s'=>∃ b,r=some b∧Q b s') E s:=by
   intro t2 hf2 hl2 hp2
   refine wpAny_bind (wpAny_storeSet_of S.ob rfl ?_ (fits_of_scanBound (by omega)))
   have o1:(s.heap.update a (Obj.putSet es1 t2)).get? a=some (setObj es1 (ep+1) t2):=Heap.get?_update_self (Obj.putSet es1 t2) S.ob rfl
   have sb1:=Heap.SameBut.update s.heap a (Obj.putSet es1 t2)
   split
   ·have rp:=relayAll_perm t2 es1 (SetTable.grown es1.size)
    have rf:=relayAll_fits t2 es1 (SetTable.grown es1.size)
    have rl:=relayAll_led t2 es1 (SetTable.grown es1.size)
    generalize relayAll t2 es1 (SetTable.grown es1.size)=Rl at rp rf rl ⊢
    obtain⟨es2,t3,gv2⟩:=Rl
    dsimp only at rp rf rl ⊢
    have hsz2:es2.size=es1.size:=by rw[← Array.length_toList,rp.length_eq,Array.length_toList]
    refine wpAny_bind (gw _ ?_)
    refine wpAny_bind (wpAny_storeSet_of o1 rfl ?_ (fits_of_scanBound (by omega)))
    have o2:((s.heap.update a (Obj.putSet es1 t2)).update a (Obj.putSet es2 t3)).get? a=some (setObj es2 (ep+1+1) t3):=Heap.get?_update_self (Obj.putSet es2 t3) o1 rfl
    refine wpAny_pure ⟨true,rfl,h _ es2 _ t3 true (sb1.trans (Heap.SameBut.update _ a _)) ⟨o2,hse1.perm rp,(rp.map nmE).nodup_iff.mpr hnd1,rf,by rw[rl.1,hl2,S.led],fun _=>?_⟩ (by omega) fun y=>by rw[(rp.map nmE).mem_iff];exact hmem1 y⟩
    cases q:t3.plain with
    | false=>rfl
    | true=>rw[rl.2 q]at hp2;cases hp2
   ·exact wpAny_pure ⟨true,rfl,h _ es1 _ t2 true sb1 ⟨o1,hse1,hnd1,hf2,by rw[hl2,S.led],fun _=>hp2⟩ (by omega) hmem1⟩
  split
  ·rename_i hpl
   refine wpAny_bind ?_
   rw[hashByValue_scannable 8 hsc]
   refine wpAny_pure ?_
   refine wpAny_mono (tail { t1 with plain:=false } (SetTable.fits_plain_off lf) ll.1 rfl) (fun r s' ⟨b,e,q⟩=>?_) fun _ _ e=>e
   subst e
   exact wpAny_pure q
  ·rename_i hpl
   refine wpAny_bind (wpAny_pure ?_)
   simp only[↓reduceIte]
   refine wpAny_mono (tail t1 lf ll.1 (by simpa using hpl)) (fun r s' ⟨b,e,q⟩=>?_) fun _ _ e=>e
   subst e
   exact wpAny_pure q
end
end PySem
end
section
namespace PySem
section
variable{prog:Program}{w:World}{A:Around}{E:Value→Shared→Prop}{s:Shared}
theorem strs_at:∀ {vs:List Value} {ys:List Str},PyProof.Rows.StrsAre vs ys→∀ (k:Nat) (v:Value),vs[k]?=some v→∃ x u,v=.str x u∧ys[k]?=some x
 | _,_,.nil,k,v,h=>by simp at h
 | _,_,.cons y t r,0,v,h=>⟨y,t,(Option.some.inj h).symm,rfl⟩
 | _,_,.cons y t r,k+1,v,h=>by
  obtain⟨x,u,e1,e2⟩:=strs_at r k v (by simpa using h)
  exact⟨x,u,e1,by simpa using e2⟩
theorem ss_loop(hh:A.handled=none){I l S:Addr}{vs:List Value}{xs:List Str}(hv:PyProof.Rows.StrsAre vs xs)(hlI:l≠I)(hSI:S≠I)(hSl:S≠l)(hn:vs.length+1<scanBound){R:Result→Shared→Prop}:∀ (m k:Nat) (s:Shared) (es:Array (Int×Value)) (ep:Nat) (t:SetTable),vs.length-k=m→k≤vs.length→s.heap.IsListIter I l k→s.heap.IsList l vs.toArray→SetS w s.heap S es ep t→es.size≤k→(∀ y,y∈es.toList.map nmE↔y∈xs.take k)→
  (∀ h' tk es' ep' t',SetS w h' S es' ep' t'→es'.size≤vs.length→(∀ y,y∈es'.toList.map nmE↔y∈xs)→(∀ b o,b≠I→b≠S→s.heap.get? b=some o→h'.get? b=some o)→R (.ok (.ret .none)) { s with heap:=h',toks:=tk })→
  codeAny (model prog w) A (.builtin "set.update.loop" ⟨[.ref S,.ref I],[]⟩) R s:=by
 have hlen:vs.length=xs.length:=hv.length
 intro m
 induction m with
 | zero=>
  intro k s es ep t hm hk hit hl hS hz hmem hR
  have W:=Walks.list (prog:=prog) (w:=w) (A:=A.in1) (by simp[hh]) I l hlI vs.toArray
  have hkk:k=vs.length:=by omega
  refine codeAny_builtin PyProof.Rows.F.entry_set_update_loop ?_
  rw[Around.under_plainId PyProof.Rows.F.plain_set_update_loop _]
  show wpAny _ A.in1 (pyNext (.ref I) >>= _) _ _ s
  refine wpAny_bind (W.done s _ _ (by rw[List.size_toArray,← hkk];exact⟨hit,hl⟩) fun h' tk hm'=>?_)
  refine wpAny_pure (hR h' tk es ep t { hS with ob:=hm' S _ (by simpa using hSI) hS.ob } (by omega) (fun y=>?_) fun b o b1 _ e=>hm' b o (by simpa using b1) e)
  rw[hmem,List.take_of_length_le (by omega)]
 | succ m ih=>
  intro k s es ep t hm hk hit hl hS hz hmem hR
  have W:=Walks.list (prog:=prog) (w:=w) (A:=A.in1) (by simp[hh]) I l hlI vs.toArray
  have hlt:k<vs.length:=by omega
  refine codeAny_builtin PyProof.Rows.F.entry_set_update_loop ?_
  rw[Around.under_plainId PyProof.Rows.F.plain_set_update_loop _]
  show wpAny _ A.in1 (pyNext (.ref I) >>= _) _ _ s
  refine wpAny_bind (W.item k s _ _ (by simpa using hlt) ⟨hit,hl⟩ fun v h' tk hv' st' hm'=>?_)
  obtain⟨x,u,ev,ex⟩:∃ x u,v=.str x u∧xs[k]?=some x:=strs_at hv k v (by simpa using hv')
  subst ev
  have hS':SetS w h' S es ep t:={ hS with ob:=hm' S _ (by simpa using hSI) hS.ob }
  show wpAny _ A.in1 (holding [Value.str x u] (setAdd S (.str x u)) >>= _) _ _ { s with heap:=h',toks:=tk }
  refine wpAny_bind (wpAny_holding ?_)
  unfold setAdd
  refine wpAny_holding (wpAny_bind ((strKind prog w).pyHash (k:=x) (by simp[strKind,Value.isStrOf]) ?_))
  refine ss_add (s:={ s with heap:=h',toks:=tk+1 }) hS' (by omega) fun h2 es2 ep2 t2 bb sb S2 z2 m2=>?_
  have kp:∀ b o,b≠S→h'.get? b=some o→h2.get? b=some o:=fun b o hb e=>sb.extBut b o hb e
  refine wpAny_pure ⟨plainId_quiet PyProof.Rows.F.plain_set_update_loop _,ih (k+1) _ es2 ep2 t2 (by omega) hlt (st'.1.at fun o q=>kp _ _ (Ne.symm hSI) q) (st'.2.at fun o q=>kp _ _ (Ne.symm hSl) q) S2 (by omega) (fun y=>?_) fun h3 tk3 es3 ep3 t3 q1 q2 q3 q4=>hR h3 tk3 es3 ep3 t3 q1 q2 q3 fun b o b1 b2 e=>q4 b o b1 b2 (kp b o b2 (hm' b o (by simpa using b1) e))⟩
  have hkx:k<xs.length:=by omega
  have e1:xs.take (k+1)=xs.take k++[x]:=by
   rw[List.take_succ,ex];rfl
  rw[m2,hmem,e1]
  simp
theorem ss_new{a:Value}{Q₁:Value→Shared→Prop}(h:Q₁ (.ref s.heap.objs.size) { s with heap:=s.heap.push (setObj #[] 0 (.fresh 0 0 (!w.params.followText "set-order"))) }):
  codeAny (model prog w) A (.call (.builtin "set.__new__") ⟨[.type "set",a],[]⟩) (wants Q₁ E) s:=by
 refine codeAny_of_tree ?_
 show wpAny _ A.in1 (checkBuiltinCall "set.__new__" ⟨[.type "set",a],[]⟩ >>= fun _=>again (.builtin "set.__new__" ⟨[.type "set",a],[]⟩)) _ _ s
 refine wpAny_bind (wpAny_of_eq (F.newCall_set_1 a) (wpAny_pure ⟨plainId_quiet F.plain_set_new _,codeAny_builtin F.entry_set_new ?_⟩))
 rw[Around.under_plainId F.plain_set_new _]
 unfold Builtin.«set.__new__» Builtin.Frozenset.newClass
 have hs0:=sub_set_self
 obtain⟨hp,gg,dd,kk,oo⟩:=s
 dsimp only
 wp_walk
 refine wpAny_askSetting (wpAny_pure ?_)
 dsimp only
 simp only[newObj]
 exact wpAny_bind (wpAny_alloc (wpAny_pure (wpAny_pure h)))
theorem ss_call{l:Addr}{vs:List Value}{xs:List Str}{Q:Value→Shared→Prop}(hh:A.handled=none)(hl:s.heap.IsList l vs.toArray)(hv:PyProof.Rows.StrsAre vs xs)(hn:vs.length+1<scanBound)
  (h:∀ (h':Heap) (tk:Nat) es ep t,SetS w h' s.heap.objs.size es ep t→es.size≤vs.length→(∀ y,y∈es.toList.map nmE↔y∈xs)→(∀ b o,s.heap.get? b=some o→h'.get? b=some o)→Q (.ref s.heap.objs.size) { s with heap:=h',toks:=tk }) :
  wpAny (model prog w) A (call (.type "set") [.ref l]) Q E s:=by
 obtain⟨c0,tl,hmro⟩:=F.called_set.mro
 have hmade:=F.called_set.made
 have hsub:=F.called_set.sub
 have hnt:=F.called_set.notType
 have hcc:=F.called_set.canCreate
 have hct:=F.typeCall_set_1 (.ref l)
 refine wpAny_call (codeAny_of_tree ?_)
 show wpAny _ _ (callAny (.type "set") _) _ _ _
 refine wpAny_pure ⟨Code.quiet_builtin _ (by decide +kernel),codeAny_builtin F.entry_type_call ?_⟩
 rw[Around.under_plain (weight_type_call_type "set" [.ref l] []) rfl]
 repeat (any_goals (first | assumption | wp_step))
 refine codeAny_mono (ss_new (E:=E) (Q₁:=fun obj s₁=>obj=.ref s.heap.objs.size∧s₁={ s with heap:=s.heap.push (setObj #[] 0 (.fresh 0 0 (!w.params.followText "set-order"))) }) ⟨rfl,rfl⟩) fun r s₁ hr=>?_
 cases r with
 | error e=>exact hr
 | ok fl=>
  cases fl with
  | ret obj=>
   obtain⟨rfl,rfl⟩:=hr
   generalize hled:(!w.params.followText "set-order")=led
   have hob:(s.heap.push (setObj #[] 0 (.fresh 0 0 led))).get? s.heap.objs.size=some (setObj #[] 0 (.fresh 0 0 led)):=Heap.get?_push_size _ rfl
   have hT:Shared.TypeIs { s with heap:=s.heap.push (setObj #[] 0 (.fresh 0 0 led)) } (.ref s.heap.objs.size) "set":=⟨_,hob,rfl⟩
   have hli:=F.called_set.init.lookup
   have hbi:=F.called_set.init.bind (.ref s.heap.objs.size)
   repeat (any_goals (first | assumption | wp_step))
   refine codeAny_mono (codeAny_call_builtin (R:=wants (fun r s₂=>r=.none∧∃ h' tk es ep t,s₂={ s with heap:=h',toks:=tk }∧SetS w h' s.heap.objs.size es ep t∧es.size≤vs.length∧(∀ y,y∈es.toList.map nmE↔y∈xs)∧(∀ b o,s.heap.get? b=some o→h'.get? b=some o)) E) F.called_set.init.plain F.entry_set_init (check_set_init_1 hT ?_)) fun r₂ s₂ hr₂=>?_
   ·obtain⟨ol,hol,hcl,nl,hdl⟩:=hl
    obtain⟨ocls,odict,odata,oslots⟩:=ol
    simp only at hcl hdl
    subst hcl;subst hdl
    have hol':(s.heap.push (setObj #[] 0 (.fresh 0 0 led))).get? l=some { cls:=.type "list",dict:=odict,data:=.seq vs.toArray nl,slots:=oslots }:=Heap.get?_push_of_some _ hol
    have hsls:=F.sub_list_set
    have hslf:=F.sub_list_frozenset
    have hne:(Value.type "list" == Value.type "dict")=false:=by decide
    have hl1:(s.heap.push (setObj #[] 0 (.fresh 0 0 led))).IsList l vs.toArray:=⟨_,hol',rfl,nl,rfl⟩
    have hlt:l<s.heap.objs.size:=Heap.lt_size hol
    unfold Builtin.«set.__init__» noKeywords Builtin.Frozenset.updateFrom
    generalize hPI:pyIter=PI
    wp_walk
    subst hPI
    refine wpAny_pyIter_list hl1 (wpAny_bind (wpAny_runValue ?_))
    have hz:(s.heap.push (setObj #[] 0 (.fresh 0 0 led))).objs.size=s.heap.objs.size+1:=Heap.size_push ..
    have up:∀ b o,s.heap.get? b=some o→((s.heap.push (setObj #[] 0 (.fresh 0 0 led))).push { cls:=.type "list_iterator",data:=.fields #[.ref l,.int 0 0] }).get? b=some o:=fun b o e=>Heap.get?_push_of_some _ (Heap.get?_push_of_some _ e)
    refine ss_loop (by simp[hh]) hv (by rw[hz];exact Nat.ne_of_lt (Nat.lt_succ_of_lt hlt)) (by rw[hz];exact Nat.ne_of_lt (Nat.lt_succ_self _)) (Nat.ne_of_gt hlt) hn _ 0 _ #[] 0 (.fresh 0 0 led) rfl (Nat.zero_le _) ⟨_,Heap.get?_push_size _ rfl,rfl,rfl⟩ (hl1.push _) ⟨Heap.get?_push_of_some _ hob,fun e he=>by simp at he,by simp,rfl,by rw[← hled];rfl,fun q=>absurd rfl q⟩ (Nat.zero_le _) (fun y=>by simp) fun h' tk es' ep' t' q1 q2 q3 q4=>?_
    show wpAny _ _ _ _ _ _
    refine wpAny_pure (wpAny_pure ⟨rfl,h',tk,es',ep',t',rfl,q1,q2,q3,fun b o e=>q4 b o ?_ ?_ (up b o e)⟩)
    ·rw[hz];exact Nat.ne_of_lt (Nat.lt_succ_of_lt (Heap.lt_size e))
    ·exact Nat.ne_of_lt (Heap.lt_size e)
   ·cases r₂ with
    | error e=>exact hr₂
    | ok fl₂=>
     cases fl₂ with
     | ret r=>
      obtain⟨rfl,h',tk,es,ep,t,rfl,q1,q2,q3,q4⟩:=hr₂
      repeat (any_goals (first | assumption | wp_step))
      exact h h' tk es ep t q1 q2 q3 q4
     | _=>exact hr₂.elim
  | _=>exact hr.elim
end
end PySem
end
section
namespace PySem
namespace F
theorem si_next:Slot "set_iterator" "__next__" "set_iterator.__next__":=
 .of (owner:="set_iterator") (n:="__next__") (by rw[typeLookup_type,builtinLookup_eq_fast];kernel_rfl) (by decide +kernel) (by decide +kernel) (by decide +kernel)
  (by first | exact .inl (by decide +kernel) | exact .inr (by decide +kernel)) (by rw[isSubtype_type];kernel_rfl)
theorem si_iter:Slot "set_iterator" "__iter__" "set_iterator.__iter__":=
 .of (owner:="set_iterator") (n:="__iter__") (by rw[typeLookup_type,builtinLookup_eq_fast];kernel_rfl) (by decide +kernel) (by decide +kernel) (by decide +kernel)
  (by first | exact .inl (by decide +kernel) | exact .inr (by decide +kernel)) (by rw[isSubtype_type];kernel_rfl)
theorem si_entry_next:entryFor table "set_iterator.__next__" = some Builtin.«set_iterator.__next__»:=entryFor_of_tree (by kernel_rfl)
theorem si_entry_iter:entryFor table "set_iterator.__iter__" = some Builtin.«dict_keyiterator.__iter__»:=
 entryFor_alias (id':="dict_keyiterator.__iter__") (by kernel_rfl) (by first | rfl | decide +kernel | (unfold String.splitOn;simp +decide [String.splitOnAux])) (by decide +kernel) (by kernel_rfl)
theorem si_owner:Manifest.owners.lookup (String.ofList ['r','o','t','a','r','e','t','i','_','t','e','s'].reverse)=some Manifest.sig_set_iterator:=by kernel_rfl
theorem si_args_next(a:Value):argsOk "set_iterator.__next__" ⟨[a],[]⟩:=by
 unfold argsOk;rw[signature?_of (id:="set_iterator.__next__") (n:=['_','_','t','x','e','n','_','_']) (o:=['r','o','t','a','r','e','t','i','_','t','e','s']) (by kernel_rfl) si_owner];kernel_rfl
theorem si_args_iter(a:Value):argsOk "set_iterator.__iter__" ⟨[a],[]⟩:=by
 unfold argsOk;rw[signature?_of (id:="set_iterator.__iter__") (n:=['_','_','r','e','t','i','_','_']) (o:=['r','o','t','a','r','e','t','i','_','t','e','s']) (by kernel_rfl) si_owner];kernel_rfl
theorem si_entry_set:entryFor table "set.__iter__" = some Builtin.«frozenset.__iter__»:=
 entryFor_alias (id':="frozenset.__iter__") (by kernel_rfl) rfl (by decide +kernel) (by kernel_rfl)
end F
theorem erase_perm{α:Type}:∀ (l:List α) (i:Nat) (h:i<l.length),(l[i]::l.eraseIdx i).Perm l
 | [],i,h=>absurd h (Nat.not_lt_zero _)
 | a::r,0,h=>.refl _
 | a::r,i+1,h=>(List.Perm.swap _ _ _).trans (.cons a (erase_perm r i (by simpa using h)))
theorem pick_go{α:Type}(next:Nat→Nat):∀ (fuel k:Nat) (left:List α) (out:Array α),fuel=left.length→(pickOrder.go next fuel k left out).toList.Perm (out.toList++left)
 | 0,k,left,out,h=>by
  have:left=[]:=List.eq_nil_of_length_eq_zero h.symm
  subst this
  simp[pickOrder.go]
 | fuel+1,k,left,out,h=>by
  have hp:0<left.length:=by omega
  have hi:next k % left.length<left.length:=Nat.mod_lt _ hp
  unfold pickOrder.go
  rw[List.getElem?_eq_getElem hi]
  dsimp only
  refine(pick_go next fuel (k+1) _ _ (by rw[List.length_eraseIdx_of_lt hi];omega)).trans ?_
  rw[Array.toList_push,List.append_assoc]
  exact List.Perm.append_left _ (erase_perm _ _ hi)
theorem pick_perm{α:Type}(next:Nat→Nat)(xs:Array α):(pickOrder next xs).toList.Perm xs.toList:=by
 have:=pick_go next xs.size 0 xs.toList #[] (by simp)
 simpa[pickOrder] using this
section
variable{prog:Program}{w:World}{A:Around}{E:Value→Shared→Prop}{s:Shared}
theorem wpAny_choose1{src:Source}{n:Nat}{Q:Nat→Shared→Prop}(hn:n≠0)(h:∀ i d',i<n→Q i { s with drawn:=d' }):wpAny (model prog w) A (choose src n) Q E s:=fun _ _ _=>⟨hn,h _ _ (Nat.mod_lt _ (Nat.pos_of_ne_zero hn))⟩
theorem draw_order{α:Type}:∀ (n:Nat) (xs:List α) (s:Shared) (Q:List α→Shared→Prop),xs.length=n→(∀ ys d',ys.Perm xs→Q ys { s with drawn:=d' })→wpAny (model prog w) A (drawOrder n xs) Q E s
 | 0,xs,s,Q,hl,h=>by
  have:xs=[]:=List.eq_nil_of_length_eq_zero hl
  subst this
  unfold drawOrder
  exact wpAny_pure (h [] s.drawn .nil)
 | n+1,[],s,Q,hl,h=>by simp at hl
 | n+1,x::r,s,Q,hl,h=>by
  unfold drawOrder
  refine wpAny_bind (wpAny_choose1 (by simp) fun i d' hi=>?_)
  rw[List.getElem?_eq_getElem hi]
  dsimp only
  refine wpAny_bind (draw_order n _ _ _ (by rw[List.length_eraseIdx_of_lt hi];simp at hl ⊢;omega) fun ys d2 hp=>?_)
  exact wpAny_pure (h _ d2 ((List.Perm.cons _ hp).trans (erase_perm _ _ hi)))
end
abbrev SIt(h:Heap)(I:Addr)(f0:Value)(i:Nat)(a:Addr)(n ep:Nat):Prop:=h.get? I=some { cls:=.type "set_iterator",data:=.fields #[f0,rawInt i,.ref a,rawInt n,rawInt ep] }
section
variable{prog:Program}{w:World}{A:Around}{E:Value→Shared→Prop}{s:Shared}{I a:Addr}{es:Array (Int×Value)}{ep:Nat}{t:SetTable}{f0:Value}{i:Nat}
theorem si_step(S:SetS w s.heap a es ep t)(hI:SIt s.heap I f0 i a es.size ep){Q:Option Value→Shared→Prop}
  (h:(∃ sl:Nat,f0=rawInt (sl:Nat)∧wpAny (model prog w) A.in1 (setNext a sl i ep) (fun r s'=>s'=s∧((∃ x nx,r=some (x,nx)∧∀ h',SIt h' I (rawInt (nx:Nat)) (i+1) a es.size ep→Heap.SameBut I s.heap h'→Q (some x) { s with heap:=h' })∨(r=none∧A.handled=none∧∀ h',Heap.ExtBut I s.heap h'→Q none { s with heap:=h' }))) (fun _ _=>False) s)∨
   (∃ T pl,f0=.ref T∧s.heap.IsTuple T pl∧((∃ (p:Nat) (tk:Tok) (e:Int×Value),pl[i]?=some (.int p tk)∧es[p]?=some e∧∀ h',SIt h' I f0 (i+1) a es.size ep→Heap.SameBut I s.heap h'→Q (some e.2) { s with heap:=h' })∨(pl[i]?=none∧A.handled=none∧∀ h',Heap.ExtBut I s.heap h'→Q none { s with heap:=h' })))) :
  wpAny (model prog w) A (pyNext (.ref I)) Q E s:=by
 have hT:s.TypeIs (.ref I) "set_iterator":=⟨_,hI,rfl⟩
 unfold pyNext
 refine wpAny_bind (wpAny_attempt (wpAny_callSpecial?_slot (name:=Str.ofString "__next__") hT F.si_next (wpAny_call_entry F.si_next hT F.si_entry_next ?_ (F.si_args_next _))))
 unfold Builtin.«set_iterator.__next__»
 refine wpAny_bind (wpAny_of_eq (a:=(Value.ref I,[])) rfl ?_)
 refine wpAny_bind (wpAny_fieldsOf hI rfl ?_)
 show wpAny _ _ (setEntries a >>= _) _ _ s
 refine wpAny_bind (wpAny_setEntries_of S.ob rfl S.fit ?_)
 have hne:(((es.size:Nat):Int) != ((es.size:Nat):Int))=false:=by simp
 rw[hne]
 simp only[Bool.false_eq_true,if_false]
 rcases h with ⟨sl,rfl,h⟩ | ⟨T,pl,rfl,hTu,h⟩
 ·show wpAny _ _ (setNext a (Int.toNat (sl:Int)) (Int.toNat (i:Int)) (Int.toNat (ep:Int)) >>= _) _ _ s
  rw[Int.toNat_natCast,Int.toNat_natCast,Int.toNat_natCast]
  refine wpAny_bind (wpAny_mono h (fun r s' hq0=>?_) fun _ _ f=>f.elim)
  obtain⟨es',q⟩:=hq0
  subst es'
  rcases q with ⟨x,nx,rfl,q⟩ | ⟨rfl,hh,q⟩
  ·dsimp only
   refine wpAny_bind (wpAny_setField_rec hI (by simp) fun h1 hI1 s1=>?_)
   refine wpAny_bind (wpAny_setField_rec (s:={ s' with heap:=h1 }) hI1 (by simp) fun h2 hI2 s2=>wpAny_pure ⟨x,rfl,wpAny_pure (q h2 hI2 (s1.trans s2))⟩)
  ·dsimp only
   refine wpAny_bind (wpAny_setField_rec hI (by simp) fun h1 hI1 s1=>?_)
   exact wpAny_mono (stop_caught (s:={ s' with heap:=h1 }) (h:=s'.heap) (it:=I) (Q:=Q) (E:=E) hh (fun b o hb e=>s1.extBut b o hb e) fun h' hk=>q h' hk) (fun _ _ f=>f.elim) fun e s2 q=>q
 ·obtain⟨oT,eT,cT,nT,dT⟩:=hTu
  show wpAny _ _ (seqItems? (.ref T) >>= _) _ _ s
  refine wpAny_bind (wpAny_seqItems eT dT ?_)
  rcases h with ⟨p,tk,e,hp,he,q⟩ | ⟨hp,hh,q⟩
  ·dsimp only
   rw[show Int.toNat (i:Int)=i from Int.toNat_natCast i,hp]
   dsimp only
   refine wpAny_bind ?_
   unfold setNextDrawn
   refine wpAny_bind (wpAny_setState_of S.ob rfl S.fit ?_)
   have h2:(ep != (Int.toNat (ep:Int)))=false:=by rw[Int.toNat_natCast];simp
   dsimp only
   rw[h2,show Int.toNat (p:Int)=p from Int.toNat_natCast p,he]
   simp only[Bool.false_eq_true,if_false]
   refine wpAny_pure ?_
   refine wpAny_bind (wpAny_setField_rec hI (by simp) fun h1 hI1 s1=>wpAny_pure ⟨e.2,rfl,wpAny_pure (q h1 hI1 s1)⟩)
  ·dsimp only
   rw[show Int.toNat (i:Int)=i from Int.toNat_natCast i,hp]
   dsimp only
   refine wpAny_bind (wpAny_setField_rec hI (by simp) fun h1 hI1 s1=>?_)
   refine wpAny_bind (wpAny_setField_rec (s:={ s with heap:=h1 }) hI1 (by simp) fun h2 hI2 s2=>?_)
   exact wpAny_mono (stop_caught (s:={ s with heap:=h2 }) (h:=s.heap) (it:=I) (Q:=Q) (E:=E) hh (fun b o hb e=>s2.extBut b o hb (s1.extBut b o hb e)) fun h' hk=>q h' hk) (fun _ _ f=>f.elim) fun e s2 q=>q
end
end PySem
end
section
namespace PySem
section
variable{prog:Program}{w:World}{A:Around}{E:Value→Shared→Prop}{s:Shared}{I a:Addr}{es:Array (Int×Value)}{ep:Nat}{t:SetTable}
theorem SetS.at{h h':Heap}(S:SetS w h a es ep t)(e:∀ o,h.get? a=some o→h'.get? a=some o):SetS w h' a es ep t:={ S with ob:=e _ S.ob }
theorem si_self{f0:Value}{i n:Nat}(hI:SIt s.heap I f0 i a n ep){Q:Value→Shared→Prop}(h:Q (.ref I) s):wpAny (model prog w) A (pyIter (.ref I)) Q E s:=by
 have hT:s.TypeIs (.ref I) "set_iterator":=⟨_,hI,rfl⟩
 refine wpAny_pyIter_slot hT F.si_iter (wpAny_call_entry F.si_iter hT F.si_entry_iter ?_ (F.si_args_iter _))
 show wpAny _ _ (ret (.ref I)) _ _ s
 exact wpAny_pure ⟨_,rfl,"set_iterator",_,hT,F.si_next.lookup,h⟩
theorem Walks.setT(hB:w.params.followText "set-order" = true)(hA:A.handled=none)(hne:a≠I):Walks prog w A I [I,a] [I] es.size (fun i v=>∃ e,(pickOrder (w.params.setOrder a ep) es)[i]?=some e∧v=e.2) (fun i h=>(∃ sl:Nat,SIt h I (rawInt (sl:Nat)) i a es.size ep)∧SetS w h a es ep t) where
 sub:=fun b hb=>by simp at hb;simp[hb]
 frame:=fun _ _ _ x hk=>⟨let ⟨sl,q⟩:=x.1;⟨sl,hk I (by simp) _ q⟩,x.2.at fun o q=>hk a (by simp) o q⟩
 item:=fun i s Q E hi x hQ=>by
  obtain⟨⟨sl,hI⟩,S⟩:=x
  have hsz:(pickOrder (w.params.setOrder a ep) es).size=es.size:=by
   have:=(pick_perm (w.params.setOrder a ep) es).length_eq
   simpa using this
  have hx:(pickOrder (w.params.setOrder a ep) es)[i]?=some ((pickOrder (w.params.setOrder a ep) es)[i]'(by omega)):=Array.getElem?_eq_getElem (by omega)
  refine si_step S hI (.inl ⟨sl,rfl,?_⟩)
  unfold setNext
  refine wpAny_bind (wpAny_setState_of S.ob rfl S.fit ?_)
  unfold setsByText
  refine wpAny_bind (wpAny_bind (wpAny_askSetting (wpAny_pure ?_)))
  show wpAny _ _ (if w.params.followText "set-order" = true then _ else _) _ _ _
  rw[hB]
  simp only[if_true,bne_self_eq_false,Bool.false_eq_true,if_false]
  refine wpAny_bind ?_
  unfold setWalk
  refine wpAny_bind (wpAny_setState_of S.ob rfl S.fit ?_)
  unfold setsByText
  refine wpAny_bind (wpAny_bind (wpAny_askSetting (wpAny_pure ?_)))
  show wpAny _ _ (if w.params.followText "set-order" = true then _ else _) _ _ _
  rw[hB]
  simp only[if_true]
  refine wpAny_bind (wpAny_askSetting (wpAny_pure ?_))
  show wpAny _ _ (pure (((pickOrder (w.params.setOrder a ep) es)[i]?).map fun e=>(e.2,sl))) _ _ _
  rw[hx]
  refine wpAny_pure ⟨rfl,.inl ⟨_,sl,rfl,fun h' hI' sb=>?_⟩⟩
  exact hQ _ h' s.toks ⟨_,hx,rfl⟩ ⟨⟨sl,hI'⟩,S.at fun o q=>sb.extBut _ _ hne q⟩ fun b o hb e=>sb.extBut b o (fun z=>hb (by simp[z])) e
 done:=fun s Q E x hQ=>by
  obtain⟨⟨sl,hI⟩,S⟩:=x
  have hsz:(pickOrder (w.params.setOrder a ep) es).size=es.size:=by
   have:=(pick_perm (w.params.setOrder a ep) es).length_eq
   simpa using this
  have hx:(pickOrder (w.params.setOrder a ep) es)[es.size]?=none:=by simp[hsz]
  refine si_step S hI (.inl ⟨sl,rfl,?_⟩)
  unfold setNext
  refine wpAny_bind (wpAny_setState_of S.ob rfl S.fit ?_)
  unfold setsByText
  refine wpAny_bind (wpAny_bind (wpAny_askSetting (wpAny_pure ?_)))
  show wpAny _ _ (if w.params.followText "set-order" = true then _ else _) _ _ _
  rw[hB]
  simp only[if_true,bne_self_eq_false,Bool.false_eq_true,if_false]
  refine wpAny_bind ?_
  unfold setWalk
  refine wpAny_bind (wpAny_setState_of S.ob rfl S.fit ?_)
  unfold setsByText
  refine wpAny_bind (wpAny_bind (wpAny_askSetting (wpAny_pure ?_)))
  show wpAny _ _ (if w.params.followText "set-order" = true then _ else _) _ _ _
  rw[hB]
  simp only[if_true]
  refine wpAny_bind (wpAny_askSetting (wpAny_pure ?_))
  show wpAny _ _ (pure (((pickOrder (w.params.setOrder a ep) es)[es.size]?).map fun e=>(e.2,sl))) _ _ _
  rw[hx]
  exact wpAny_pure ⟨rfl,.inr ⟨rfl,hA,fun h' hk=>hQ h' s.toks fun b o hb e=>hk b o (fun z=>hb (by simp[z])) e⟩⟩
 self:=fun _ _ _ _ x hQ=>let ⟨⟨sl,hI⟩,_⟩:=x;si_self hI hQ
theorem Walks.setD(hA:A.handled=none){T:Addr}{ys:List Nat}(hne:a≠I)(hT:T≠I)(hy:ys.Perm (List.range es.size)):Walks prog w A I [I,a,T] [I] es.size (fun i v=>∃ (p:Nat) (e:Int×Value),ys[i]?=some p∧es[p]?=some e∧v=e.2) (fun i h=>SIt h I (.ref T) i a es.size ep∧SetS w h a es ep t∧h.IsTuple T (ys.map fun(p:Nat)=>rawInt p).toArray) where
 sub:=fun b hb=>by simp at hb;simp[hb]
 frame:=fun _ _ _ x hk=>⟨hk I (by simp) _ x.1,x.2.1.at fun o q=>hk a (by simp) o q,let ⟨o,e,c⟩:=x.2.2;⟨o,hk T (by simp) _ e,c⟩⟩
 item:=fun i s Q E hi x hQ=>by
  obtain⟨hI,S,hTu⟩:=x
  have hl:ys.length=es.size:=by rw[hy.length_eq,List.length_range]
  have hi':i<ys.length:=by omega
  have hp:ys[i]<es.size:=List.mem_range.mp (hy.mem_iff.mp (List.getElem_mem hi'))
  refine si_step S hI (.inr ⟨T,_,rfl,hTu,.inl ⟨ys[i],0,es[ys[i]],by simp[hi',rawInt],by simp[hp],fun h' hI' sb=>?_⟩⟩)
  exact hQ _ h' s.toks ⟨_,_,List.getElem?_eq_getElem hi',by simp[hp],rfl⟩ ⟨hI',S.at fun o q=>sb.extBut _ _ hne q,let ⟨o,e,c⟩:=hTu;⟨o,sb.extBut _ _ hT e,c⟩⟩ fun b o hb e=>sb.extBut b o (fun z=>hb (by simp[z])) e
 done:=fun s Q E x hQ=>by
  obtain⟨hI,S,hTu⟩:=x
  have hl:ys.length=es.size:=by rw[hy.length_eq,List.length_range]
  refine si_step S hI (.inr ⟨T,_,rfl,hTu,.inr ⟨by simp[hl],hA,fun h' hk=>hQ h' s.toks fun b o hb e=>hk b o (fun z=>hb (by simp[z])) e⟩⟩)
 self:=fun _ _ _ _ x hQ=>si_self x.1 hQ
theorem below_one(j k:Nat):SetTable.below #[j] k=if j<k then 1 else 0:=by
 by_cases h:j<k<;>simp[SetTable.below,SetTable.below.go,h]
theorem Walks.setO(hB:w.params.followText "set-order" = false)(hA:A.handled=none)(hne:a≠I)(h1:es.size≤1):Walks prog w A I [I,a] [I] es.size (fun i v=>∃ e,es[i]?=some e∧v=e.2) (fun i h=>SIt h I (rawInt ((if i=0 then 0 else t.place.getD 0 0+1:Nat):Nat)) i a es.size ep∧SetS w h a es ep t) where
 sub:=fun b hb=>by simp at hb;simp[hb]
 frame:=fun _ _ _ x hk=>⟨hk I (by simp) _ x.1,x.2.at fun o q=>hk a (by simp) o q⟩
 item:=fun i s Q E hi x hQ=>by
  obtain⟨hI,S⟩:=x
  have hi0:i=0:=by omega
  subst hi0
  have hz:es.size=1:=by omega
  have hps:t.place.size=1:=by
   have:=S.fit
   simp only[SetTable.fits,Bool.and_eq_true,beq_iff_eq]at this
   omega
  obtain⟨j,hj⟩:∃ j,t.place=#[j]:=⟨t.place[0],by apply Array.ext';simp[List.ext_getElem?_iff,Array.getElem?_toList];intro k;rcases k with _ | k<;>simp[hps]⟩
  have he:es[0]?=some (es[0]'(by omega)):=Array.getElem?_eq_getElem (by omega)
  have hled:t.led=true:=by rw[S.led,hB];rfl
  refine si_step S hI (.inl ⟨0,rfl,?_⟩)
  unfold setNext
  refine wpAny_bind (wpAny_setState_of S.ob rfl S.fit ?_)
  unfold setsByText
  refine wpAny_bind (wpAny_bind (wpAny_askSetting (wpAny_pure ?_)))
  show wpAny _ _ (if w.params.followText "set-order" = true then _ else _) _ _ _
  rw[hB]
  simp only[Bool.false_eq_true,if_false]
  show wpAny _ _ (if (!t.plain&&decide (es.size > 1))=true then _ else _) _ _ _
  rw[if_neg (by simp;omega)]
  refine wpAny_bind ?_
  show wpAny _ _ (if (!t.led&&!es.isEmpty)=true then _ else _) _ _ _
  rw[if_neg (by simp[hled])]
  refine wpAny_pure ?_
  show wpAny _ _ (pure (match es[SetTable.below t.place 0]?,t.place[SetTable.below t.place 0]? with | some (_,x),some j=>some (x,j+1) | _,_=>none)) _ _ _
  rw[hj,below_one,if_neg (Nat.not_lt_zero _),he]
  refine wpAny_pure ⟨rfl,.inl ⟨_,j+1,rfl,fun h' hI' sb=>?_⟩⟩
  refine hQ _ h' s.toks ⟨_,he,rfl⟩ ⟨?_,S.at fun o q=>sb.extBut _ _ hne q⟩ fun b o hb e=>sb.extBut b o (fun z=>hb (by simp[z])) e
  rw[hj]
  exact hI'
 done:=fun s Q E x hQ=>by
  obtain⟨hI,S⟩:=x
  have hps:t.place.size=es.size:=by
   have:=S.fit
   simp only[SetTable.fits,Bool.and_eq_true,beq_iff_eq]at this
   exact this.1
  have hled:t.led=true:=by rw[S.led,hB];rfl
  refine si_step S hI (.inl ⟨_,rfl,?_⟩)
  unfold setNext
  refine wpAny_bind (wpAny_setState_of S.ob rfl S.fit ?_)
  unfold setsByText
  refine wpAny_bind (wpAny_bind (wpAny_askSetting (wpAny_pure ?_)))
  show wpAny _ _ (if w.params.followText "set-order" = true then _ else _) _ _ _
  rw[hB]
  simp only[Bool.false_eq_true,if_false]
  show wpAny _ _ (if (!t.plain&&decide (es.size > 1))=true then _ else _) _ _ _
  rw[if_neg (by simp;omega)]
  refine wpAny_bind ?_
  show wpAny _ _ (if (!t.led&&!es.isEmpty)=true then _ else _) _ _ _
  rw[if_neg (by simp[hled])]
  refine wpAny_pure ?_
  have hbel:es[SetTable.below t.place (if es.size=0 then 0 else t.place.getD 0 0+1)]?=none:=by
   by_cases h0:es.size=0
   ·have:t.place=#[]:=by apply Array.eq_empty_of_size_eq_zero;omega
    rw[this]
    simp[h0]
   ·obtain⟨j,hj⟩:∃ j,t.place=#[j]:=⟨t.place[0]'(by omega),by apply Array.ext';simp[List.ext_getElem?_iff,Array.getElem?_toList];intro k;rcases k with _ | k<;>simp<;>omega⟩
    rw[if_neg h0,hj,below_one]
    simp
    omega
  show wpAny _ _ (pure (match es[SetTable.below t.place (if es.size=0 then 0 else t.place.getD 0 0+1)]?,t.place[SetTable.below t.place (if es.size=0 then 0 else t.place.getD 0 0+1)]? with | some (_,x),some j=>some (x,j+1) | _,_=>none)) _ _ _
  rw[hbel]
  exact wpAny_pure ⟨rfl,.inr ⟨rfl,hA,fun h' hk=>hQ h' s.toks fun b o hb e=>hk b o (fun z=>hb (by simp[z])) e⟩⟩
 self:=fun _ _ _ _ x hQ=>si_self x.1 hQ
end
end PySem
end
section
namespace PySem
section
variable{prog:Program}{w:World}{A:Around}{E:Value→Shared→Prop}{s:Shared}{a:Addr}{es:Array (Int×Value)}{ep:Nat}{t:SetTable}
def SWalk(prog:Program)(w:World)(es:Array (Int×Value))(a I:Addr)(h':Heap)(n0:Nat):Prop:=∃ (fp:List Addr) (P:Nat→Value→Prop) (St:Nat→Heap→Prop),(∀ A:Around,A.handled=none→Walks prog w A I fp [I] es.size P St)∧St 0 h'∧(∀ b∈fp,b<h'.objs.size)∧n0≤I∧(∀ b∈fp,b=a∨n0≤b)∧(∀ acc,ItemsOf P acc es.size→acc.toList.Perm (es.toList.map (·.2)))
theorem items_list{P:Nat→Value→Prop}{acc:Array Value}{n:Nat}{L:List Value}(h:ItemsOf P acc n)(hL:L.length=n)(hp:∀ i v,P i v→L[i]?=some v):acc.toList=L:=by
 apply List.ext_getElem?
 intro i
 by_cases hi:i<acc.size
 ·have e:acc[i]?=some acc[i]:=Array.getElem?_eq_getElem hi
  rw[Array.getElem?_toList,e]
  exact(hp i _ (h.2 i _ e)).symm
 ·have:=h.1
  rw[List.getElem?_eq_none (by rw[Array.length_toList];omega),List.getElem?_eq_none (by omega)]
theorem si_open(S:SetS w s.heap a es ep t)(hle:es.size≤1000){Q:Value→Shared→Prop}(h:∀ I h' d',SWalk prog w es a I h' s.heap.objs.size→(∀ b o,s.heap.get? b=some o→h'.get? b=some o)→h'.objs.size≤s.heap.objs.size+2→Q (.ref I) { s with heap:=h',drawn:=d' }):wpAny (model prog w) A (pyIter (.ref a)) Q E s:=by
 have hT:s.TypeIs (.ref a) "set":=⟨_,S.ob,rfl⟩
 have hlt:=Heap.lt_size S.ob
 refine wpAny_pyIter_slot hT F.slot_set_iter (wpAny_call_entry F.slot_set_iter hT F.si_entry_set ?_ (F.args_set_iter_1 _))
 unfold Builtin.«frozenset.__iter__»
 refine wpAny_bind (wpAny_of_eq (a:=a) rfl ?_)
 unfold Builtin.Frozenset.sizeOf
 refine wpAny_bind (wpAny_bind (wpAny_setEntries_of S.ob rfl S.fit (wpAny_pure ?_)))
 have plain:∀ (B:Bool),w.params.followText "set-order" = B→(B=true∨es.size≤1)→∀ d':Drawn,wpAny (model prog w) A.in1 (newFields "set_iterator" [rawInt 0,rawInt 0,.ref a,rawInt es.size,rawInt ep] >>= fun it=>ret it) (fun fin s'=>∃ v,fin=Fin.done (.ret v)∧∃ T m,s'.TypeIs v T∧typeLookup (.type T) "__next__" = pure (some m)∧Q v s') E { s with drawn:=d' }:=by
  intro B hB hor d'
  unfold newFields
  refine wpAny_bind (wpAny_newObj_type (wpAny_pure ⟨_,rfl,"set_iterator",_,⟨_,Heap.get?_push_size _ rfl,rfl⟩,F.si_next.lookup,?_⟩))
  have hI:SIt (s.heap.push { cls:=.type "set_iterator",data:=.fields #[rawInt 0,rawInt 0,.ref a,rawInt es.size,rawInt ep] }) s.heap.objs.size (rawInt 0) 0 a es.size ep:=Heap.get?_push_size _ rfl
  have kp:∀ b o,s.heap.get? b=some o→(s.heap.push { cls:=.type "set_iterator",data:=.fields #[rawInt 0,rawInt 0,.ref a,rawInt es.size,rawInt ep] }).get? b=some o:=fun b o e=>Heap.get?_push_of_some _ e
  have hz:(s.heap.push { cls:=.type "set_iterator",data:=.fields #[rawInt 0,rawInt 0,.ref a,rawInt es.size,rawInt ep] }).objs.size=s.heap.objs.size+1:=Heap.size_push ..
  have fpl:∀ b∈[s.heap.objs.size,a],b<(s.heap.push { cls:=.type "set_iterator",data:=.fields #[rawInt 0,rawInt 0,.ref a,rawInt es.size,rawInt ep] }).objs.size:=fun b hb=>by
   rw[hz]
   rcases List.mem_cons.mp hb with q | q
   ·rw[q];exact Nat.lt_succ_self _
   ·rw[List.mem_singleton.mp q];exact Nat.lt_succ_of_lt hlt
  have fpo:∀ b∈[s.heap.objs.size,a],b=a∨s.heap.objs.size≤b:=fun b hb=>by
   rcases List.mem_cons.mp hb with q | q
   ·exact .inr (by rw[q];exact Nat.le_refl _)
   ·exact .inl (List.mem_singleton.mp q)
  refine h _ _ d' ?_ kp (by rw[hz];exact Nat.le_succ _)
  cases B with
  | true=>
   refine⟨_,_,_,fun A hA=>Walks.setT (t:=t) hB hA (Nat.ne_of_lt hlt),⟨⟨0,hI⟩,S.at fun o q=>kp _ _ q⟩,fpl,Nat.le_refl _,fpo,fun acc hacc=>?_⟩
   have hp:=pick_perm (w.params.setOrder a ep) es
   rw[items_list (L:=(pickOrder (w.params.setOrder a ep) es).toList.map (·.2)) hacc (by rw[List.length_map,hp.length_eq,Array.length_toList]) fun i v ⟨e,q1,q2⟩=>by rw[List.getElem?_map,Array.getElem?_toList,q1,q2];rfl]
   exact hp.map _
  | false=>
   have h1:es.size≤1:=by
    rcases hor with q | q
    ·cases q
    ·exact q
   refine⟨_,_,_,fun A hA=>Walks.setO (t:=t) hB hA (Nat.ne_of_lt hlt) h1,⟨hI,S.at fun o q=>kp _ _ q⟩,fpl,Nat.le_refl _,fpo,fun acc hacc=>?_⟩
   rw[items_list (L:=es.toList.map (·.2)) hacc (by simp) fun i v ⟨e,q1,q2⟩=>by rw[List.getElem?_map,Array.getElem?_toList,q1,q2];rfl]
 refine wpAny_bind ?_
 unfold setDrawn
 refine wpAny_bind (wpAny_setState_of S.ob rfl S.fit ?_)
 unfold setsByText
 refine wpAny_bind (wpAny_bind (wpAny_askSetting (wpAny_pure (wpAny_pure ?_))))
 show wpAny _ _ (if (!w.params.followText "set-order"&&(!t.plain&&decide (es.size > 1)))=true then _ else _) _ _ _
 by_cases hd:(!w.params.followText "set-order"&&(!t.plain&&decide (es.size > 1)))=true
 ·rw[if_pos hd]
  refine wpAny_bind (draw_order es.size _ _ _ (by simp) fun ys d' hp=>?_)
  refine wpAny_bind (wpAny_newTuple (hsz:=by rw[List.length_map,hp.length_eq,List.length_range];exact Nat.le_trans hle (by decide)) ?_)
  generalize hH1:s.heap.push { cls:=.type "tuple",data:=.seq (ys.map fun(p:Nat)=>rawInt p).toArray }=H1
  have kp1:∀ b o,s.heap.get? b=some o→H1.get? b=some o:=fun b o e=>by rw[← hH1];exact Heap.get?_push_of_some _ e
  have hT1:H1.IsTuple s.heap.objs.size (ys.map fun(p:Nat)=>rawInt p).toArray:=by rw[← hH1];exact⟨_,Heap.get?_push_size _ rfl,rfl,_,rfl⟩
  have hz1:H1.objs.size=s.heap.objs.size+1:=by rw[← hH1];exact Heap.size_push ..
  have S1:SetS w H1 a es ep t:=S.at fun o q=>kp1 _ _ q
  refine wpAny_bind (wpAny_setEpoch_of (s:={ s with heap:=H1,drawn:=d' }) S1.ob rfl S.fit ?_)
  unfold newFields
  refine wpAny_bind (wpAny_newObj_type (wpAny_pure ⟨_,rfl,"set_iterator",_,⟨_,Heap.get?_push_size _ rfl,rfl⟩,F.si_next.lookup,?_⟩))
  generalize hH2:H1.push { cls:=.type "set_iterator",data:=.fields [.ref s.heap.objs.size,rawInt 0,.ref a,rawInt es.size,rawInt ep].toArray }=H2
  have kp2:∀ b o,H1.get? b=some o→H2.get? b=some o:=fun b o e=>by rw[← hH2];exact Heap.get?_push_of_some _ e
  have hI:SIt H2 H1.objs.size (.ref s.heap.objs.size) 0 a es.size ep:=by rw[← hH2];exact Heap.get?_push_size _ rfl
  have hz2:H2.objs.size=s.heap.objs.size+2:=by rw[← hH2,Heap.size_push,hz1]
  refine h _ H2 d' ⟨_,_,_,fun A hA=>Walks.setD (t:=t) hA (T:=s.heap.objs.size) (by rw[hz1];exact Nat.ne_of_lt (Nat.lt_succ_of_lt hlt)) (by rw[hz1];exact Nat.ne_of_lt (Nat.lt_succ_self _)) hp,⟨hI,S1.at fun o q=>kp2 _ _ q,let ⟨o,e,c⟩:=hT1;⟨o,kp2 _ _ e,c⟩⟩,fun b hb=>?_,by rw[hz1];exact Nat.le_succ _,fun b hb=>?_,fun acc hacc=>?_⟩ (fun b o e=>kp2 b o (kp1 b o e)) (by rw[hz2];exact Nat.le_refl _)
  ·rw[hz2]
   simp only[List.mem_cons,List.not_mem_nil,or_false]at hb
   rcases hb with rfl | rfl | rfl
   ·rw[hz1];exact Nat.lt_succ_self _
   ·exact Nat.lt_succ_of_lt (Nat.lt_succ_of_lt hlt)
   ·exact Nat.lt_succ_of_lt (Nat.lt_succ_self _)
  ·simp only[List.mem_cons,List.not_mem_nil,or_false]at hb
   rcases hb with rfl | rfl | rfl
   ·right;rw[hz1];exact Nat.le_succ _
   ·exact .inl rfl
   ·exact .inr (Nat.le_refl _)
  ·have hl:ys.length=es.size:=by rw[hp.length_eq,List.length_range]
   rw[items_list (L:=ys.map fun p=>(es.toList.map (·.2)).getD p .none) hacc (by rw[List.length_map,hl]) fun i v hq0=>by
    obtain⟨p,e,q1,q2,q3⟩:=hq0
    rw[List.getElem?_map,q1,q3]
    have:(es.toList.map (·.2))[p]?=some e.2:=by rw[List.getElem?_map,Array.getElem?_toList,q2];rfl
    simp only[Option.map_some,List.getD_eq_getElem?_getD,this,Option.getD_some]]
   refine(hp.map _).trans ?_
   have:(List.range es.size).map (fun p=>(es.toList.map (·.2)).getD p Value.none)=es.toList.map (·.2):=by
    apply List.ext_getElem?
    intro i
    by_cases hi:i<es.size
    ·rw[List.getElem?_map,List.getElem?_range hi]
     simp[List.getD_eq_getElem?_getD,hi]
    ·rw[List.getElem?_eq_none (by simp;omega),List.getElem?_eq_none (by simp;omega)]
   rw[this]
 ·rw[if_neg hd]
  refine wpAny_bind (wpAny_pure (wpAny_bind (wpAny_setEpoch_of S.ob rfl S.fit ?_)))
  refine plain _ rfl ?_ s.drawn
  cases hB:w.params.followText "set-order" with
  | true=>exact .inl rfl
  | false=>
   refine .inr ?_
   rw[hB]at hd
   refine Classical.byContradiction fun q=>hd ?_
   have:=S.pl (by omega)
   simp[this]
   omega
end
end PySem
end
section
namespace PySem
section
variable{prog:Program}{w:World}{A:Around}{E:Value→Shared→Prop}{s:Shared}{a:Addr}{es:Array (Int×Value)}{ep:Nat}{t:SetTable}
theorem ss_hint{h:Heap}(S:SetS w h a es ep t){s:Shared}(hs:s.heap=h){Q:Bool→Shared→Prop}(q:Q false s):wpAny (model prog w) A (Builtin.List.listLengthHint (.ref a)) Q E s:=by
 have hT:s.TypeIs (.ref a) "set":=⟨_,by rw[hs];exact S.ob,rfl⟩
 unfold Builtin.List.listLengthHint
 refine wpAny_bind (wpAny_specialOf hT F.slot_set_len.lookup ?_)
 generalize hid:("set.__len__" : String)=id0
 wp_delta
 rw[show splitId id0=some ("set","__len__") from by subst hid;decide +kernel]
 subst hid
 refine wpAny_bind (wpAny_isInstance (T:="set") (b:=true) hT sub_set_self ?_)
 refine wpAny_ite_split (fun hab=>absurd hab (by decide)) (fun _=>?_)
 refine wpAny_ite_split (fun _=>?_) (fun hab=>absurd (by decide +kernel) hab)
 exact wpAny_bind (wpAny_typeOf hT (wpAny_pure q))
theorem ss_collect(S:SetS w s.heap a es ep t)(hle:es.size≤1000)(hh:A.handled=none){R:List Value→Shared→Prop}
  (h:∀ (h':Heap) (tk:Nat) (d':Drawn) (acc:Array Value),(∀ b o,s.heap.get? b=some o→h'.get? b=some o)→acc.toList.Perm (es.toList.map (·.2))→R acc.toList { s with heap:=h',toks:=tk,drawn:=d' }) :
  wpAny (model prog w) A (collect (.ref a)) R E s:=by
 have hlt:=Heap.lt_size S.ob
 unfold collect
 refine wpAny_bind (wpAny_runValue (codeAny_builtin PyProof.Rows.entry_proto_collect' ?_))
 rw[Around.under_plainId PySem.F.plain_proto_collect _]
 show wpAny _ A.in1 (newList [] >>= fun l=>again (.builtin "list.__iadd__" ⟨[l,.ref a],[]⟩)) _ _ s
 refine wpAny_bind (wpAny_newObj_type ?_)
 refine wpAny_pure ⟨plainId_quiet PySem.F.plain_list_iadd _,codeAny_builtin PyProof.Rows.entry_list_iadd' ?_⟩
 rw[Around.under_plainId PySem.F.plain_list_iadd _]
 show wpAny _ A.in1 (Builtin.List.listExtendWith (.ref s.heap.objs.size) (.ref a) (.ref s.heap.objs.size)) _ _ _
 generalize hH:s.heap.push { cls:=.type "list",data:=.seq ([]:List Value).toArray }=H1
 have hL:H1.get? s.heap.objs.size=some { cls:=.type "list",data:=.seq #[] }:=by rw[← hH];exact Heap.get?_push_size _ rfl
 have k1:∀ b o,s.heap.get? b=some o→H1.get? b=some o:=fun b o e=>by rw[← hH];exact Heap.get?_push_of_some _ e
 have hz1:H1.objs.size=s.heap.objs.size+1:=by rw[← hH];exact Heap.size_push ..
 have S1:SetS w H1 a es ep t:=S.at fun o q=>k1 _ _ q
 unfold Builtin.List.listExtendWith
 refine wpAny_bind (wpAny_typeOf (T:="set") ⟨_,S1.ob,rfl⟩ ?_)
 rw[if_neg (by simp[Builtin.List.listSameRef,Nat.ne_of_gt hlt])]
 refine wpAny_bind (si_open (s:={ s with heap:=H1 }) S1 hle fun I h2 d' ⟨fp,P,St,W,st,hfp,hn0,hor,hperm⟩ k2 _=>?_)
 have hSf:s.heap.objs.size∉fp:=fun hm=>by
  rcases hor _ hm with q | q
  ·exact absurd q (Nat.ne_of_gt hlt)
  ·have:H1.objs.size≤s.heap.objs.size:=q
   rw[hz1]at this
   exact absurd this (Nat.not_succ_le_self _)
 have hI:s.heap.objs.size<I:=by
  have:H1.objs.size≤I:=hn0
  rw[hz1]at this
  exact this
 have hL2:h2.get? s.heap.objs.size=some { cls:=.type "list",data:=.seq #[] }:=k2 _ _ hL
 have S2:SetS w h2 a es ep t:=S1.at fun o q=>k2 _ _ q
 have key:∀ (h3:Heap) (c:Nat),St 0 h3→(∀ b o,b≠s.heap.objs.size→h2.get? b=some o→h3.get? b=some o)→h3.get? s.heap.objs.size=some { cls:=.type "list",data:=.seq #[] c }→
   codeAny (model prog w) A (.builtin "list.extend.loop" ⟨[.ref s.heap.objs.size,.ref I,.ref s.heap.objs.size],[]⟩) (fun r s₂=>match r with | .ok (.ret v)=>wpAny (model prog w) A (match v with | .ref x=>load x >>= fun o=>(match o.data with | .seq xs _=>pure xs.toList | _=>unsupported "internal:collect") | _=>unsupported "internal:collect") R E s₂ | .ok _=>False | .error e=>E e s₂) { s with heap:=h3,drawn:=d' }:=by
  intro h3 c st3 k3 hL3
  refine codeAny_extend_loopS ((W A.in1 (by simp[hh])).toS) (Nat.le_trans hle (by decide)) _ hSf _ es.size 0 _ #[] c rfl (Nat.zero_le _) st3 hL3 (ItemsOf.nil _) fun s' acc' c' hm hS' hacc=>?_
  rw[Moved.eq_with hm]
  show wpAny _ A (load s.heap.objs.size >>= _) _ _ _
  refine wpAny_bind (wpAny_load hS' (wpAny_pure (h s'.heap s'.toks d' acc' (fun b o e=>?_) (hperm acc' hacc))))
  have hb:b<s.heap.objs.size:=Heap.lt_size e
  refine hm.heap b o (fun z=>?_) (k3 b o (Nat.ne_of_lt hb) (k2 b o (k1 b o e)))
  rcases List.mem_cons.mp z with z | z
  ·exact absurd z (Nat.ne_of_lt hb)
  ·rw[List.mem_singleton.mp z]at hb
   exact absurd (Nat.lt_trans hI hb) (Nat.lt_irrefl _)
 refine wpAny_bind (wpAny_holding (ss_hint (s:={ s with heap:=h2,drawn:=d' }) S2 rfl ?_))
 refine wpAny_ite_split (fun _=>?_) (fun _=>wpAny_pure ⟨plainId_quiet PySem.F.plain_extend_loop _,key h2 0 st (fun b o _ e=>e) hL2⟩)
 refine wpAny_bind (wpAny_rule ?_)
 refine wpAny_bind ?_
 show wpAny _ _ (updateSeq s.heap.objs.size (·.push .none) >>= fun _=>updateSeq s.heap.objs.size (·.pop)) _ _ _
 refine wpAny_bind (wpAny_updateSeq (s:={ s with heap:=h2,drawn:=d' }) hL2 rfl ?_)
 have hL3:=Heap.get?_update_self (Obj.mapSeq (·.push Value.none)) hL2 rfl
 refine wpAny_updateSeq (hz:=by seq_fits) hL3 rfl ?_
 have hL4:=Heap.get?_update_self (Obj.mapSeq (·.pop)) hL3 rfl
 have k4:∀ b o,b≠s.heap.objs.size→h2.get? b=some o→((h2.update s.heap.objs.size (Obj.mapSeq (·.push Value.none))).update s.heap.objs.size (Obj.mapSeq (·.pop))).get? b=some o:=fun b o hb e=>(Heap.get?_update_other _ _ (Ne.symm hb)).trans ((Heap.get?_update_other _ _ (Ne.symm hb)).trans e)
 exact wpAny_pure ⟨plainId_quiet PySem.F.plain_extend_loop _,key _ _ ((W A hh).frame 0 _ _ st fun b hb o e=>k4 b o (fun z=>hSf (z▸hb)) e) k4 hL4⟩
end
end PySem
end
section
namespace L2
open PySem PySem.Spec PyProof.Rows
section
variable{prog:Program}{w:World}{A:Around}{E:Value→Shared→Prop}{s:Shared}
theorem strs_vals:∀ {l:List (Int×Value)} {acc:List Value},SE w l→acc.Perm (l.map (·.2))→∃ ss:List Str,StrsAre acc ss∧ss.Perm (l.map nmE):=by
 intro l acc hs hp
 have one:∀ v∈acc,∃ x u,v=Value.str x u:=fun v hv=>by
  obtain⟨e,he,rfl⟩:=List.mem_map.mp (hp.mem_iff.mp hv)
  obtain⟨x,u,rfl⟩:=hs e he
  exact⟨x,u,rfl⟩
 let f:Value→Str:=fun v=>match v with | .str x _=>x | _=>⟨#[]⟩
 have key:∀ vs:List Value,(∀ v∈vs,∃ x u,v=Value.str x u)→StrsAre vs (vs.map f):=fun vs=>by
  induction vs with
  | nil=>exact fun _=>.nil
  | cons v r ih=>
   intro h
   obtain⟨x,u,rfl⟩:=h v List.mem_cons_self
   exact .cons x u (ih fun y hy=>h y (List.mem_cons_of_mem _ hy))
 refine⟨acc.map f,key acc one,?_⟩
 have:(l.map (·.2)).map f=l.map nmE:=by rw[List.map_map];rfl
 rw[← this]
 exact hp.map f
theorem ss_sorted{a:Addr}{es:Array (Int×Value)}{ep:Nat}{t:SetTable}(S:SetS w s.heap a es ep t)(h64:es.size<64)(hh:A.handled=none){Q:Value→Shared→Prop}
  (h:∀ (h1 h':Heap) (tk:Nat) (d':Drawn) (D:Addr) (out:Array Value) (ss':List Str) (c:Nat),(∀ b o,s.heap.get? b=some o→h1.get? b=some o)→D=h1.objs.size→(∀ b o,h1.get? b=some o→h'.get? b=some o)→h'.get? D=some { cls:=.type "list",data:=.seq out c }→StrsAre out.toList ss'→ss'.Perm (es.toList.map nmE)→sortedS ss'=true→
   Q (.ref D) { s with heap:=h',toks:=tk,drawn:=d' }):wpAny (model prog w) A (call (.builtin "sorted") [.ref a]) Q E s:=by
 refine Calls.call_function_entry kind_sorted plain_sorted entry_sorted (args_sorted1 _) ?_
 unfold Builtin.«sorted»
 refine wpAny_bind (m:=checkCount "sorted" 1 1 _) (wpAny_pure ?_)
 refine wpAny_bind (ss_collect (A:=A.in1) S (by omega) (by simp[hh]) fun h1 tk d' acc hk1 hperm=>?_)
 obtain⟨ss,hS,hpS⟩:=strs_vals S.se hperm
 have hl:acc.toList.length=es.size:=by rw[hperm.length_eq,List.length_map,Array.length_toList]
 refine wpAny_bind (wpAny_newList ?_ (by rw[hl,sizeLine_eq];omega))
 have ho:(h1.push (seqObj "list" acc.toList.toArray 0)).get? h1.objs.size=some (seqObj "list" acc.toList.toArray 0):=Heap.get?_push_size _ rfl
 refine wpAny_bind (wpAny_holding (wpAny_call_entry slot_list_sort ⟨_,ho,rfl⟩ entry_list_sort (list_sort_treeK strKind_oneLt ho hS.keysOf (fun v₁ v₂ rest e=>keyKind_strs (by rw[← e];exact hS)) (by rw[hl];exact h64) fun st' hp hs=>⟨_,rfl,?_⟩) (args_list_sort _)))
 obtain⟨ss',g1,g2,g3⟩:=sorted_out_str hS hp hs
 refine wpAny_pure ⟨_,rfl,?_⟩
 obtain⟨c,hc⟩:=sortedHeap_at (vs:=acc.toList) (out:=(arrOf st').map (·.2)) ho
 refine h h1 _ tk d' _ _ ss' c hk1 rfl (fun b o e=>?_) hc g1 (g2.trans hpS) g3
 have hb:b<h1.objs.size:=Heap.lt_size e
 rw[sortedHeap_old (Nat.ne_of_lt hb) (by rw[Heap.size_push];exact Nat.lt_succ_of_lt hb)]
 exact Heap.get?_push_of_some _ e
end
section
variable{X:Cx}
theorem Inv.drawn{pins:List (Addr×Obj)}{σ:St}{H:Hp}{s:Shared}(I:Inv X pins σ H s)(d':Drawn):Inv X pins σ H { s with drawn:=d' }:=
 I.step (h':=s.heap) (t':=s.toks) (g':=s.gens) (d':=d') (ch:=[]) (fun _ z=>nomatch z) (fun b o _ _ _ e _=>e) (fun b o _ _ _ e _=>⟨o.slots,e⟩) (fun _ _ _ _ n=>n) (fun b o _ e=>⟨o,e⟩) (fun _ _ e=>e) (fun _ _ _ e=>e) (fun b ps e=>⟨#[],by rw[e];simp⟩) (fun m hm=>hm) I.hok I.bare
def rSortSet(K:PySem.W.Frag)(x:V)(H1:Hp)(Q:VK):Prop:=∃ (a:Addr) (xs:List Str),[x]=[V.ref a]∧SqL K H1 a (xs.map V.str)∧xs.length≤4000∧(∀ ys:List Str,ys.Nodup→(∀ y,y∈ys↔y∈xs)→ys.length<64)∧
 ∀ (p:Addr) (ss:List Str),H1 p=none→ss.Nodup→(∀ y,y∈ss↔y∈xs)→sortedS ss=true→Q (.ref p) (upd H1 p (.lst (ss.map V.str)))
theorem pe_sortedSet{e:Expr}{te:TE}{p1 p2 q1 q2:Pos}(hc:X.calm=true)(hg1:Gl X "sorted")(hm1:X.mg "sorted" = none)(hg2:Gl X "set")(hm2:X.mg "set" = none)(he:PE X e te)
  (hs1:starEach [Expr.Call (.Name "set" p2) [e] [] q2] X.env=[(false,eval (.Call (.Name "set" p2) [e] [] q2) X.env)]:=by rfl) (hs2:starEach [e] X.env=[(false,eval e X.env)]:=by rfl) :
  PE X (.Call (.Name "sorted" p1) [.Call (.Name "set" p2) [e] [] q2] [] q1) (fun σ H Q=>te σ H fun x H1=>rSortSet X.K x H1 Q):=by
 intro pins s σ H Q I h
 refine Call_ (ld_blt I hg1 hm1 boot_sorted (PyProof.Rows.callWith_builtin1 ?_ hs1 rfl))
 have inner:wpAny (model X.prog X.w) X.A (eval (.Call (.Name "set" p2) [e] [] q2) X.env)
   (fun v s1=>∃ (S:Addr) (xs:List Str) (es:Array (Int×Value)) (ep:Nat) (t:SetTable) (H1:Hp),v=.ref S∧Inv X pins σ H1 s1∧SetS X.w s1.heap S es ep t∧(∀ y,y∈es.toList.map nmE↔y∈xs)∧(∀ ys:List Str,ys.Nodup→(∀ y,y∈ys↔y∈xs)→ys.length<64)∧
    ∀ (p:Addr) (ss:List Str),H1 p=none→ss.Nodup→(∀ y,y∈ss↔y∈xs)→sortedS ss=true→Q (.ref p) (upd H1 p (.lst (ss.map V.str)))) X.xe s:=by
  refine Call_ (ld_blt I hg2 hm2 boot_set (PyProof.Rows.callWith_type1 (thn (pa_cons he pa_nil hs2 q2 pins s σ H (fun vs H1=>∃ (a:Addr) (xs:List Str),vs=[.ref a]∧SqL X.K H1 a (xs.map V.str)∧xs.length≤4000∧(∀ ys:List Str,ys.Nodup→(∀ y,y∈ys↔y∈xs)→ys.length<64)∧
   ∀ (p:Addr) (ss:List Str),H1 p=none→ss.Nodup→(∀ y,y∈ss↔y∈xs)→sortedS ss=true→Q (.ref p) (upd H1 p (.lst (ss.map V.str)))) I ?_) fun us s1 ⟨vs,H1,I1,r1,q1⟩=>?_) hs2 rfl))
  ·exact h
  ·obtain⟨a,xs,rfl,hq,hl,h64,q⟩:=q1
   obtain⟨u,rfl,ru⟩:=r1.one
   cases ru
   obtain⟨its,rv,pl,hz⟩:=I1.list hq
   have hst:StrsAre its xs:=strsAre_of rv
   have hln:=hst.length
   refine ss_call (I1.ok.hd hc) pl.isList hst (by show its.length+1<4096;omega) fun h' tk es ep t g1 g2 g3 g4=>?_
   exact⟨_,xs,es,ep,t,H1,rfl,I1.kept g4,g1,g3,h64,q⟩
 rw[hs1]
 refine Calls.spliced_cons (thn inner fun v s1 hq0=>?_)
 obtain⟨S,xs,es,ep,t,H1,ev,I1,hS,hm,h64,q⟩:=hq0
 refine Calls.spliced_nil ?_
 subst ev
 have hz:es.size<64:=by
  have:=h64 _ hS.nd hm
  rw[List.length_map,Array.length_toList]at this
  exact this
 refine ss_sorted hS hz (I1.ok.hd hc) fun h1 h' tk d' D out ss' c k1 eD k2 hD hO hp hs=>?_
 subst eD
 have hnd:ss'.Nodup:=hp.nodup_iff.mpr hS.nd
 have I2:Inv X pins σ H1 { s1 with heap:=h1,toks:=tk,drawn:=d' }:=(I1.kept (t':=tk) k1).drawn d'
 have I3:Inv X pins σ (upd H1 h1.objs.size (.lst (ss'.map V.str))) { s1 with heap:=h',toks:=tk,drawn:=d' }:=I2.laid (t':=tk) (fun b o e=>k2 b o e) (Nat.le_refl _) ⟨?_,out.toList,c,vals_strs hO,by simpa using hD⟩
 ·exact⟨.ref _,_,I3,rfl,q _ ss' (I2.hok.fresh (Nat.le_refl _)) hnd (fun y=>by rw[hp.mem_iff];exact hm y) hs⟩
 ·rw[List.length_map,hp.length_eq,List.length_map,Array.length_toList,sizeLine_eq]
  omega
end
end L2
end
section
namespace WL
open PySem PySem.Spec PyProof.Rows L2
theorem uniq_mem{x:Str}:∀ {l:List Str},x∈uniq l↔x∈l
 | []=>by simp[uniq]
 | y::r=>by
  rw[uniq]
  by_cases h:y∈r
  ·rw[if_pos h,uniq_mem,List.mem_cons]
   exact⟨.inr,fun q=>q.elim (fun e=>e▸h) id⟩
  ·rw[if_neg h,List.mem_cons,List.mem_cons,uniq_mem]
theorem uniq_nd:∀ l:List Str,(uniq l).Nodup
 | []=>List.nodup_nil
 | y::r=>by
  rw[uniq]
  by_cases h:y∈r
  ·rw[if_pos h];exact uniq_nd r
  ·rw[if_neg h];exact List.nodup_cons.mpr ⟨fun q=>h (uniq_mem.mp q),uniq_nd r⟩
theorem uniq_perm{l ys:List Str}(hn:ys.Nodup)(hm:∀ y,y∈ys↔y∈l):ys.Perm (uniq l):=
 (List.perm_ext_iff_of_nodup hn (uniq_nd l)).mpr fun y=>by rw[hm,uniq_mem]
theorem ats_of_strs{K:PySem.W.Frag}{ρ:List Addr}{H:Hp}:∀ l:List Str,Ats K ρ H (l.map D.str) (l.map V.str)
 | []=>rfl
 | x::r=>⟨_,_,rfl,rfl,ats_of_strs r⟩
section
variable{C:String→List D→Mem→Option (D×Mem)}{X:Cx}{a:Expr}{pa:Ex}
theorem sd_sortedSet{mu:Bool}{p1 p2 q1 q2:Pos}(hc:X.calm=true)(hg1:Gl X "sorted")(hm1:X.mg "sorted" = none)(hg2:Gl X "set")(hm2:X.mg "set" = none)(ha:PE X a (tD C X.K pa))
  (hs1:starEach [Expr.Call (.Name "set" p2) [a] [] q2] X.env=[(false,eval (.Call (.Name "set" p2) [a] [] q2) X.env)]:=by rfl) (hs2:starEach [a] X.env=[(false,eval a X.env)]:=by rfl) :
  PE X (.Call (.Name "sorted" p1) [.Call (.Name "set" p2) [a] [] q2] [] q1) (tD C X.K (.b1 (.sortedSet mu) pa)):=
 sd_one (r:=fun x H1 Q=>rSortSet X.K x H1 Q) (f:=b1D (.sortedSet mu)) (pe_sortedSet hc hg1 hm1 hg2 hm2 ha hs1 hs2) (by
  intro ρ m m' H dx d x Q M ax e q
  obtain⟨xs,e1,e⟩:=Option.bind_eq_some_iff.mp (show ((lstOf dx m).bind fun xs=>(strsOf xs).bind fun ss=>if ss.length≤4000∧(uniq ss).length<64 then some (mkL mu ((sortStr (uniq ss)).map .str) m) else none)=some (d,m') from e)
  obtain⟨ss,e2,e⟩:=Option.bind_eq_some_iff.mp e
  by_cases h:ss.length≤4000∧(uniq ss).length<64
  ·rw[if_pos h]at e
   have e':mkL mu ((sortStr (uniq ss)).map .str) m=(d,m'):=Option.some.inj e
   obtain⟨p,vs,rfl,hq,as⟩:=lst_rd M ax e1
   cases (ats_strs e2 as)
   refine⟨p,ss,rfl,hq,h.1,fun ys hn hm=>by rw[(uniq_perm hn hm).length_eq];exact h.2,fun p' ss' hp hn hm hs=>?_⟩
   have es:=sort_is (uniq_perm hn hm) hs
   subst es
   have q':Beh X.K ρ H (mkL mu ((sortStr (uniq ss)).map .str) m).1 (mkL mu ((sortStr (uniq ss)).map .str) m).2 Q:=by rw[e'];exact q
   exact q'.lst M (ats_of_strs _) hp
  ·rw[if_neg h]at e
   cases e) fun _ _=>rfl
end
end WL
end
section
namespace L2
open PySem PySem.Spec PyProof.Rows
def Its(x:Str):It:=⟨fun i _=>i<x.cps.size,fun i H v H'=>H'=H∧∃ c,x.cps[i]?=some c∧v=.str ⟨#[c]⟩,fun i _=>x.cps.size≤i⟩
theorem turn_strA{P:Program}{w:World}{K:PySem.W.Frag}{tg:Expr}(it:Addr)(x:Str)(t:Tok):Turn P w K tg (Its x) [it] it (fun i h=>h.IsStrIter it "str_ascii_iterator" x t i) where
 mem:=by simp
 obj:=fun i h st b hb=>by
  have e:b=it:=by simpa using hb
  subst e
  obtain⟨o,e,c,d⟩:=st
  exact⟨o,e,fun v z=>by rw[d]at z;cases z⟩
 keep:=fun i h h' st k=>let ⟨o,ho,r⟩:=st;⟨o,k it (by simp) o ho,r⟩
 item:=by
  intro X hP hw hK hc i pins s σ H E I hf st hg
  subst hP hw hK
  obtain⟨f0,f1,f2,f3,f4,f5⟩:=hf it (by simp)
  have hx:x.cps[i]?=some (x.cps[i]'hg):=Array.getElem?_eq_getElem hg
  refine wpAny_pyNext_ascii_item st hx fun h' st' sb=>?_
  have I1:Inv X pins σ H { s with heap:=h',toks:=s.toks+1 }:=I.turned (fun b o hb e=>(sb.2 b hb).trans e) f0 f1 f3 f4 f5
  obtain⟨o,e,c,d⟩:=id st'
  exact⟨_,rfl,go_of (s:={ s with heap:=h',toks:=s.toks+1 }) e c d (by decide) ⟨.str ⟨#[x.cps[i]'hg]⟩,H,I1,⟨_,rfl⟩,⟨rfl,_,hx,rfl⟩,st',fun b hb=>(hf b hb).1⟩⟩
 done:=by
  intro X hP hw hK hc i pins s σ H E I hf st hg
  subst hP hw hK
  obtain⟨f0,f1,f2,f3,f4,f5⟩:=hf it (by simp)
  exact wpAny_pyNext_ascii_end (I.ok.hd hc) st (Array.getElem?_eq_none hg) fun h' eb=>⟨rfl,I.turned (t':=s.toks) (fun b o hb e=>eb b o hb e) f0 f1 f3 f4 f5⟩
 self:=fun _ _ _ _ _ st h=>wpAny_pyIter_striter_ascii st h
theorem turn_strW{P:Program}{w:World}{K:PySem.W.Frag}{tg:Expr}(it:Addr)(x:Str)(t:Tok):Turn P w K tg (Its x) [it] it (fun i h=>h.IsStrIter it "str_iterator" x t i) where
 mem:=by simp
 obj:=fun i h st b hb=>by
  have e:b=it:=by simpa using hb
  subst e
  obtain⟨o,e,c,d⟩:=st
  exact⟨o,e,fun v z=>by rw[d]at z;cases z⟩
 keep:=fun i h h' st k=>let ⟨o,ho,r⟩:=st;⟨o,k it (by simp) o ho,r⟩
 item:=by
  intro X hP hw hK hc i pins s σ H E I hf st hg
  subst hP hw hK
  obtain⟨f0,f1,f2,f3,f4,f5⟩:=hf it (by simp)
  have hx:x.cps[i]?=some (x.cps[i]'hg):=Array.getElem?_eq_getElem hg
  refine wpAny_pyNext_wide_item st hx fun h' st' sb=>?_
  have I1:Inv X pins σ H { s with heap:=h',toks:=s.toks+1 }:=I.turned (fun b o hb e=>(sb.2 b hb).trans e) f0 f1 f3 f4 f5
  obtain⟨o,e,c,d⟩:=id st'
  exact⟨_,rfl,go_of (s:={ s with heap:=h',toks:=s.toks+1 }) e c d (by decide) ⟨.str ⟨#[x.cps[i]'hg]⟩,H,I1,⟨_,rfl⟩,⟨rfl,_,hx,rfl⟩,st',fun b hb=>(hf b hb).1⟩⟩
 done:=by
  intro X hP hw hK hc i pins s σ H E I hf st hg
  subst hP hw hK
  obtain⟨f0,f1,f2,f3,f4,f5⟩:=hf it (by simp)
  exact wpAny_pyNext_wide_end (I.ok.hd hc) st (Array.getElem?_eq_none hg) fun h' eb=>⟨rfl,I.turned (t':=s.toks) (fun b o hb e=>eb b o hb e) f0 f1 f3 f4 f5⟩
 self:=fun _ _ _ _ _ st h=>wpAny_pyIter_striter_wide st h
section
variable{X:Cx}{tg:Expr}
theorem pi_txt{l:Expr}{tl:TE}(hl:PE X l tl):PI X tg l (fun σ H R=>tl σ H fun v H1=>∃ x,v=.str x∧R (Its x) H1):=by
 intro pins s σ H R I h
 refine thn (hl pins s σ H _ I h) fun v s1 hq0=>?_
 obtain⟨x,H1,I1,r1,q1⟩:=hq0
 obtain⟨z,rfl,q⟩:=q1
 obtain⟨t,rfl⟩:=r1
 have fpo:∀ b∈[s1.heap.objs.size],FpOk X pins H1 b:=fun b hb=>by
  have e:b=s1.heap.objs.size:=by simpa using hb
  subst e
  exact I1.fpOk (Nat.le_refl _) (I1.hok.fresh (Nat.le_refl _))
 cases ha:z.cps.all (·<128)
 ·exact wpAny_pyIter_wide ha ⟨s1.heap.objs.size,[s1.heap.objs.size],_,_,H1,rfl,I1.kept (t':=s1.toks) fun b o e=>Heap.get?_push_of_some _ e,turn_strW _ z t,⟨_,Heap.get?_push_size _ rfl,rfl,rfl⟩,fpo,q⟩
 ·exact wpAny_pyIter_ascii ha ⟨s1.heap.objs.size,[s1.heap.objs.size],_,_,H1,rfl,I1.kept (t':=s1.toks) fun b o e=>Heap.get?_push_of_some _ e,turn_strA _ z t,⟨_,Heap.get?_push_size _ rfl,rfl,rfl⟩,fpo,q⟩
end
end L2
end
section
namespace WL
open PySem PySem.Spec PyProof.Rows L2
section
variable{C:String→List D→Mem→Option (D×Mem)}{X:Cx}{tg a b:Expr}{pa pb:Ex}{pos:Pos}
theorem si_txt(ha:PE X a (tD C X.K pa)):PI X tg a (tDI C X.K (.txt pa)):=(pi_txt ha).imp fun σ H R hq0=>by
 obtain⟨σd,m,ρ,w,m',S,M,e,q⟩:=hq0
 obtain⟨⟨x,m1⟩,e1,e⟩:=Option.bind_eq_some_iff.mp e
 refine⟨σd,m,ρ,x,m1,S,M,e1,fun v H1 ρ1 g1 M1 A1=>?_⟩
 cases x with
 | str z=>
  have e:(if z.length≤1000 then some ((⟨z.cps.toList.map fun(c:Nat)=>.str ⟨#[c]⟩,none⟩:Walk),m1) else none)=some (w,m'):=e
  by_cases hl:z.length≤1000
  ·rw[if_pos hl]at e
   cases e
   refine⟨z,A1,q _ H1 ρ1 g1 M1 fun i ρ' m'' H' hf hr M' _=>⟨fun d hd=>?_,fun hi=>?_⟩⟩
   ·rw[List.getElem?_map]at hd
    obtain⟨c,hc,rfl⟩:=Option.map_eq_some_iff.mp hd
    rw[Array.getElem?_toList]at hc
    refine⟨(Array.getElem?_eq_some_iff.mp hc).1,fun y H2 hy=>?_⟩
    obtain⟨rfl,c',hc',rfl⟩:=hy
    rw[hc]at hc'
    cases hc'
    exact⟨fun _ _ z=>z,rfl⟩
   ·show z.cps.size≤i
    simpa using hi
  ·rw[if_neg hl]at e
   cases e
 | _=>cases e
theorem sd_inTxt(ha:PE X a (tD C X.K pa))(hb:PE X b (tD C X.K pb))(hm:behindInMarks .In b=false:=by rfl):PE X (.Compare a [.In] [b] pos) (tD C X.K (.inTxt pa pb)):=
 sd_two (f:=fun x y m=>match x,y with | .str i,.str j=>some (.bl (!(Builtin.Str.occurrences j i 0 j.length 1).isEmpty),m) | _,_=>none) (pe_cmpR op_in_str ha hb hm) (by
  intro ρ m m' H dx dy d x y Q M ax ay e q
  cases dx with
  | str i=>
   cases dy with
   | str j=>
    cases ax;cases ay;cases e
    exact⟨i,j,rfl,rfl,.of (q.here M rfl)⟩
   | _=>cases e
  | _=>cases e) fun _ _=>rfl
end
end WL
end
section
namespace T
open PySem L2 WL
def g_NUMBERS:D:=.int 997
def g_LEVELS:D:=.int 3
def b_qcell:Sms:=(.cons (.ite (.val (.cmp .lt (.var 1) (.b1 .len (.var 0)))) (.cons (.ret (.ix (.var 0) (.var 1))) .nil) .nil) (.cons (.ret (.con (.int 0))) .nil))
def F_qcell:Fn:=⟨2,2,b_qcell⟩
def b_qmix:Sms:=(.cons (.ret (.bin .mod (.bin .mod (.bin .mul (.var 0) (.con (.int 48271))) (.var 1)) (.var 2))) .nil)
def F_qmix:Fn:=⟨3,3,b_qmix⟩
def b_qname:Sms:=(.cons (.set 2 (.con (.str (Str.ofString "abcdefghijklmnopqrstuvwxyz")))) (.cons (.set 3 (.call "_law_cell" (.cons (.var 0) (.cons (.con (.int 0)) .nil)))) (.cons (.set 4 (.ix (.var 2) (.bin .mod (.bin .add (.call "_law_mix" (.cons (.var 3) (.cons (.con (.int 9949)) (.cons (.con (.int 26)) .nil)))) (.bin .mul (.con (.int 5)) (.var 1))) (.con (.int 26))))) (.cons (.set 5 (.join (.con (.str (Str.ofString ""))) (.comp false 1 (.nm 7) (.rng (.call "_law_mix" (.cons (.var 3) (.cons (.con (.int 9931)) (.cons (.con (.int 3)) .nil))))) .tt (.ix (.var 2) (.call "_law_mix" (.cons (.bin .add (.var 3) (.bin .mul (.con (.int 3)) (.var 7))) (.cons (.con (.int 9941)) (.cons (.con (.int 26)) .nil)))))))) (.cons (.set 6 (.call "_law_mix" (.cons (.var 3) (.cons (.con (.int 9929)) (.cons (.bin .add (.b1 .len (.var 5)) (.con (.int 1))) .nil))))) (.cons (.ret (.bin .add (.bin .add (.sl (.var 5) .no (.pt (.var 6))) (.var 4)) (.sl (.var 5) (.pt (.var 6)) .no))) .nil))))))
def F_qname:Fn:=⟨2,7,b_qname⟩
def b_qnames:Sms:=(.cons (.ret (.comp false 1 (.nm 1) (.rng (.con (.int 4))) .tt (.call "_law_name" (.cons (.var 0) (.cons (.var 1) .nil))))) .nil)
def F_qnames:Fn:=⟨1,1,b_qnames⟩
def b_qlevels:Sms:=(.cons (.ret (.lst false (.cons (.con (.int 0)) (.cons (.con (.int 2)) (.cons (.call "_law_mix" (.cons (.call "_law_cell" (.cons (.var 0) (.cons (.con (.int 1)) .nil))) (.cons (.con (.int 9923)) (.cons (.con (.int 3)) .nil)))) (.cons (.call "_law_mix" (.cons (.call "_law_cell" (.cons (.var 0) (.cons (.con (.int 1)) .nil))) (.cons (.con (.int 9907)) (.cons (.con (.int 3)) .nil)))) .nil)))))) .nil)
def F_qlevels:Fn:=⟨1,1,b_qlevels⟩
def b_qterm:Sms:=(.cons (.set 3 (.call "_law_mix" (.cons (.var 1) (.cons (.con (.int 9901)) (.cons (.con (.int 9)) .nil))))) (.cons (.ite (.or (.val (.cmp .eq (.var 2) (.con (.int 0)))) (.val (.cmp .lt (.var 3) (.con (.int 3))))) (.cons (.ite (.val (.cmp .eq (.bin .mod (.var 3) (.con (.int 3))) (.con (.int 0)))) (.cons (.ret (.tup (.cons (.con (.str (Str.ofString "number"))) (.cons (.call "_law_mix" (.cons (.var 1) (.cons (.con (.int 9887)) (.cons (.con (.int 997)) .nil)))) .nil)))) .nil) .nil) (.cons (.ret (.tup (.cons (.con (.str (Str.ofString "name"))) (.cons (.ix (.var 0) (.call "_law_mix" (.cons (.var 1) (.cons (.con (.int 9883)) (.cons (.con (.int 4)) .nil))))) .nil)))) .nil)) .nil) (.cons (.set 4 (.call "_law_term" (.cons (.var 0) (.cons (.bin .add (.bin .mul (.var 1) (.con (.int 3))) (.con (.int 1))) (.cons (.bin .sub (.var 2) (.con (.int 1))) .nil))))) (.cons (.ret (.tup (.cons (.ix (.lst false (.cons (.con (.str (Str.ofString "sum"))) (.cons (.con (.str (Str.ofString "times"))) (.cons (.con (.str (Str.ofString "less"))) .nil)))) (.bin .mod (.var 3) (.con (.int 3)))) (.cons (.var 4) (.cons (.call "_law_term" (.cons (.var 0) (.cons (.bin .add (.bin .mul (.var 1) (.con (.int 5))) (.con (.int 2))) (.cons (.bin .sub (.var 2) (.con (.int 1))) .nil)))) .nil))))) .nil))))
def F_qterm:Fn:=⟨3,5,b_qterm⟩
def b_qnames_in:Sms:=(.cons (.ite (.val (.cmp .eq (.ix (.var 0) (.con (.int 0))) (.con (.str (Str.ofString "name"))))) (.cons (.ret (.lst false (.cons (.ix (.var 0) (.con (.int 1))) .nil))) .nil) .nil) (.cons (.ite (.val (.cmp .eq (.ix (.var 0) (.con (.int 0))) (.con (.str (Str.ofString "number"))))) (.cons (.ret (.lst false .nil)) .nil) .nil) (.cons (.ret (.cat false (.call "_law_names_in" (.cons (.ix (.var 0) (.con (.int 1))) .nil)) (.call "_law_names_in" (.cons (.ix (.var 0) (.con (.int 2))) .nil)))) .nil)))
def F_qnames_in:Fn:=⟨1,1,b_qnames_in⟩
def b_qdeed:Sms:=(.cons (.asg (.tp [(.nm 4),(.nm 5),(.nm 6)]) (.var 0)) (.cons (.set 7 (.call "_law_term" (.cons (.var 4) (.cons (.var 1) (.cons (.bin .add (.con (.int 1)) (.bin .mod (.var 1) (.con (.int 2)))) .nil))))) (.cons (.set 8 (.b1 .max (.cat false (.comp false 1 (.nm 14) (.seq (.call "_law_names_in" (.cons (.var 7) .nil))) .tt (.ix (.var 5) (.index (.var 4) (.var 14)))) (.lst false (.cons (.var 3) .nil))))) (.cons (.set 9 (.call "_law_mix" (.cons (.var 1) (.cons (.con (.int 9871)) (.cons (.con (.int 9)) .nil))))) (.cons (.ite (.and (.val (.cmp .gt (.var 2) (.con (.int 0)))) (.val (.cmp .lt (.var 9) (.con (.int 2))))) (.cons (.set 10 (.call "_law_block" (.cons (.var 0) (.cons (.bin .add (.bin .mul (.var 1) (.con (.int 3))) (.con (.int 1))) (.cons (.bin .sub (.var 2) (.con (.int 1))) (.cons (.var 8) .nil)))))) (.cons (.ret (.tup (.cons (.con (.str (Str.ofString "if"))) (.cons (.var 7) (.cons (.var 10) (.cons (.call "_law_block" (.cons (.var 0) (.cons (.bin .add (.bin .mul (.var 1) (.con (.int 5))) (.con (.int 2))) (.cons (.bin .sub (.var 2) (.con (.int 1))) (.cons (.var 8) .nil))))) .nil)))))) .nil)) .nil) (.cons (.ite (.and (.val (.cmp .gt (.var 2) (.con (.int 0)))) (.and (.val (.cmp .lt (.var 9) (.con (.int 4)))) (.or (.val (.cmp .eq (.var 3) (.con (.int 0)))) (.not (.val (.var 6)))))) (.cons (.set 11 (.tup (.cons (.con (.str (Str.ofString "put"))) (.cons (.ix (.var 4) (.con (.int 0))) (.cons (.tup (.cons (.con (.str (Str.ofString "sum"))) (.cons (.tup (.cons (.con (.str (Str.ofString "name"))) (.cons (.ix (.var 4) (.con (.int 0))) .nil))) (.cons (.tup (.cons (.con (.str (Str.ofString "number"))) (.cons (.con (.int 1)) .nil))) .nil)))) .nil))))) (.cons (.set 12 (.call "_law_block" (.cons (.var 0) (.cons (.bin .add (.bin .mul (.var 1) (.con (.int 3))) (.con (.int 1))) (.cons (.bin .sub (.var 2) (.con (.int 1))) (.cons (.var 3) .nil)))))) (.cons (.ite (.val (.var 6)) (.cons (.set 7 (.tup (.cons (.con (.str (Str.ofString "less"))) (.cons (.tup (.cons (.con (.str (Str.ofString "name"))) (.cons (.ix (.var 4) (.con (.int 0))) .nil))) (.cons (.tup (.cons (.con (.str (Str.ofString "number"))) (.cons (.call "_law_mix" (.cons (.var 1) (.cons (.con (.int 9859)) (.cons (.con (.int 6)) .nil)))) .nil))) .nil))))) .nil) .nil) (.cons (.ret (.tup (.cons (.con (.str (Str.ofString "while"))) (.cons (.var 7) (.cons (.bin .add (.var 12) (.tup (.cons (.var 11) .nil))) .nil))))) .nil)))) .nil) (.cons (.set 13 (.comp false 1 (.nm 14) (.rng (.con (.int 4))) (.or (.val (.cmp .ge (.ix (.var 5) (.var 14)) (.var 8))) (.not (.val (.var 6)))) (.var 14))) (.cons (.ite (.and (.val (.cmp .lt (.var 9) (.con (.int 7)))) (.val (.var 13))) (.cons (.ret (.tup (.cons (.con (.str (Str.ofString "put"))) (.cons (.ix (.var 4) (.ix (.var 13) (.call "_law_mix" (.cons (.var 1) (.cons (.con (.int 9857)) (.cons (.b1 .len (.var 13)) .nil)))))) (.cons (.var 7) .nil))))) .nil) .nil) (.cons (.ret (.tup (.cons (.con (.str (Str.ofString "show"))) (.cons (.max2 (.call "_law_mix" (.cons (.var 1) (.cons (.con (.int 9851)) (.cons (.con (.int 3)) .nil)))) (.bin .mul (.var 8) (.b1 .int (.var 6)))) (.cons (.var 7) .nil))))) .nil)))))))))
def F_qdeed:Fn:=⟨4,14,b_qdeed⟩
def b_qblock:Sms:=(.cons (.set 4 (.bin .add (.con (.int 1)) (.call "_law_mix" (.cons (.var 1) (.cons (.con (.int 9839)) (.cons (.con (.int 2)) .nil)))))) (.cons (.ret (.b1 .tuple (.comp false 1 (.nm 5) (.rng (.var 4)) .tt (.call "_law_deed" (.cons (.var 0) (.cons (.bin .add (.bin .mul (.var 1) (.con (.int 7))) (.bin .mul (.con (.int 11)) (.var 5))) (.cons (.var 2) (.cons (.var 3) .nil)))))))) .nil))
def F_qblock:Fn:=⟨4,5,b_qblock⟩
def b_qprogram:Sms:=(.cons (.set 2 (.cmp .gt (.call "_law_mix" (.cons (.call "_law_cell" (.cons (.var 0) (.cons (.con (.int 0)) .nil))) (.cons (.con (.int 9833)) (.cons (.con (.int 4)) .nil)))) (.con (.int 0)))) (.cons (.set 3 (.tup (.cons (.call "_law_names" (.cons (.var 0) .nil)) (.cons (.call "_law_levels" (.cons (.var 0) .nil)) (.cons (.var 2) .nil))))) (.cons (.set 4 (.sl (.var 0) (.pt (.var 1)) (.pt (.bin .add (.bin .add (.var 1) (.con (.int 1))) (.bin .mod (.call "_law_cell" (.cons (.var 0) (.cons (.con (.int 0)) .nil))) (.con (.int 3))))))) (.cons (.ret (.b1 .tuple (.comp false 1 (.nm 5) (.seq (.var 4)) .tt (.call "_law_deed" (.cons (.var 3) (.cons (.var 5) (.cons (.con (.int 2)) (.cons (.con (.int 0)) .nil)))))))) .nil))))
def F_qprogram:Fn:=⟨2,5,b_qprogram⟩
def b_qstore:Sms:=(.cons (.set 2 (.lst true .nil)) (.cons (.fr (.tp [(.nm 3),(.nm 4)]) (.enum (.call "_law_names" (.cons (.var 0) .nil))) (.cons (.set 5 (.call "_law_mix" (.cons (.bin .add (.call "_law_cell" (.cons (.var 0) (.cons (.var 1) .nil))) (.bin .mul (.con (.int 13)) (.var 3))) (.cons (.con (.int 9829)) (.cons (.con (.int 997)) .nil))))) (.cons (.ite (.val (.cmp .eq (.bin .mod (.call "_law_cell" (.cons (.var 0) (.cons (.var 1) .nil))) (.con (.int 4))) (.con (.int 0)))) (.cons (.set 5 (.bin .mod (.var 5) (.con (.int 3)))) .nil) .nil) (.cons (.drop (.app (.var 2) (.tup (.cons (.var 4) (.cons (.var 5) .nil))))) .nil)))) (.cons (.ret (.b1 .tuple (.b1 (.sorted false) (.var 2)))) .nil)))
def F_qstore:Fn:=⟨2,6,b_qstore⟩
end T
end
section
namespace T
open PySem L2 WL
end T
end
section
namespace T
open PySem L2 WL
def g_PAIRING:D:=.tup [.str (Str.ofString "sum"),.str (Str.ofString "times"),.str (Str.ofString "less")]
def b_qhouse:Sms:=(.cons (.set 1 (.lzip false (.call "_law_names" (.cons (.var 0) .nil)) (.call "_law_levels" (.cons (.var 0) .nil)))) (.cons (.ite (.val (.cmp .eq (.bin .mod (.call "_law_cell" (.cons (.var 0) (.cons (.con (.int 1)) .nil))) (.con (.int 3))) (.con (.int 0)))) (.cons (.set 1 (.comp false 1 (.nm 2) (.seq (.var 1)) (.val (.cmp .gt (.ix (.var 2) (.con (.int 1))) (.con (.int 0)))) (.var 2))) .nil) .nil) (.cons (.ret (.b1 .tuple (.b1 (.sorted false) (.var 1)))) .nil)))
def F_qhouse:Fn:=⟨1,2,b_qhouse⟩
end T
end
section
namespace T
open PySem L2 WL
end T
end
section
namespace T
open PySem L2 WL
def g_LETTERS:D:=.str (Str.ofString "abcdefghijklmnopqrstuvwxyz")
def g_LONGEST_NAME:D:=.int 3
def b_is_program:Sms:=(.cons (.ret (.call "is_block" (.cons (.var 0) .nil))) .nil)
def F_is_program:Fn:=⟨1,1,b_is_program⟩
def b_is_house:Sms:=(.cons (.ret (.andv (.call "has_rising_names" (.cons (.var 0) .nil)) (.b1 .all (.comp false 1 (.nm 1) (.seq (.var 0)) .tt (.call "is_level" (.cons (.ix (.var 1) (.con (.int 1))) .nil)))))) .nil)
def F_is_house:Fn:=⟨1,1,b_is_house⟩
def b_is_store:Sms:=(.cons (.ret (.andv (.call "has_rising_names" (.cons (.var 0) .nil)) (.b1 .all (.comp false 1 (.nm 1) (.seq (.var 0)) .tt (.call "is_number" (.cons (.ix (.var 1) (.con (.int 1))) .nil)))))) .nil)
def F_is_store:Fn:=⟨1,1,b_is_store⟩
def b_is_block:Sms:=(.cons (.ret (.andv (.b1 .isTuple (.var 0)) (.b1 .all (.comp false 1 (.nm 1) (.seq (.var 0)) .tt (.call "is_deed" (.cons (.var 1) .nil)))))) .nil)
def F_is_block:Fn:=⟨1,1,b_is_block⟩
def b_is_deed:Sms:=(.cons (.ite (.or (.not (.val (.b1 .isTuple (.var 0)))) (.val (.cmp .lt (.b1 .len (.var 0)) (.con (.int 3))))) (.cons (.ret (.con (.bl false))) .nil) .nil) (.cons (.set 1 (.ix (.var 0) (.con (.int 0)))) (.cons (.ite (.val (.cmp .eq (.var 1) (.con (.str (Str.ofString "if"))))) (.cons (.ret (.andv (.cmp .eq (.b1 .len (.var 0)) (.con (.int 4))) (.andv (.call "is_term" (.cons (.ix (.var 0) (.con (.int 1))) .nil)) (.andv (.call "is_block" (.cons (.ix (.var 0) (.con (.int 2))) .nil)) (.call "is_block" (.cons (.ix (.var 0) (.con (.int 3))) .nil)))))) .nil) .nil) (.cons (.ite (.val (.cmp .ne (.b1 .len (.var 0)) (.con (.int 3)))) (.cons (.ret (.con (.bl false))) .nil) .nil) (.cons (.ite (.val (.cmp .eq (.var 1) (.con (.str (Str.ofString "put"))))) (.cons (.ret (.andv (.call "is_name" (.cons (.ix (.var 0) (.con (.int 1))) .nil)) (.call "is_term" (.cons (.ix (.var 0) (.con (.int 2))) .nil)))) .nil) .nil) (.cons (.ite (.val (.cmp .eq (.var 1) (.con (.str (Str.ofString "show"))))) (.cons (.ret (.andv (.call "is_level" (.cons (.ix (.var 0) (.con (.int 1))) .nil)) (.call "is_term" (.cons (.ix (.var 0) (.con (.int 2))) .nil)))) .nil) .nil) (.cons (.ret (.andv (.cmp .eq (.var 1) (.con (.str (Str.ofString "while")))) (.andv (.call "is_term" (.cons (.ix (.var 0) (.con (.int 1))) .nil)) (.call "is_block" (.cons (.ix (.var 0) (.con (.int 2))) .nil))))) .nil)))))))
def F_is_deed:Fn:=⟨1,2,b_is_deed⟩
def b_is_term:Sms:=(.cons (.ite (.not (.val (.b1 .isTuple (.var 0)))) (.cons (.ret (.con (.bl false))) .nil) .nil) (.cons (.ite (.val (.cmp .eq (.b1 .len (.var 0)) (.con (.int 3)))) (.cons (.ret (.andv (.cmp .isin (.ix (.var 0) (.con (.int 0))) (.con g_PAIRING)) (.andv (.call "is_term" (.cons (.ix (.var 0) (.con (.int 1))) .nil)) (.call "is_term" (.cons (.ix (.var 0) (.con (.int 2))) .nil))))) .nil) .nil) (.cons (.ite (.val (.cmp .ne (.b1 .len (.var 0)) (.con (.int 2)))) (.cons (.ret (.con (.bl false))) .nil) .nil) (.cons (.ite (.val (.cmp .eq (.ix (.var 0) (.con (.int 0))) (.con (.str (Str.ofString "number"))))) (.cons (.ret (.call "is_number" (.cons (.ix (.var 0) (.con (.int 1))) .nil))) .nil) .nil) (.cons (.ret (.andv (.cmp .eq (.ix (.var 0) (.con (.int 0))) (.con (.str (Str.ofString "name")))) (.call "is_name" (.cons (.ix (.var 0) (.con (.int 1))) .nil)))) .nil)))))
def F_is_term:Fn:=⟨1,1,b_is_term⟩
def b_has_rising_names:Sms:=(.cons (.ite (.or (.not (.val (.b1 .isTuple (.var 0)))) (.not (.val (.b1 .all (.comp false 1 (.nm 2) (.seq (.var 0)) .tt (.call "is_named" (.cons (.var 2) .nil))))))) (.cons (.ret (.con (.bl false))) .nil) .nil) (.cons (.set 1 (.comp false 1 (.nm 2) (.seq (.var 0)) .tt (.ix (.var 2) (.con (.int 0))))) (.cons (.ret (.cmp .eq (.var 1) (.b1 (.sortedSet false) (.var 1)))) .nil)))
def F_has_rising_names:Fn:=⟨1,2,b_has_rising_names⟩
def b_is_named:Sms:=(.cons (.ret (.andv (.b1 .isTuple (.var 0)) (.andv (.cmp .eq (.b1 .len (.var 0)) (.con (.int 2))) (.call "is_name" (.cons (.ix (.var 0) (.con (.int 0))) .nil))))) .nil)
def F_is_named:Fn:=⟨1,1,b_is_named⟩
def b_is_name:Sms:=(.cons (.ite (.or (.not (.val (.b1 .isStr (.var 0)))) (.not (.val (.chain .le .le (.con (.int 1)) (.b1 .len (.var 0)) (.con g_LONGEST_NAME))))) (.cons (.ret (.con (.bl false))) .nil) .nil) (.cons (.ret (.b1 .all (.comp false 1 (.nm 1) (.txt (.var 0)) .tt (.inTxt (.var 1) (.con g_LETTERS))))) .nil))
def F_is_name:Fn:=⟨1,1,b_is_name⟩
def b_is_number:Sms:=(.cons (.ret (.andv (.call "is_whole" (.cons (.var 0) .nil)) (.chain .le .lt (.con (.int 0)) (.var 0) (.con g_NUMBERS)))) .nil)
def F_is_number:Fn:=⟨1,1,b_is_number⟩
def b_is_level:Sms:=(.cons (.ret (.andv (.call "is_whole" (.cons (.var 0) .nil)) (.chain .le .lt (.con (.int 0)) (.var 0) (.con g_LEVELS)))) .nil)
def F_is_level:Fn:=⟨1,1,b_is_level⟩
def b_is_whole:Sms:=(.cons (.ret (.andv (.b1 .isInt (.var 0)) (.notv (.b1 .isBool (.var 0))))) .nil)
def F_is_whole:Fn:=⟨1,1,b_is_whole⟩
def b_qbad_term:Sms:=(.cons (.set 2 (.lst false (.cons (.con .non) (.cons (.con (.int 7)) (.cons (.con (.str (Str.ofString "name"))) (.cons (.tup .nil) (.cons (.tup (.cons (.con (.str (Str.ofString "number"))) .nil)) (.cons (.tup (.cons (.con (.str (Str.ofString "number"))) (.cons (.con (.int 997)) .nil))) (.cons (.tup (.cons (.con (.str (Str.ofString "number"))) (.cons (.con (.int (-1))) .nil))) (.cons (.tup (.cons (.con (.str (Str.ofString "number"))) (.cons (.con (.bl true)) .nil))) (.cons (.tup (.cons (.con (.str (Str.ofString "name"))) (.cons (.con (.str (Str.ofString ""))) .nil))) .nil))))))))))) (.cons (.set 2 (.cat false (.var 2) (.lst false (.cons (.tup (.cons (.con (.str (Str.ofString "name"))) (.cons (.con (.str (Str.ofString "abcd"))) .nil))) (.cons (.tup (.cons (.con (.str (Str.ofString "name"))) (.cons (.con (.int 1)) .nil))) (.cons (.tup (.cons (.con (.str (Str.ofString "sum"))) (.cons (.var 1) .nil))) (.cons (.tup (.cons (.con (.str (Str.ofString "sum"))) (.cons (.var 1) (.cons (.var 1) (.cons (.var 1) .nil))))) (.cons (.tup (.cons (.con (.str (Str.ofString "less"))) (.cons (.var 1) (.cons (.con .non) .nil)))) .nil)))))))) (.cons (.set 2 (.cat false (.var 2) (.lst false (.cons (.tup (.cons (.con (.str (Str.ofString "minus"))) (.cons (.var 1) (.cons (.var 1) .nil)))) (.cons (.tup (.cons (.con (.str (Str.ofString "times"))) (.cons (.tup .nil) (.cons (.var 1) .nil)))) (.cons (.tup (.cons (.con (.str (Str.ofString "number"))) (.cons (.con (.str (Str.ofString "1"))) .nil))) (.cons (.tup (.cons (.con (.str (Str.ofString "sum"))) (.cons (.tup (.cons (.con (.str (Str.ofString "name"))) (.cons (.con (.str (Str.ofString "a1"))) .nil))) (.cons (.var 1) .nil)))) .nil))))))) (.cons (.set 2 (.cat false (.var 2) (.lst false (.cons (.tup (.cons (.con (.str (Str.ofString "name"))) (.cons (.con (.str (Str.ofString "A"))) .nil))) (.cons (.b1 (.list false) (.var 1)) (.cons (.tup (.cons (.lst false (.cons (.con (.str (Str.ofString "name"))) .nil)) (.cons (.con (.str (Str.ofString "a"))) .nil))) .nil)))))) (.cons (.ret (.ix (.var 2) (.bin .mod (.var 0) (.b1 .len (.var 2))))) .nil)))))
def F_qbad_term:Fn:=⟨2,3,b_qbad_term⟩
def b_qbad_deed:Sms:=(.cons (.set 3 (.call "_law_bad_term" (.cons (.bin .fdiv (.var 0) (.con (.int 16))) (.cons (.var 1) .nil)))) (.cons (.set 4 (.lst false (.cons (.tup (.cons (.con (.str (Str.ofString "put"))) (.cons (.var 2) (.cons (.var 3) .nil)))) (.cons (.tup (.cons (.con (.str (Str.ofString "show"))) (.cons (.con (.int 1)) (.cons (.var 3) .nil)))) (.cons (.tup (.cons (.con (.str (Str.ofString "if"))) (.cons (.var 3) (.cons (.tup .nil) (.cons (.tup .nil) .nil))))) (.cons (.tup (.cons (.con (.str (Str.ofString "while"))) (.cons (.var 3) (.cons (.tup .nil) .nil)))) (.cons (.tup (.cons (.con (.str (Str.ofString "put"))) (.cons (.con (.str (Str.ofString ""))) (.cons (.var 1) .nil)))) .nil))))))) (.cons (.set 4 (.cat false (.var 4) (.lst false (.cons (.tup (.cons (.con (.str (Str.ofString "show"))) (.cons (.con (.int 3)) (.cons (.var 1) .nil)))) (.cons (.tup (.cons (.con (.str (Str.ofString "show"))) (.cons (.con (.bl true)) (.cons (.var 1) .nil)))) (.cons (.tup (.cons (.con (.str (Str.ofString "if"))) (.cons (.var 1) (.cons (.tup .nil) .nil)))) (.cons (.tup (.cons (.con (.str (Str.ofString "if"))) (.cons (.var 1) (.cons (.tup .nil) (.cons (.con .non) .nil))))) .nil))))))) (.cons (.set 4 (.cat false (.var 4) (.lst false (.cons (.tup (.cons (.con (.str (Str.ofString "say"))) (.cons (.var 1) .nil))) (.cons (.con .non) (.cons (.tup (.cons (.con (.str (Str.ofString "while"))) (.cons (.var 1) .nil))) (.cons (.tup (.cons (.con (.str (Str.ofString "show"))) (.cons (.con (.int (-1))) (.cons (.var 1) .nil)))) (.cons (.lst false (.cons (.con (.str (Str.ofString "put"))) (.cons (.var 2) (.cons (.var 1) .nil)))) .nil)))))))) (.cons (.set 4 (.cat false (.var 4) (.lst false (.cons (.tup (.cons (.con (.str (Str.ofString "put"))) (.cons (.var 2) .nil))) (.cons (.tup (.cons (.con (.str (Str.ofString "while"))) (.cons (.var 1) (.cons (.lst false .nil) .nil)))) .nil))))) (.cons (.ret (.ix (.var 4) (.bin .mod (.var 0) (.con (.int 16))))) .nil))))))
def F_qbad_deed:Fn:=⟨3,5,b_qbad_deed⟩
def b_qbad_pairs:Sms:=(.cons (.set 3 (.lst false (.cons (.b1 (.list false) (.var 0)) (.cons (.tup (.cons (.tup (.cons (.con (.str (Str.ofString "b"))) (.cons (.con (.int 1)) .nil))) (.cons (.tup (.cons (.con (.str (Str.ofString "a"))) (.cons (.con (.int 1)) .nil))) .nil))) (.cons (.tup (.cons (.tup (.cons (.con (.str (Str.ofString "a"))) (.cons (.con (.int 1)) .nil))) (.cons (.tup (.cons (.con (.str (Str.ofString "a"))) (.cons (.con (.int 1)) .nil))) .nil))) (.cons (.tup (.cons (.tup (.cons (.con (.str (Str.ofString "a"))) .nil)) .nil)) (.cons (.tup (.cons (.tup (.cons (.con (.str (Str.ofString "a"))) (.cons (.bin .add (.var 1) (.con (.int 1))) .nil))) .nil)) (.cons (.tup (.cons (.tup (.cons (.con (.str (Str.ofString "a"))) (.cons (.con (.int (-1))) .nil))) .nil)) .nil)))))))) (.cons (.set 3 (.cat false (.var 3) (.lst false (.cons (.tup (.cons (.tup (.cons (.con (.str (Str.ofString "a"))) (.cons (.con (.bl true)) .nil))) .nil)) (.cons (.tup (.cons (.tup (.cons (.con (.str (Str.ofString "A"))) (.cons (.con (.int 1)) .nil))) .nil)) (.cons (.tup (.cons (.tup (.cons (.con (.str (Str.ofString "abcd"))) (.cons (.con (.int 1)) .nil))) .nil)) (.cons (.con .non) (.cons (.tup (.cons (.lst false (.cons (.con (.str (Str.ofString "a"))) (.cons (.con (.int 1)) .nil))) .nil)) (.cons (.tup (.cons (.tup (.cons (.con (.str (Str.ofString "a"))) (.cons (.con (.str (Str.ofString "1"))) .nil))) .nil)) (.cons (.tup (.cons (.con (.str (Str.ofString "a"))) (.cons (.con (.int 1)) .nil))) .nil)))))))))) (.cons (.ret (.ix (.var 3) (.bin .mod (.var 2) (.b1 .len (.var 3))))) .nil)))
def F_qbad_pairs:Fn:=⟨3,4,b_qbad_pairs⟩
end T
end
section
namespace T
open PySem L2 WL
end T
end
section
namespace T
open PySem L2 WL
def b_law:Sms:=(.cons (.set 1 (.call "_law_names" (.cons (.var 0) .nil))) (.cons (.set 2 (.call "_law_program" (.cons (.var 0) (.cons (.con (.int 2)) .nil)))) (.cons (.set 3 (.call "_law_house" (.cons (.var 0) .nil))) (.cons (.set 4 (.call "_law_store" (.cons (.var 0) (.cons (.con (.int 5)) .nil)))) (.cons (.ite (.or (.val (.cmp .isnot (.call "is_program" (.cons (.var 2) .nil)) (.con (.bl true)))) (.or (.val (.cmp .isnot (.call "is_house" (.cons (.var 3) .nil)) (.con (.bl true)))) (.val (.cmp .isnot (.call "is_store" (.cons (.var 4) .nil)) (.con (.bl true)))))) (.cons (.ret (.con (.bl false))) .nil) .nil) (.cons (.fr (.nm 5) (.seq (.sl (.var 0) (.pt (.con (.int 5))) (.pt (.con (.int 12))))) (.cons (.set 6 (.call "_law_term" (.cons (.var 1) (.cons (.var 5) (.cons (.con (.int 1)) .nil))))) (.cons (.set 7 (.call "_law_bad_deed" (.cons (.bin .fdiv (.var 5) (.con (.int 4))) (.cons (.var 6) (.cons (.ix (.var 1) (.con (.int 0))) .nil))))) (.cons (.set 8 (.lst true (.cons (.bin .add (.tup (.cons (.var 7) .nil)) (.var 2)) (.cons (.bin .add (.var 2) (.tup (.cons (.var 7) .nil))) (.cons (.tup (.cons (.tup (.cons (.con (.str (Str.ofString "if"))) (.cons (.var 6) (.cons (.var 2) (.cons (.tup (.cons (.var 7) .nil)) .nil))))) .nil)) .nil))))) (.cons (.drop (.app (.var 8) (.tup (.cons (.tup (.cons (.con (.str (Str.ofString "while"))) (.cons (.var 6) (.cons (.bin .add (.tup (.cons (.var 7) .nil)) (.var 2)) .nil)))) .nil)))) (.cons (.ite (.or (.val (.cmp .isnot (.call "is_program" (.cons (.ix (.var 8) (.bin .mod (.var 5) (.con (.int 4)))) .nil)) (.con (.bl false)))) (.val (.cmp .isnot (.call "is_program" (.cons (.b1 (.list false) (.var 2)) .nil)) (.con (.bl false))))) (.cons (.ret (.con (.bl false))) .nil) .nil) (.cons (.ite (.val (.cmp .isnot (.call "is_house" (.cons (.call "_law_bad_pairs" (.cons (.var 3) (.cons (.con (.int 2)) (.cons (.var 5) .nil)))) .nil)) (.con (.bl false)))) (.cons (.ret (.con (.bl false))) .nil) .nil) (.cons (.ite (.val (.cmp .isnot (.call "is_store" (.cons (.call "_law_bad_pairs" (.cons (.var 4) (.cons (.con (.int 996)) (.cons (.var 5) .nil)))) .nil)) (.con (.bl false)))) (.cons (.ret (.con (.bl false))) .nil) .nil) .nil)))))))) (.cons (.ret (.andv (.cmp .is (.call "is_program" (.cons (.tup .nil) .nil)) (.con (.bl true))) (.andv (.cmp .is (.call "is_house" (.cons (.tup .nil) .nil)) (.con (.bl true))) (.cmp .is (.call "is_store" (.cons (.tup .nil) .nil)) (.con (.bl true)))))) .nil)))))))
def F_law:Fn:=⟨1,9,b_law⟩
end T
end
section
namespace T
open PySem L2 WL PySem.Spec PyProof.Rows
def top(i:Nat):Stmt:=PySem.Challenge.pw_whisperwall_k01_programs.main.body.getD i (.Pass ⟨0,0,0,0⟩)
def Γ:String→Option Fn:=fun f=>List.lookup f [("is_program",F_is_program),("is_house",F_is_house),("is_store",F_is_store),("is_block",F_is_block),("is_deed",F_is_deed),("is_term",F_is_term),("has_rising_names",F_has_rising_names),("is_named",F_is_named),("is_name",F_is_name),("is_number",F_is_number),("is_level",F_is_level),("is_whole",F_is_whole),("_law_cell",F_qcell),("_law_mix",F_qmix),("_law_name",F_qname),("_law_names",F_qnames),("_law_levels",F_qlevels),("_law_house",F_qhouse),("_law_term",F_qterm),("_law_names_in",F_qnames_in),("_law_deed",F_qdeed),("_law_block",F_qblock),("_law_program",F_qprogram),("_law_store",F_qstore),("_law_bad_term",F_qbad_term),("_law_bad_deed",F_qbad_deed),("_law_bad_pairs",F_qbad_pairs),("law",F_law)]
structure Tp(K:PySem.W.Frag)(mg:Str→Option Value):Prop where
 m_all:mg "all" = none
 m_bool:mg "bool" = none
 m_enumerate:mg "enumerate" = none
 m_int:mg "int" = none
 m_isinstance:mg "isinstance" = none
 m_len:mg "len" = none
 m_list:mg "list" = none
 m_max:mg "max" = none
 m_range:mg "range" = none
 m_set:mg "set" = none
 m_sorted:mg "sorted" = none
 m_str:mg "str" = none
 m_tuple:mg "tuple" = none
 m_zip:mg "zip" = none
 g_NUMBERS:GlAt K mg "NUMBERS" g_NUMBERS
 g_LEVELS:GlAt K mg "LEVELS" g_LEVELS
 g_LETTERS:GlAt K mg "LETTERS" g_LETTERS
 g_LONGEST_NAME:GlAt K mg "LONGEST_NAME" g_LONGEST_NAME
 g_PAIRING:GlAt K mg "PAIRING" g_PAIRING
section
variable{P:Program}{w:World}{K:PySem.W.Frag}{mg:Str→Option Value}{base:Heap}{W:Nat}{n:Nat}
def Ds(P:Program)(w:World)(K:PySem.W.Frag)(mg:Str→Option Value)(base:Heap)(W n:Nat):Prop:=∀ f∈["is_program","is_house","is_store","is_block","is_deed","is_term","has_rising_names","is_named","is_name","is_number","is_level","is_whole","_law_cell","_law_mix","_law_name","_law_names","_law_levels","_law_house","_law_term","_law_names_in","_law_deed","_law_block","_law_program","_law_store","_law_bad_term","_law_bad_deed","_law_bad_pairs","law"],Def P w K mg base n (callI W Γ n) f
theorem sw_list{es:List Expr}{pos:Pos}{t:Option Expr}{l:Nat}{env:Env}:swapsWith (.List es pos) t l env=pure false:=rfl
abbrev s_is_program:Stmt:=top 6
theorem sc_is_program:FnScope ["thing"] ["thing"] (defScope s_is_program):=⟨rfl,rfl,rfl,by decide +kernel,rfl,by decide +kernel,by decide +kernel⟩
theorem ok_is_program(T:Tp K mg)(D:Ds P w K mg base W n){fa:Addr}{cdv:Value}{A:Around}{outer:List Env}{s:Shared}{H:Hp}{E:XK}(hr:Room n (A.deeper (envOfC (Str.ofString "is_program") (defScope s_is_program) s.heap.objs.size fa cdv))):PSs (cxOf CX0 P w K mg base ["thing"] (Str.ofString "is_program") (defScope s_is_program) fa cdv A outer s H E).nox (defBody s_is_program) (tDSs (callI W Γ n) W K b_is_program):=by
 have nd:=sc_is_program.nd
 have hu:=hu_of hr
 have h64:=hr.units
 have hc:(cxOf CX0 P w K mg base ["thing"] (Str.ofString "is_program") (defScope s_is_program) fa cdv A outer s H E).nox.calm=true:=rfl
 have cx_is_block:Cal (cxOf CX0 P w K mg base ["thing"] (Str.ofString "is_program") (defScope s_is_program) fa cdv A outer s H E).nox (callI W Γ n) "is_block":=Def.cal (X:=(cxOf CX0 P w K mg base ["thing"] (Str.ofString "is_program") (defScope s_is_program) fa cdv A outer s H E).nox) (D "is_block" (by decide)) hr
 exact(ss_cons (ss_ret (sd_call (f:="is_block") cx_is_block rfl (sa_cons (sd_var 0) sa_nil))) ss_nil)
abbrev s_is_house:Stmt:=top 7
theorem sc_is_house:FnScope ["thing"] ["thing"] (defScope s_is_house):=⟨rfl,rfl,rfl,by decide +kernel,rfl,by decide +kernel,by decide +kernel⟩
theorem ok_is_house(T:Tp K mg)(D:Ds P w K mg base W n){fa:Addr}{cdv:Value}{A:Around}{outer:List Env}{s:Shared}{H:Hp}{E:XK}(hr:Room n (A.deeper (envOfC (Str.ofString "is_house") (defScope s_is_house) s.heap.objs.size fa cdv))):PSs (cxOf CX0 P w K mg base ["thing"] (Str.ofString "is_house") (defScope s_is_house) fa cdv A outer s H E).nox (defBody s_is_house) (tDSs (callI W Γ n) W K b_is_house):=by
 have nd:=sc_is_house.nd
 have hu:=hu_of hr
 have h64:=hr.units
 have hc:(cxOf CX0 P w K mg base ["thing"] (Str.ofString "is_house") (defScope s_is_house) fa cdv A outer s H E).nox.calm=true:=rfl
 have m_all:=T.m_all
 have cx_has_rising_names:Cal (cxOf CX0 P w K mg base ["thing"] (Str.ofString "is_house") (defScope s_is_house) fa cdv A outer s H E).nox (callI W Γ n) "has_rising_names":=Def.cal (X:=(cxOf CX0 P w K mg base ["thing"] (Str.ofString "is_house") (defScope s_is_house) fa cdv A outer s H E).nox) (D "has_rising_names" (by decide)) hr
 have cx_is_level:Cal (cxOf CX0 P w K mg base ["thing"] (Str.ofString "is_house") (defScope s_is_house) fa cdv A outer s H E).nox (callI W Γ n) "is_level":=Def.cal (X:=(cxOf CX0 P w K mg base ["thing"] (Str.ofString "is_house") (defScope s_is_house) fa cdv A outer s H E).nox) (D "is_level" (by decide)) hr
 exact(ss_cons (ss_ret (sd_and (sd_call (f:="has_rising_names") cx_has_rising_names rfl (sa_cons (sd_var 0) sa_nil)) (sd_last (sd_all hc rfl m_all (sd_comp (mu:=false) (own:=["pair"]) ⟨rfl,by rfl,by rfl,by rfl,by rfl,rfl⟩ hc (si_seq (sd_var 0)) (fun _ _ _ _=>(sg_nm 1 (show (["thing","pair"]:List Str).Nodup from by decide +kernel) rfl (Or.inl rfl))) (fun _ _ _ _=>sts_nil) (fun _ _ _ _=>(sd_call (f:="is_level") cx_is_level rfl (sa_cons (sd_ix (sd_var 1) sd_int) sa_nil)))))))) ss_nil)
abbrev s_is_store:Stmt:=top 8
theorem sc_is_store:FnScope ["thing"] ["thing"] (defScope s_is_store):=⟨rfl,rfl,rfl,by decide +kernel,rfl,by decide +kernel,by decide +kernel⟩
theorem ok_is_store(T:Tp K mg)(D:Ds P w K mg base W n){fa:Addr}{cdv:Value}{A:Around}{outer:List Env}{s:Shared}{H:Hp}{E:XK}(hr:Room n (A.deeper (envOfC (Str.ofString "is_store") (defScope s_is_store) s.heap.objs.size fa cdv))):PSs (cxOf CX0 P w K mg base ["thing"] (Str.ofString "is_store") (defScope s_is_store) fa cdv A outer s H E).nox (defBody s_is_store) (tDSs (callI W Γ n) W K b_is_store):=by
 have nd:=sc_is_store.nd
 have hu:=hu_of hr
 have h64:=hr.units
 have hc:(cxOf CX0 P w K mg base ["thing"] (Str.ofString "is_store") (defScope s_is_store) fa cdv A outer s H E).nox.calm=true:=rfl
 have m_all:=T.m_all
 have cx_has_rising_names:Cal (cxOf CX0 P w K mg base ["thing"] (Str.ofString "is_store") (defScope s_is_store) fa cdv A outer s H E).nox (callI W Γ n) "has_rising_names":=Def.cal (X:=(cxOf CX0 P w K mg base ["thing"] (Str.ofString "is_store") (defScope s_is_store) fa cdv A outer s H E).nox) (D "has_rising_names" (by decide)) hr
 have cx_is_number:Cal (cxOf CX0 P w K mg base ["thing"] (Str.ofString "is_store") (defScope s_is_store) fa cdv A outer s H E).nox (callI W Γ n) "is_number":=Def.cal (X:=(cxOf CX0 P w K mg base ["thing"] (Str.ofString "is_store") (defScope s_is_store) fa cdv A outer s H E).nox) (D "is_number" (by decide)) hr
 exact(ss_cons (ss_ret (sd_and (sd_call (f:="has_rising_names") cx_has_rising_names rfl (sa_cons (sd_var 0) sa_nil)) (sd_last (sd_all hc rfl m_all (sd_comp (mu:=false) (own:=["pair"]) ⟨rfl,by rfl,by rfl,by rfl,by rfl,rfl⟩ hc (si_seq (sd_var 0)) (fun _ _ _ _=>(sg_nm 1 (show (["thing","pair"]:List Str).Nodup from by decide +kernel) rfl (Or.inl rfl))) (fun _ _ _ _=>sts_nil) (fun _ _ _ _=>(sd_call (f:="is_number") cx_is_number rfl (sa_cons (sd_ix (sd_var 1) sd_int) sa_nil)))))))) ss_nil)
abbrev s_is_block:Stmt:=top 9
theorem sc_is_block:FnScope ["thing"] ["thing"] (defScope s_is_block):=⟨rfl,rfl,rfl,by decide +kernel,rfl,by decide +kernel,by decide +kernel⟩
theorem ok_is_block(T:Tp K mg)(D:Ds P w K mg base W n){fa:Addr}{cdv:Value}{A:Around}{outer:List Env}{s:Shared}{H:Hp}{E:XK}(hr:Room n (A.deeper (envOfC (Str.ofString "is_block") (defScope s_is_block) s.heap.objs.size fa cdv))):PSs (cxOf CX0 P w K mg base ["thing"] (Str.ofString "is_block") (defScope s_is_block) fa cdv A outer s H E).nox (defBody s_is_block) (tDSs (callI W Γ n) W K b_is_block):=by
 have nd:=sc_is_block.nd
 have hu:=hu_of hr
 have h64:=hr.units
 have hc:(cxOf CX0 P w K mg base ["thing"] (Str.ofString "is_block") (defScope s_is_block) fa cdv A outer s H E).nox.calm=true:=rfl
 have m_all:=T.m_all
 have m_isinstance:=T.m_isinstance
 have m_tuple:=T.m_tuple
 have cx_is_deed:Cal (cxOf CX0 P w K mg base ["thing"] (Str.ofString "is_block") (defScope s_is_block) fa cdv A outer s H E).nox (callI W Γ n) "is_deed":=Def.cal (X:=(cxOf CX0 P w K mg base ["thing"] (Str.ofString "is_block") (defScope s_is_block) fa cdv A outer s H E).nox) (D "is_deed" (by decide)) hr
 exact(ss_cons (ss_ret (sd_and (sd_istuple rfl m_isinstance rfl m_tuple (sd_var 0)) (sd_last (sd_all hc rfl m_all (sd_comp (mu:=false) (own:=["part"]) ⟨rfl,by rfl,by rfl,by rfl,by rfl,rfl⟩ hc (si_seq (sd_var 0)) (fun _ _ _ _=>(sg_nm 1 (show (["thing","part"]:List Str).Nodup from by decide +kernel) rfl (Or.inl rfl))) (fun _ _ _ _=>sts_nil) (fun _ _ _ _=>(sd_call (f:="is_deed") cx_is_deed rfl (sa_cons (sd_var 1) sa_nil)))))))) ss_nil)
abbrev s_is_deed:Stmt:=top 10
theorem sc_is_deed:FnScope ["thing","kind"] ["thing"] (defScope s_is_deed):=⟨rfl,rfl,rfl,by decide +kernel,rfl,by decide +kernel,by decide +kernel⟩
theorem ok_is_deed(T:Tp K mg)(D:Ds P w K mg base W n){fa:Addr}{cdv:Value}{A:Around}{outer:List Env}{s:Shared}{H:Hp}{E:XK}(hr:Room n (A.deeper (envOfC (Str.ofString "is_deed") (defScope s_is_deed) s.heap.objs.size fa cdv))):PSs (cxOf CX0 P w K mg base ["thing","kind"] (Str.ofString "is_deed") (defScope s_is_deed) fa cdv A outer s H E).nox (defBody s_is_deed) (tDSs (callI W Γ n) W K b_is_deed):=by
 have nd:=sc_is_deed.nd
 have hu:=hu_of hr
 have h64:=hr.units
 have hc:(cxOf CX0 P w K mg base ["thing","kind"] (Str.ofString "is_deed") (defScope s_is_deed) fa cdv A outer s H E).nox.calm=true:=rfl
 have m_isinstance:=T.m_isinstance
 have m_len:=T.m_len
 have m_tuple:=T.m_tuple
 have cx_is_block:Cal (cxOf CX0 P w K mg base ["thing","kind"] (Str.ofString "is_deed") (defScope s_is_deed) fa cdv A outer s H E).nox (callI W Γ n) "is_block":=Def.cal (X:=(cxOf CX0 P w K mg base ["thing","kind"] (Str.ofString "is_deed") (defScope s_is_deed) fa cdv A outer s H E).nox) (D "is_block" (by decide)) hr
 have cx_is_term:Cal (cxOf CX0 P w K mg base ["thing","kind"] (Str.ofString "is_deed") (defScope s_is_deed) fa cdv A outer s H E).nox (callI W Γ n) "is_term":=Def.cal (X:=(cxOf CX0 P w K mg base ["thing","kind"] (Str.ofString "is_deed") (defScope s_is_deed) fa cdv A outer s H E).nox) (D "is_term" (by decide)) hr
 have cx_is_name:Cal (cxOf CX0 P w K mg base ["thing","kind"] (Str.ofString "is_deed") (defScope s_is_deed) fa cdv A outer s H E).nox (callI W Γ n) "is_name":=Def.cal (X:=(cxOf CX0 P w K mg base ["thing","kind"] (Str.ofString "is_deed") (defScope s_is_deed) fa cdv A outer s H E).nox) (D "is_name" (by decide)) hr
 have cx_is_level:Cal (cxOf CX0 P w K mg base ["thing","kind"] (Str.ofString "is_deed") (defScope s_is_deed) fa cdv A outer s H E).nox (callI W Γ n) "is_level":=Def.cal (X:=(cxOf CX0 P w K mg base ["thing","kind"] (Str.ofString "is_deed") (defScope s_is_deed) fa cdv A outer s H E).nox) (D "is_level" (by decide)) hr
 exact(ss_cons (ss_if (L2.PW.pt (sw_or (st_not (st_val (sd_istuple rfl m_isinstance rfl m_tuple (sd_var 0)))) (sw_or1 (st_cmp ck_lt (sd_len rfl m_len (sd_var 0)) sd_int)))) (ss_cons (ss_ret sd_bl) ss_nil) ss_nil) (ss_cons (ss_set 1 nd rfl (Or.inl rfl) (sd_ix (sd_var 0) sd_int)) (ss_cons (ss_if (st_cmp (ck_eq h64) (sd_var 1) sd_str) (ss_cons (ss_ret (sd_and (sd_cmp (ck_eq h64) (sd_len rfl m_len (sd_var 0)) sd_int) (sd_and (sd_call (f:="is_term") cx_is_term rfl (sa_cons (sd_ix (sd_var 0) sd_int) sa_nil)) (sd_and (sd_call (f:="is_block") cx_is_block rfl (sa_cons (sd_ix (sd_var 0) sd_int) sa_nil)) (sd_last (sd_call (f:="is_block") cx_is_block rfl (sa_cons (sd_ix (sd_var 0) sd_int) sa_nil))))))) ss_nil) ss_nil) (ss_cons (ss_if (st_cmp (ck_ne h64) (sd_len rfl m_len (sd_var 0)) sd_int) (ss_cons (ss_ret sd_bl) ss_nil) ss_nil) (ss_cons (ss_if (st_cmp (ck_eq h64) (sd_var 1) sd_str) (ss_cons (ss_ret (sd_and (sd_call (f:="is_name") cx_is_name rfl (sa_cons (sd_ix (sd_var 0) sd_int) sa_nil)) (sd_last (sd_call (f:="is_term") cx_is_term rfl (sa_cons (sd_ix (sd_var 0) sd_int) sa_nil))))) ss_nil) ss_nil) (ss_cons (ss_if (st_cmp (ck_eq h64) (sd_var 1) sd_str) (ss_cons (ss_ret (sd_and (sd_call (f:="is_level") cx_is_level rfl (sa_cons (sd_ix (sd_var 0) sd_int) sa_nil)) (sd_last (sd_call (f:="is_term") cx_is_term rfl (sa_cons (sd_ix (sd_var 0) sd_int) sa_nil))))) ss_nil) ss_nil) (ss_cons (ss_ret (sd_and (sd_cmp (ck_eq h64) (sd_var 1) sd_str) (sd_and (sd_call (f:="is_term") cx_is_term rfl (sa_cons (sd_ix (sd_var 0) sd_int) sa_nil)) (sd_last (sd_call (f:="is_block") cx_is_block rfl (sa_cons (sd_ix (sd_var 0) sd_int) sa_nil)))))) ss_nil)))))))
abbrev s_is_term:Stmt:=top 11
theorem sc_is_term:FnScope ["thing"] ["thing"] (defScope s_is_term):=⟨rfl,rfl,rfl,by decide +kernel,rfl,by decide +kernel,by decide +kernel⟩
theorem ok_is_term(T:Tp K mg)(D:Ds P w K mg base W n){fa:Addr}{cdv:Value}{A:Around}{outer:List Env}{s:Shared}{H:Hp}{E:XK}(hr:Room n (A.deeper (envOfC (Str.ofString "is_term") (defScope s_is_term) s.heap.objs.size fa cdv))):PSs (cxOf CX0 P w K mg base ["thing"] (Str.ofString "is_term") (defScope s_is_term) fa cdv A outer s H E).nox (defBody s_is_term) (tDSs (callI W Γ n) W K b_is_term):=by
 have nd:=sc_is_term.nd
 have hu:=hu_of hr
 have h64:=hr.units
 have hc:(cxOf CX0 P w K mg base ["thing"] (Str.ofString "is_term") (defScope s_is_term) fa cdv A outer s H E).nox.calm=true:=rfl
 have m_isinstance:=T.m_isinstance
 have m_len:=T.m_len
 have m_tuple:=T.m_tuple
 have cx_is_term:Cal (cxOf CX0 P w K mg base ["thing"] (Str.ofString "is_term") (defScope s_is_term) fa cdv A outer s H E).nox (callI W Γ n) "is_term":=Def.cal (X:=(cxOf CX0 P w K mg base ["thing"] (Str.ofString "is_term") (defScope s_is_term) fa cdv A outer s H E).nox) (D "is_term" (by decide)) hr
 have cx_is_name:Cal (cxOf CX0 P w K mg base ["thing"] (Str.ofString "is_term") (defScope s_is_term) fa cdv A outer s H E).nox (callI W Γ n) "is_name":=Def.cal (X:=(cxOf CX0 P w K mg base ["thing"] (Str.ofString "is_term") (defScope s_is_term) fa cdv A outer s H E).nox) (D "is_name" (by decide)) hr
 have cx_is_number:Cal (cxOf CX0 P w K mg base ["thing"] (Str.ofString "is_term") (defScope s_is_term) fa cdv A outer s H E).nox (callI W Γ n) "is_number":=Def.cal (X:=(cxOf CX0 P w K mg base ["thing"] (Str.ofString "is_term") (defScope s_is_term) fa cdv A outer s H E).nox) (D "is_number" (by decide)) hr
 exact(ss_cons (ss_if (st_not (st_val (sd_istuple rfl m_isinstance rfl m_tuple (sd_var 0)))) (ss_cons (ss_ret sd_bl) ss_nil) ss_nil) (ss_cons (ss_if (st_cmp (ck_eq h64) (sd_len rfl m_len (sd_var 0)) sd_int) (ss_cons (ss_ret (sd_and (sd_cmp ck_in (sd_ix (sd_var 0) sd_int) (sd_glo T.g_PAIRING rfl)) (sd_and (sd_call (f:="is_term") cx_is_term rfl (sa_cons (sd_ix (sd_var 0) sd_int) sa_nil)) (sd_last (sd_call (f:="is_term") cx_is_term rfl (sa_cons (sd_ix (sd_var 0) sd_int) sa_nil)))))) ss_nil) ss_nil) (ss_cons (ss_if (st_cmp (ck_ne h64) (sd_len rfl m_len (sd_var 0)) sd_int) (ss_cons (ss_ret sd_bl) ss_nil) ss_nil) (ss_cons (ss_if (st_cmp (ck_eq h64) (sd_ix (sd_var 0) sd_int) sd_str) (ss_cons (ss_ret (sd_call (f:="is_number") cx_is_number rfl (sa_cons (sd_ix (sd_var 0) sd_int) sa_nil))) ss_nil) ss_nil) (ss_cons (ss_ret (sd_and (sd_cmp (ck_eq h64) (sd_ix (sd_var 0) sd_int) sd_str) (sd_last (sd_call (f:="is_name") cx_is_name rfl (sa_cons (sd_ix (sd_var 0) sd_int) sa_nil))))) ss_nil)))))
abbrev s_has_rising_names:Stmt:=top 12
theorem sc_has_rising_names:FnScope ["thing","names"] ["thing"] (defScope s_has_rising_names):=⟨rfl,rfl,rfl,by decide +kernel,rfl,by decide +kernel,by decide +kernel⟩
theorem ok_has_rising_names(T:Tp K mg)(D:Ds P w K mg base W n){fa:Addr}{cdv:Value}{A:Around}{outer:List Env}{s:Shared}{H:Hp}{E:XK}(hr:Room n (A.deeper (envOfC (Str.ofString "has_rising_names") (defScope s_has_rising_names) s.heap.objs.size fa cdv))):PSs (cxOf CX0 P w K mg base ["thing","names"] (Str.ofString "has_rising_names") (defScope s_has_rising_names) fa cdv A outer s H E).nox (defBody s_has_rising_names) (tDSs (callI W Γ n) W K b_has_rising_names):=by
 have nd:=sc_has_rising_names.nd
 have hu:=hu_of hr
 have h64:=hr.units
 have hc:(cxOf CX0 P w K mg base ["thing","names"] (Str.ofString "has_rising_names") (defScope s_has_rising_names) fa cdv A outer s H E).nox.calm=true:=rfl
 have m_all:=T.m_all
 have m_isinstance:=T.m_isinstance
 have m_set:=T.m_set
 have m_sorted:=T.m_sorted
 have m_tuple:=T.m_tuple
 have cx_is_named:Cal (cxOf CX0 P w K mg base ["thing","names"] (Str.ofString "has_rising_names") (defScope s_has_rising_names) fa cdv A outer s H E).nox (callI W Γ n) "is_named":=Def.cal (X:=(cxOf CX0 P w K mg base ["thing","names"] (Str.ofString "has_rising_names") (defScope s_has_rising_names) fa cdv A outer s H E).nox) (D "is_named" (by decide)) hr
 exact(ss_cons (ss_if (L2.PW.pt (sw_or (st_not (st_val (sd_istuple rfl m_isinstance rfl m_tuple (sd_var 0)))) (sw_or1 (st_not (st_val (sd_all hc rfl m_all (sd_comp (mu:=false) (own:=["pair"]) ⟨rfl,by rfl,by rfl,by rfl,by rfl,rfl⟩ hc (si_seq (sd_var 0)) (fun _ _ _ _=>(sg_nm 2 (show (["thing","names","pair"]:List Str).Nodup from by decide +kernel) rfl (Or.inl rfl))) (fun _ _ _ _=>sts_nil) (fun _ _ _ _=>(sd_call (f:="is_named") cx_is_named rfl (sa_cons (sd_var 2) sa_nil)))))))))) (ss_cons (ss_ret sd_bl) ss_nil) ss_nil) (ss_cons (ss_setC 1 (own:=["pair"]) nd rfl rfl ⟨rfl,by rfl,by rfl,by rfl,by rfl,rfl⟩ hc (si_seq (sd_var 0)) (fun _ _ _ _=>(sg_nm 2 (show (["thing","names","pair"]:List Str).Nodup from by decide +kernel) rfl (Or.inl rfl))) (fun _ _ _ _=>sts_nil) (fun _ _ _ _=>(sd_ix (sd_var 2) sd_int))) (ss_cons (ss_ret (sd_cmp (ck_eq h64) (sd_var 1) (sd_sortedSet (mu:=false) hc rfl m_sorted rfl m_set (sd_var 1)))) ss_nil)))
abbrev s_is_named:Stmt:=top 13
theorem sc_is_named:FnScope ["thing"] ["thing"] (defScope s_is_named):=⟨rfl,rfl,rfl,by decide +kernel,rfl,by decide +kernel,by decide +kernel⟩
theorem ok_is_named(T:Tp K mg)(D:Ds P w K mg base W n){fa:Addr}{cdv:Value}{A:Around}{outer:List Env}{s:Shared}{H:Hp}{E:XK}(hr:Room n (A.deeper (envOfC (Str.ofString "is_named") (defScope s_is_named) s.heap.objs.size fa cdv))):PSs (cxOf CX0 P w K mg base ["thing"] (Str.ofString "is_named") (defScope s_is_named) fa cdv A outer s H E).nox (defBody s_is_named) (tDSs (callI W Γ n) W K b_is_named):=by
 have nd:=sc_is_named.nd
 have hu:=hu_of hr
 have h64:=hr.units
 have hc:(cxOf CX0 P w K mg base ["thing"] (Str.ofString "is_named") (defScope s_is_named) fa cdv A outer s H E).nox.calm=true:=rfl
 have m_isinstance:=T.m_isinstance
 have m_len:=T.m_len
 have m_tuple:=T.m_tuple
 have cx_is_name:Cal (cxOf CX0 P w K mg base ["thing"] (Str.ofString "is_named") (defScope s_is_named) fa cdv A outer s H E).nox (callI W Γ n) "is_name":=Def.cal (X:=(cxOf CX0 P w K mg base ["thing"] (Str.ofString "is_named") (defScope s_is_named) fa cdv A outer s H E).nox) (D "is_name" (by decide)) hr
 exact(ss_cons (ss_ret (sd_and (sd_istuple rfl m_isinstance rfl m_tuple (sd_var 0)) (sd_and (sd_cmp (ck_eq h64) (sd_len rfl m_len (sd_var 0)) sd_int) (sd_last (sd_call (f:="is_name") cx_is_name rfl (sa_cons (sd_ix (sd_var 0) sd_int) sa_nil)))))) ss_nil)
abbrev s_is_name:Stmt:=top 14
theorem sc_is_name:FnScope ["thing"] ["thing"] (defScope s_is_name):=⟨rfl,rfl,rfl,by decide +kernel,rfl,by decide +kernel,by decide +kernel⟩
theorem ok_is_name(T:Tp K mg)(D:Ds P w K mg base W n){fa:Addr}{cdv:Value}{A:Around}{outer:List Env}{s:Shared}{H:Hp}{E:XK}(hr:Room n (A.deeper (envOfC (Str.ofString "is_name") (defScope s_is_name) s.heap.objs.size fa cdv))):PSs (cxOf CX0 P w K mg base ["thing"] (Str.ofString "is_name") (defScope s_is_name) fa cdv A outer s H E).nox (defBody s_is_name) (tDSs (callI W Γ n) W K b_is_name):=by
 have nd:=sc_is_name.nd
 have hu:=hu_of hr
 have h64:=hr.units
 have hc:(cxOf CX0 P w K mg base ["thing"] (Str.ofString "is_name") (defScope s_is_name) fa cdv A outer s H E).nox.calm=true:=rfl
 have m_all:=T.m_all
 have m_isinstance:=T.m_isinstance
 have m_len:=T.m_len
 have m_str:=T.m_str
 exact(ss_cons (ss_if (L2.PW.pt (sw_or (st_not (st_val (sd_isstr rfl m_isinstance rfl m_str (sd_var 0)))) (sw_or1 (st_not (st_chain ck_le ck_le sd_int (sd_len rfl m_len (sd_var 0)) (sd_glo T.g_LONGEST_NAME rfl)))))) (ss_cons (ss_ret sd_bl) ss_nil) ss_nil) (ss_cons (ss_ret (sd_all hc rfl m_all (sd_comp (mu:=false) (own:=["sign"]) ⟨rfl,by rfl,by rfl,by rfl,by rfl,rfl⟩ hc (si_txt (sd_var 0)) (fun _ _ _ _=>(sg_nm 1 (show (["thing","sign"]:List Str).Nodup from by decide +kernel) rfl (Or.inl rfl))) (fun _ _ _ _=>sts_nil) (fun _ _ _ _=>(sd_inTxt (sd_var 1) (sd_glo T.g_LETTERS rfl)))))) ss_nil))
abbrev s_is_number:Stmt:=top 15
theorem sc_is_number:FnScope ["thing"] ["thing"] (defScope s_is_number):=⟨rfl,rfl,rfl,by decide +kernel,rfl,by decide +kernel,by decide +kernel⟩
theorem ok_is_number(T:Tp K mg)(D:Ds P w K mg base W n){fa:Addr}{cdv:Value}{A:Around}{outer:List Env}{s:Shared}{H:Hp}{E:XK}(hr:Room n (A.deeper (envOfC (Str.ofString "is_number") (defScope s_is_number) s.heap.objs.size fa cdv))):PSs (cxOf CX0 P w K mg base ["thing"] (Str.ofString "is_number") (defScope s_is_number) fa cdv A outer s H E).nox (defBody s_is_number) (tDSs (callI W Γ n) W K b_is_number):=by
 have nd:=sc_is_number.nd
 have hu:=hu_of hr
 have h64:=hr.units
 have hc:(cxOf CX0 P w K mg base ["thing"] (Str.ofString "is_number") (defScope s_is_number) fa cdv A outer s H E).nox.calm=true:=rfl
 have cx_is_whole:Cal (cxOf CX0 P w K mg base ["thing"] (Str.ofString "is_number") (defScope s_is_number) fa cdv A outer s H E).nox (callI W Γ n) "is_whole":=Def.cal (X:=(cxOf CX0 P w K mg base ["thing"] (Str.ofString "is_number") (defScope s_is_number) fa cdv A outer s H E).nox) (D "is_whole" (by decide)) hr
 exact(ss_cons (ss_ret (sd_and (sd_call (f:="is_whole") cx_is_whole rfl (sa_cons (sd_var 0) sa_nil)) (sd_last (sd_chain ck_le ck_lt sd_int (sd_var 0) (sd_glo T.g_NUMBERS rfl))))) ss_nil)
abbrev s_is_level:Stmt:=top 16
theorem sc_is_level:FnScope ["thing"] ["thing"] (defScope s_is_level):=⟨rfl,rfl,rfl,by decide +kernel,rfl,by decide +kernel,by decide +kernel⟩
theorem ok_is_level(T:Tp K mg)(D:Ds P w K mg base W n){fa:Addr}{cdv:Value}{A:Around}{outer:List Env}{s:Shared}{H:Hp}{E:XK}(hr:Room n (A.deeper (envOfC (Str.ofString "is_level") (defScope s_is_level) s.heap.objs.size fa cdv))):PSs (cxOf CX0 P w K mg base ["thing"] (Str.ofString "is_level") (defScope s_is_level) fa cdv A outer s H E).nox (defBody s_is_level) (tDSs (callI W Γ n) W K b_is_level):=by
 have nd:=sc_is_level.nd
 have hu:=hu_of hr
 have h64:=hr.units
 have hc:(cxOf CX0 P w K mg base ["thing"] (Str.ofString "is_level") (defScope s_is_level) fa cdv A outer s H E).nox.calm=true:=rfl
 have cx_is_whole:Cal (cxOf CX0 P w K mg base ["thing"] (Str.ofString "is_level") (defScope s_is_level) fa cdv A outer s H E).nox (callI W Γ n) "is_whole":=Def.cal (X:=(cxOf CX0 P w K mg base ["thing"] (Str.ofString "is_level") (defScope s_is_level) fa cdv A outer s H E).nox) (D "is_whole" (by decide)) hr
 exact(ss_cons (ss_ret (sd_and (sd_call (f:="is_whole") cx_is_whole rfl (sa_cons (sd_var 0) sa_nil)) (sd_last (sd_chain ck_le ck_lt sd_int (sd_var 0) (sd_glo T.g_LEVELS rfl))))) ss_nil)
abbrev s_is_whole:Stmt:=top 17
theorem sc_is_whole:FnScope ["thing"] ["thing"] (defScope s_is_whole):=⟨rfl,rfl,rfl,by decide +kernel,rfl,by decide +kernel,by decide +kernel⟩
theorem ok_is_whole(T:Tp K mg)(D:Ds P w K mg base W n){fa:Addr}{cdv:Value}{A:Around}{outer:List Env}{s:Shared}{H:Hp}{E:XK}(hr:Room n (A.deeper (envOfC (Str.ofString "is_whole") (defScope s_is_whole) s.heap.objs.size fa cdv))):PSs (cxOf CX0 P w K mg base ["thing"] (Str.ofString "is_whole") (defScope s_is_whole) fa cdv A outer s H E).nox (defBody s_is_whole) (tDSs (callI W Γ n) W K b_is_whole):=by
 have nd:=sc_is_whole.nd
 have hu:=hu_of hr
 have h64:=hr.units
 have hc:(cxOf CX0 P w K mg base ["thing"] (Str.ofString "is_whole") (defScope s_is_whole) fa cdv A outer s H E).nox.calm=true:=rfl
 have m_bool:=T.m_bool
 have m_int:=T.m_int
 have m_isinstance:=T.m_isinstance
 exact(ss_cons (ss_ret (sd_and (sd_isint rfl m_isinstance rfl m_int (sd_var 0)) (sd_last (sd_not (sd_isbool rfl m_isinstance rfl m_bool (sd_var 0)))))) ss_nil)
abbrev s_qcell:Stmt:=top 19
theorem sc_qcell:FnScope ["_law_script","_law_k"] ["_law_script","_law_k"] (defScope s_qcell):=⟨rfl,rfl,rfl,by decide +kernel,rfl,by decide +kernel,by decide +kernel⟩
theorem ok_qcell(T:Tp K mg)(D:Ds P w K mg base W n){fa:Addr}{cdv:Value}{A:Around}{outer:List Env}{s:Shared}{H:Hp}{E:XK}(hr:Room n (A.deeper (envOfC (Str.ofString "_law_cell") (defScope s_qcell) s.heap.objs.size fa cdv))):PSs (cxOf CX0 P w K mg base ["_law_script","_law_k"] (Str.ofString "_law_cell") (defScope s_qcell) fa cdv A outer s H E).nox (defBody s_qcell) (tDSs (callI W Γ n) W K b_qcell):=by
 have nd:=sc_qcell.nd
 have hu:=hu_of hr
 have h64:=hr.units
 have hc:(cxOf CX0 P w K mg base ["_law_script","_law_k"] (Str.ofString "_law_cell") (defScope s_qcell) fa cdv A outer s H E).nox.calm=true:=rfl
 have m_len:=T.m_len
 exact(ss_cons (ss_if (st_cmp ck_lt (sd_var 1) (sd_len rfl m_len (sd_var 0))) (ss_cons (ss_ret (sd_ix (sd_var 0) (sd_var 1))) ss_nil) ss_nil) (ss_cons (ss_ret sd_int) ss_nil))
abbrev s_qmix:Stmt:=top 20
theorem sc_qmix:FnScope ["_law_cell_here","_law_prime","_law_many"] ["_law_cell_here","_law_prime","_law_many"] (defScope s_qmix):=⟨rfl,rfl,rfl,by decide +kernel,rfl,by decide +kernel,by decide +kernel⟩
theorem ok_qmix(T:Tp K mg)(D:Ds P w K mg base W n){fa:Addr}{cdv:Value}{A:Around}{outer:List Env}{s:Shared}{H:Hp}{E:XK}(hr:Room n (A.deeper (envOfC (Str.ofString "_law_mix") (defScope s_qmix) s.heap.objs.size fa cdv))):PSs (cxOf CX0 P w K mg base ["_law_cell_here","_law_prime","_law_many"] (Str.ofString "_law_mix") (defScope s_qmix) fa cdv A outer s H E).nox (defBody s_qmix) (tDSs (callI W Γ n) W K b_qmix):=by
 have nd:=sc_qmix.nd
 have hu:=hu_of hr
 have h64:=hr.units
 have hc:(cxOf CX0 P w K mg base ["_law_cell_here","_law_prime","_law_many"] (Str.ofString "_law_mix") (defScope s_qmix) fa cdv A outer s H E).nox.calm=true:=rfl
 exact(ss_cons (ss_ret (sd_mod (sd_mod (sd_mul (sd_var 0) sd_int) (sd_var 1)) (sd_var 2))) ss_nil)
abbrev s_qname:Stmt:=top 21
theorem sc_qname:FnScope ["_law_script","_law_k","_law_letters","_law_seed","_law_sign","_law_tail","_law_at"] ["_law_script","_law_k"] (defScope s_qname):=⟨rfl,rfl,rfl,by decide +kernel,rfl,by decide +kernel,by decide +kernel⟩
theorem ok_qname(T:Tp K mg)(D:Ds P w K mg base W n){fa:Addr}{cdv:Value}{A:Around}{outer:List Env}{s:Shared}{H:Hp}{E:XK}(hr:Room n (A.deeper (envOfC (Str.ofString "_law_name") (defScope s_qname) s.heap.objs.size fa cdv))):PSs (cxOf CX0 P w K mg base ["_law_script","_law_k","_law_letters","_law_seed","_law_sign","_law_tail","_law_at"] (Str.ofString "_law_name") (defScope s_qname) fa cdv A outer s H E).nox (defBody s_qname) (tDSs (callI W Γ n) W K b_qname):=by
 have nd:=sc_qname.nd
 have hu:=hu_of hr
 have h64:=hr.units
 have hc:(cxOf CX0 P w K mg base ["_law_script","_law_k","_law_letters","_law_seed","_law_sign","_law_tail","_law_at"] (Str.ofString "_law_name") (defScope s_qname) fa cdv A outer s H E).nox.calm=true:=rfl
 have m_len:=T.m_len
 have m_range:=T.m_range
 have cx_qcell:Cal (cxOf CX0 P w K mg base ["_law_script","_law_k","_law_letters","_law_seed","_law_sign","_law_tail","_law_at"] (Str.ofString "_law_name") (defScope s_qname) fa cdv A outer s H E).nox (callI W Γ n) "_law_cell":=Def.cal (X:=(cxOf CX0 P w K mg base ["_law_script","_law_k","_law_letters","_law_seed","_law_sign","_law_tail","_law_at"] (Str.ofString "_law_name") (defScope s_qname) fa cdv A outer s H E).nox) (D "_law_cell" (by decide)) hr
 have cx_qmix:Cal (cxOf CX0 P w K mg base ["_law_script","_law_k","_law_letters","_law_seed","_law_sign","_law_tail","_law_at"] (Str.ofString "_law_name") (defScope s_qname) fa cdv A outer s H E).nox (callI W Γ n) "_law_mix":=Def.cal (X:=(cxOf CX0 P w K mg base ["_law_script","_law_k","_law_letters","_law_seed","_law_sign","_law_tail","_law_at"] (Str.ofString "_law_name") (defScope s_qname) fa cdv A outer s H E).nox) (D "_law_mix" (by decide)) hr
 exact(ss_cons (ss_set 2 nd rfl (Or.inr rfl) sd_str) (ss_cons (ss_set 3 nd rfl (Or.inr rfl) (sd_call (f:="_law_cell") cx_qcell rfl (sa_cons (sd_var 0) (sa_cons sd_int sa_nil)))) (ss_cons (ss_set 4 nd rfl (Or.inl rfl) (sd_ix (sd_var 2) (sd_mod (sd_add (sd_call (f:="_law_mix") cx_qmix rfl (sa_cons (sd_var 3) (sa_cons sd_int (sa_cons sd_int sa_nil)))) (sd_mul sd_int (sd_var 1))) sd_int))) (ss_cons (ss_set 5 nd rfl (Or.inl rfl) (sd_join sd_str (sd_comp (mu:=false) (own:=["_law_j"]) ⟨rfl,by rfl,by rfl,by rfl,by rfl,rfl⟩ hc (si_rng rfl m_range (sd_call (f:="_law_mix") cx_qmix rfl (sa_cons (sd_var 3) (sa_cons sd_int (sa_cons sd_int sa_nil))))) (fun _ _ _ _=>(sg_nm 7 (show (["_law_script","_law_k","_law_letters","_law_seed","_law_sign","_law_tail","_law_at","_law_j"]:List Str).Nodup from by decide +kernel) rfl (Or.inl rfl))) (fun _ _ _ _=>sts_nil) (fun _ _ _ _=>(sd_ix (sd_var 2) (sd_call (f:="_law_mix") cx_qmix rfl (sa_cons (sd_add (sd_var 3) (sd_mul sd_int (sd_var 7))) (sa_cons sd_int (sa_cons sd_int sa_nil))))))))) (ss_cons (ss_set 6 nd rfl (Or.inl rfl) (sd_call (f:="_law_mix") cx_qmix rfl (sa_cons (sd_var 3) (sa_cons sd_int (sa_cons (sd_add (sd_len rfl m_len (sd_var 5)) sd_int) sa_nil))))) (ss_cons (ss_ret (sd_add (sd_add (sd_sl (sd_var 5) so_no (so_pt (sd_var 6))) (sd_var 4)) (sd_sl (sd_var 5) (so_pt (sd_var 6)) so_no))) ss_nil))))))
abbrev s_qnames:Stmt:=top 22
theorem sc_qnames:FnScope ["_law_script"] ["_law_script"] (defScope s_qnames):=⟨rfl,rfl,rfl,by decide +kernel,rfl,by decide +kernel,by decide +kernel⟩
theorem ok_qnames(T:Tp K mg)(D:Ds P w K mg base W n){fa:Addr}{cdv:Value}{A:Around}{outer:List Env}{s:Shared}{H:Hp}{E:XK}(hr:Room n (A.deeper (envOfC (Str.ofString "_law_names") (defScope s_qnames) s.heap.objs.size fa cdv))):PSs (cxOf CX0 P w K mg base ["_law_script"] (Str.ofString "_law_names") (defScope s_qnames) fa cdv A outer s H E).nox (defBody s_qnames) (tDSs (callI W Γ n) W K b_qnames):=by
 have nd:=sc_qnames.nd
 have hu:=hu_of hr
 have h64:=hr.units
 have hc:(cxOf CX0 P w K mg base ["_law_script"] (Str.ofString "_law_names") (defScope s_qnames) fa cdv A outer s H E).nox.calm=true:=rfl
 have m_range:=T.m_range
 have cx_qname:Cal (cxOf CX0 P w K mg base ["_law_script"] (Str.ofString "_law_names") (defScope s_qnames) fa cdv A outer s H E).nox (callI W Γ n) "_law_name":=Def.cal (X:=(cxOf CX0 P w K mg base ["_law_script"] (Str.ofString "_law_names") (defScope s_qnames) fa cdv A outer s H E).nox) (D "_law_name" (by decide)) hr
 exact(ss_cons (ss_ret (sd_comp (mu:=false) (own:=["_law_k"]) ⟨rfl,by rfl,by rfl,by rfl,by rfl,rfl⟩ hc (si_rng rfl m_range sd_int) (fun _ _ _ _=>(sg_nm 1 (show (["_law_script","_law_k"]:List Str).Nodup from by decide +kernel) rfl (Or.inl rfl))) (fun _ _ _ _=>sts_nil) (fun _ _ _ _=>(sd_call (f:="_law_name") cx_qname rfl (sa_cons (sd_var 0) (sa_cons (sd_var 1) sa_nil)))))) ss_nil)
abbrev s_qlevels:Stmt:=top 23
theorem sc_qlevels:FnScope ["_law_script"] ["_law_script"] (defScope s_qlevels):=⟨rfl,rfl,rfl,by decide +kernel,rfl,by decide +kernel,by decide +kernel⟩
theorem ok_qlevels(T:Tp K mg)(D:Ds P w K mg base W n){fa:Addr}{cdv:Value}{A:Around}{outer:List Env}{s:Shared}{H:Hp}{E:XK}(hr:Room n (A.deeper (envOfC (Str.ofString "_law_levels") (defScope s_qlevels) s.heap.objs.size fa cdv))):PSs (cxOf CX0 P w K mg base ["_law_script"] (Str.ofString "_law_levels") (defScope s_qlevels) fa cdv A outer s H E).nox (defBody s_qlevels) (tDSs (callI W Γ n) W K b_qlevels):=by
 have nd:=sc_qlevels.nd
 have hu:=hu_of hr
 have h64:=hr.units
 have hc:(cxOf CX0 P w K mg base ["_law_script"] (Str.ofString "_law_levels") (defScope s_qlevels) fa cdv A outer s H E).nox.calm=true:=rfl
 have cx_qcell:Cal (cxOf CX0 P w K mg base ["_law_script"] (Str.ofString "_law_levels") (defScope s_qlevels) fa cdv A outer s H E).nox (callI W Γ n) "_law_cell":=Def.cal (X:=(cxOf CX0 P w K mg base ["_law_script"] (Str.ofString "_law_levels") (defScope s_qlevels) fa cdv A outer s H E).nox) (D "_law_cell" (by decide)) hr
 have cx_qmix:Cal (cxOf CX0 P w K mg base ["_law_script"] (Str.ofString "_law_levels") (defScope s_qlevels) fa cdv A outer s H E).nox (callI W Γ n) "_law_mix":=Def.cal (X:=(cxOf CX0 P w K mg base ["_law_script"] (Str.ofString "_law_levels") (defScope s_qlevels) fa cdv A outer s H E).nox) (D "_law_mix" (by decide)) hr
 exact(ss_cons (ss_ret (sd_lst (mu:=false) (sa_cons sd_int (sa_cons sd_int (sa_cons (sd_call (f:="_law_mix") cx_qmix rfl (sa_cons (sd_call (f:="_law_cell") cx_qcell rfl (sa_cons (sd_var 0) (sa_cons sd_int sa_nil))) (sa_cons sd_int (sa_cons sd_int sa_nil)))) (sa_cons (sd_call (f:="_law_mix") cx_qmix rfl (sa_cons (sd_call (f:="_law_cell") cx_qcell rfl (sa_cons (sd_var 0) (sa_cons sd_int sa_nil))) (sa_cons sd_int (sa_cons sd_int sa_nil)))) sa_nil)))))) ss_nil)
abbrev s_qhouse:Stmt:=top 24
theorem sc_qhouse:FnScope ["_law_script","_law_pairs"] ["_law_script"] (defScope s_qhouse):=⟨rfl,rfl,rfl,by decide +kernel,rfl,by decide +kernel,by decide +kernel⟩
theorem ok_qhouse(T:Tp K mg)(D:Ds P w K mg base W n){fa:Addr}{cdv:Value}{A:Around}{outer:List Env}{s:Shared}{H:Hp}{E:XK}(hr:Room n (A.deeper (envOfC (Str.ofString "_law_house") (defScope s_qhouse) s.heap.objs.size fa cdv))):PSs (cxOf CX0 P w K mg base ["_law_script","_law_pairs"] (Str.ofString "_law_house") (defScope s_qhouse) fa cdv A outer s H E).nox (defBody s_qhouse) (tDSs (callI W Γ n) W K b_qhouse):=by
 have nd:=sc_qhouse.nd
 have hu:=hu_of hr
 have h64:=hr.units
 have hc:(cxOf CX0 P w K mg base ["_law_script","_law_pairs"] (Str.ofString "_law_house") (defScope s_qhouse) fa cdv A outer s H E).nox.calm=true:=rfl
 have m_list:=T.m_list
 have m_sorted:=T.m_sorted
 have m_tuple:=T.m_tuple
 have m_zip:=T.m_zip
 have cx_qcell:Cal (cxOf CX0 P w K mg base ["_law_script","_law_pairs"] (Str.ofString "_law_house") (defScope s_qhouse) fa cdv A outer s H E).nox (callI W Γ n) "_law_cell":=Def.cal (X:=(cxOf CX0 P w K mg base ["_law_script","_law_pairs"] (Str.ofString "_law_house") (defScope s_qhouse) fa cdv A outer s H E).nox) (D "_law_cell" (by decide)) hr
 have cx_qnames:Cal (cxOf CX0 P w K mg base ["_law_script","_law_pairs"] (Str.ofString "_law_house") (defScope s_qhouse) fa cdv A outer s H E).nox (callI W Γ n) "_law_names":=Def.cal (X:=(cxOf CX0 P w K mg base ["_law_script","_law_pairs"] (Str.ofString "_law_house") (defScope s_qhouse) fa cdv A outer s H E).nox) (D "_law_names" (by decide)) hr
 have cx_qlevels:Cal (cxOf CX0 P w K mg base ["_law_script","_law_pairs"] (Str.ofString "_law_house") (defScope s_qhouse) fa cdv A outer s H E).nox (callI W Γ n) "_law_levels":=Def.cal (X:=(cxOf CX0 P w K mg base ["_law_script","_law_pairs"] (Str.ofString "_law_house") (defScope s_qhouse) fa cdv A outer s H E).nox) (D "_law_levels" (by decide)) hr
 exact(ss_cons (ss_set 1 nd rfl (Or.inl rfl) (sd_lzip (mu:=false) hc rfl m_list rfl m_zip (sd_call (f:="_law_names") cx_qnames rfl (sa_cons (sd_var 0) sa_nil)) (sd_call (f:="_law_levels") cx_qlevels rfl (sa_cons (sd_var 0) sa_nil)))) (ss_cons (ss_if (st_cmp (ck_eq h64) (sd_mod (sd_call (f:="_law_cell") cx_qcell rfl (sa_cons (sd_var 0) (sa_cons sd_int sa_nil))) sd_int) sd_int) (ss_cons (ss_setC 1 (own:=["_law_pair"]) nd rfl rfl ⟨rfl,by rfl,by rfl,by rfl,by rfl,rfl⟩ hc (si_seq (sd_var 1)) (fun _ _ _ _=>(sg_nm 2 (show (["_law_script","_law_pairs","_law_pair"]:List Str).Nodup from by decide +kernel) rfl (Or.inl rfl))) (fun _ _ _ _=>(sts_one (st_cmp ck_gt (sd_ix (sd_var 2) sd_int) sd_int))) (fun _ _ _ _=>(sd_var 2))) ss_nil) ss_nil) (ss_cons (ss_ret (sd_tuple rfl m_tuple (sd_sorted (mu:=false) rfl m_sorted (sd_var 1)))) ss_nil)))
abbrev s_qterm:Stmt:=top 25
theorem sc_qterm:FnScope ["_law_names_here","_law_seed","_law_left","_law_turn","_law_one"] ["_law_names_here","_law_seed","_law_left"] (defScope s_qterm):=⟨rfl,rfl,rfl,by decide +kernel,rfl,by decide +kernel,by decide +kernel⟩
theorem ok_qterm(T:Tp K mg)(D:Ds P w K mg base W n){fa:Addr}{cdv:Value}{A:Around}{outer:List Env}{s:Shared}{H:Hp}{E:XK}(hr:Room n (A.deeper (envOfC (Str.ofString "_law_term") (defScope s_qterm) s.heap.objs.size fa cdv))):PSs (cxOf CX0 P w K mg base ["_law_names_here","_law_seed","_law_left","_law_turn","_law_one"] (Str.ofString "_law_term") (defScope s_qterm) fa cdv A outer s H E).nox (defBody s_qterm) (tDSs (callI W Γ n) W K b_qterm):=by
 have nd:=sc_qterm.nd
 have hu:=hu_of hr
 have h64:=hr.units
 have hc:(cxOf CX0 P w K mg base ["_law_names_here","_law_seed","_law_left","_law_turn","_law_one"] (Str.ofString "_law_term") (defScope s_qterm) fa cdv A outer s H E).nox.calm=true:=rfl
 have cx_qmix:Cal (cxOf CX0 P w K mg base ["_law_names_here","_law_seed","_law_left","_law_turn","_law_one"] (Str.ofString "_law_term") (defScope s_qterm) fa cdv A outer s H E).nox (callI W Γ n) "_law_mix":=Def.cal (X:=(cxOf CX0 P w K mg base ["_law_names_here","_law_seed","_law_left","_law_turn","_law_one"] (Str.ofString "_law_term") (defScope s_qterm) fa cdv A outer s H E).nox) (D "_law_mix" (by decide)) hr
 have cx_qterm:Cal (cxOf CX0 P w K mg base ["_law_names_here","_law_seed","_law_left","_law_turn","_law_one"] (Str.ofString "_law_term") (defScope s_qterm) fa cdv A outer s H E).nox (callI W Γ n) "_law_term":=Def.cal (X:=(cxOf CX0 P w K mg base ["_law_names_here","_law_seed","_law_left","_law_turn","_law_one"] (Str.ofString "_law_term") (defScope s_qterm) fa cdv A outer s H E).nox) (D "_law_term" (by decide)) hr
 exact(ss_cons (ss_set 3 nd rfl (Or.inl rfl) (sd_call (f:="_law_mix") cx_qmix rfl (sa_cons (sd_var 1) (sa_cons sd_int (sa_cons sd_int sa_nil))))) (ss_cons (ss_if (L2.PW.pt (sw_or (st_cmp (ck_eq h64) (sd_var 2) sd_int) (sw_or1 (st_cmp ck_lt (sd_var 3) sd_int)))) (ss_cons (ss_if (st_cmp (ck_eq h64) (sd_mod (sd_var 3) sd_int) sd_int) (ss_cons (ss_ret (sd_tup (sa_cons sd_str (sa_cons (sd_call (f:="_law_mix") cx_qmix rfl (sa_cons (sd_var 1) (sa_cons sd_int (sa_cons sd_int sa_nil)))) sa_nil)))) ss_nil) ss_nil) (ss_cons (ss_ret (sd_tup (sa_cons sd_str (sa_cons (sd_ix (sd_var 0) (sd_call (f:="_law_mix") cx_qmix rfl (sa_cons (sd_var 1) (sa_cons sd_int (sa_cons sd_int sa_nil))))) sa_nil)))) ss_nil)) ss_nil) (ss_cons (ss_set 4 nd rfl (Or.inl rfl) (sd_call (f:="_law_term") cx_qterm rfl (sa_cons (sd_var 0) (sa_cons (sd_add (sd_mul (sd_var 1) sd_int) sd_int) (sa_cons (sd_sub (sd_var 2) sd_int) sa_nil))))) (ss_cons (ss_ret (sd_tup (sa_cons (sd_ix (sd_lst (mu:=false) (sa_cons sd_str (sa_cons sd_str (sa_cons sd_str sa_nil)))) (sd_mod (sd_var 3) sd_int)) (sa_cons (sd_var 4) (sa_cons (sd_call (f:="_law_term") cx_qterm rfl (sa_cons (sd_var 0) (sa_cons (sd_add (sd_mul (sd_var 1) sd_int) sd_int) (sa_cons (sd_sub (sd_var 2) sd_int) sa_nil)))) sa_nil))))) ss_nil))))
abbrev s_qnames_in:Stmt:=top 26
theorem sc_qnames_in:FnScope ["_law_term_here"] ["_law_term_here"] (defScope s_qnames_in):=⟨rfl,rfl,rfl,by decide +kernel,rfl,by decide +kernel,by decide +kernel⟩
theorem ok_qnames_in(T:Tp K mg)(D:Ds P w K mg base W n){fa:Addr}{cdv:Value}{A:Around}{outer:List Env}{s:Shared}{H:Hp}{E:XK}(hr:Room n (A.deeper (envOfC (Str.ofString "_law_names_in") (defScope s_qnames_in) s.heap.objs.size fa cdv))):PSs (cxOf CX0 P w K mg base ["_law_term_here"] (Str.ofString "_law_names_in") (defScope s_qnames_in) fa cdv A outer s H E).nox (defBody s_qnames_in) (tDSs (callI W Γ n) W K b_qnames_in):=by
 have nd:=sc_qnames_in.nd
 have hu:=hu_of hr
 have h64:=hr.units
 have hc:(cxOf CX0 P w K mg base ["_law_term_here"] (Str.ofString "_law_names_in") (defScope s_qnames_in) fa cdv A outer s H E).nox.calm=true:=rfl
 have cx_qnames_in:Cal (cxOf CX0 P w K mg base ["_law_term_here"] (Str.ofString "_law_names_in") (defScope s_qnames_in) fa cdv A outer s H E).nox (callI W Γ n) "_law_names_in":=Def.cal (X:=(cxOf CX0 P w K mg base ["_law_term_here"] (Str.ofString "_law_names_in") (defScope s_qnames_in) fa cdv A outer s H E).nox) (D "_law_names_in" (by decide)) hr
 exact(ss_cons (ss_if (st_cmp (ck_eq h64) (sd_ix (sd_var 0) sd_int) sd_str) (ss_cons (ss_ret (sd_lst (mu:=false) (sa_cons (sd_ix (sd_var 0) sd_int) sa_nil))) ss_nil) ss_nil) (ss_cons (ss_if (st_cmp (ck_eq h64) (sd_ix (sd_var 0) sd_int) sd_str) (ss_cons (ss_ret (sd_lst (mu:=false) sa_nil)) ss_nil) ss_nil) (ss_cons (ss_ret (sd_cat (mu:=false) (sd_call (f:="_law_names_in") cx_qnames_in rfl (sa_cons (sd_ix (sd_var 0) sd_int) sa_nil)) (sd_call (f:="_law_names_in") cx_qnames_in rfl (sa_cons (sd_ix (sd_var 0) sd_int) sa_nil)))) ss_nil)))
abbrev s_qdeed:Stmt:=top 27
theorem sc_qdeed:FnScope ["_law_plan","_law_cell_here","_law_deep","_law_need","_law_names_here","_law_levels_here","_law_honest","_law_term_here","_law_high","_law_turn","_law_one","_law_more","_law_block_here","_law_some"] ["_law_plan","_law_cell_here","_law_deep","_law_need"] (defScope s_qdeed):=⟨rfl,rfl,rfl,by decide +kernel,rfl,by decide +kernel,by decide +kernel⟩
theorem ok_qdeed(T:Tp K mg)(D:Ds P w K mg base W n){fa:Addr}{cdv:Value}{A:Around}{outer:List Env}{s:Shared}{H:Hp}{E:XK}(hr:Room n (A.deeper (envOfC (Str.ofString "_law_deed") (defScope s_qdeed) s.heap.objs.size fa cdv))):PSs (cxOf CX0 P w K mg base ["_law_plan","_law_cell_here","_law_deep","_law_need","_law_names_here","_law_levels_here","_law_honest","_law_term_here","_law_high","_law_turn","_law_one","_law_more","_law_block_here","_law_some"] (Str.ofString "_law_deed") (defScope s_qdeed) fa cdv A outer s H E).nox (defBody s_qdeed) (tDSs (callI W Γ n) W K b_qdeed):=by
 have nd:=sc_qdeed.nd
 have hu:=hu_of hr
 have h64:=hr.units
 have hc:(cxOf CX0 P w K mg base ["_law_plan","_law_cell_here","_law_deep","_law_need","_law_names_here","_law_levels_here","_law_honest","_law_term_here","_law_high","_law_turn","_law_one","_law_more","_law_block_here","_law_some"] (Str.ofString "_law_deed") (defScope s_qdeed) fa cdv A outer s H E).nox.calm=true:=rfl
 have m_int:=T.m_int
 have m_len:=T.m_len
 have m_max:=T.m_max
 have m_range:=T.m_range
 have cx_qmix:Cal (cxOf CX0 P w K mg base ["_law_plan","_law_cell_here","_law_deep","_law_need","_law_names_here","_law_levels_here","_law_honest","_law_term_here","_law_high","_law_turn","_law_one","_law_more","_law_block_here","_law_some"] (Str.ofString "_law_deed") (defScope s_qdeed) fa cdv A outer s H E).nox (callI W Γ n) "_law_mix":=Def.cal (X:=(cxOf CX0 P w K mg base ["_law_plan","_law_cell_here","_law_deep","_law_need","_law_names_here","_law_levels_here","_law_honest","_law_term_here","_law_high","_law_turn","_law_one","_law_more","_law_block_here","_law_some"] (Str.ofString "_law_deed") (defScope s_qdeed) fa cdv A outer s H E).nox) (D "_law_mix" (by decide)) hr
 have cx_qterm:Cal (cxOf CX0 P w K mg base ["_law_plan","_law_cell_here","_law_deep","_law_need","_law_names_here","_law_levels_here","_law_honest","_law_term_here","_law_high","_law_turn","_law_one","_law_more","_law_block_here","_law_some"] (Str.ofString "_law_deed") (defScope s_qdeed) fa cdv A outer s H E).nox (callI W Γ n) "_law_term":=Def.cal (X:=(cxOf CX0 P w K mg base ["_law_plan","_law_cell_here","_law_deep","_law_need","_law_names_here","_law_levels_here","_law_honest","_law_term_here","_law_high","_law_turn","_law_one","_law_more","_law_block_here","_law_some"] (Str.ofString "_law_deed") (defScope s_qdeed) fa cdv A outer s H E).nox) (D "_law_term" (by decide)) hr
 have cx_qnames_in:Cal (cxOf CX0 P w K mg base ["_law_plan","_law_cell_here","_law_deep","_law_need","_law_names_here","_law_levels_here","_law_honest","_law_term_here","_law_high","_law_turn","_law_one","_law_more","_law_block_here","_law_some"] (Str.ofString "_law_deed") (defScope s_qdeed) fa cdv A outer s H E).nox (callI W Γ n) "_law_names_in":=Def.cal (X:=(cxOf CX0 P w K mg base ["_law_plan","_law_cell_here","_law_deep","_law_need","_law_names_here","_law_levels_here","_law_honest","_law_term_here","_law_high","_law_turn","_law_one","_law_more","_law_block_here","_law_some"] (Str.ofString "_law_deed") (defScope s_qdeed) fa cdv A outer s H E).nox) (D "_law_names_in" (by decide)) hr
 have cx_qblock:Cal (cxOf CX0 P w K mg base ["_law_plan","_law_cell_here","_law_deep","_law_need","_law_names_here","_law_levels_here","_law_honest","_law_term_here","_law_high","_law_turn","_law_one","_law_more","_law_block_here","_law_some"] (Str.ofString "_law_deed") (defScope s_qdeed) fa cdv A outer s H E).nox (callI W Γ n) "_law_block":=Def.cal (X:=(cxOf CX0 P w K mg base ["_law_plan","_law_cell_here","_law_deep","_law_need","_law_names_here","_law_levels_here","_law_honest","_law_term_here","_law_high","_law_turn","_law_one","_law_more","_law_block_here","_law_some"] (Str.ofString "_law_deed") (defScope s_qdeed) fa cdv A outer s H E).nox) (D "_law_block" (by decide)) hr
 exact(ss_cons (ss_asg (sd_var 0) (sg_tp hc (sgs_cons (sg_nm 4 nd rfl (Or.inr rfl)) (sgs_cons (sg_nm 5 nd rfl (Or.inr rfl)) (sgs_cons (sg_nm 6 nd rfl (Or.inr rfl)) sgs_nil))))) (ss_cons (ss_set 7 nd rfl (Or.inl rfl) (sd_call (f:="_law_term") cx_qterm rfl (sa_cons (sd_var 4) (sa_cons (sd_var 1) (sa_cons (sd_add sd_int (sd_mod (sd_var 1) sd_int)) sa_nil))))) (ss_cons (ss_set 8 nd rfl (Or.inr rfl) (sd_max hc rfl m_max (sd_cat (mu:=false) (sd_comp (mu:=false) (own:=["_law_name_here"]) ⟨rfl,by rfl,by rfl,by rfl,by rfl,rfl⟩ hc (si_seq (sd_call (f:="_law_names_in") cx_qnames_in rfl (sa_cons (sd_var 7) sa_nil))) (fun _ _ _ _=>(sg_nm 14 (show (["_law_plan","_law_cell_here","_law_deep","_law_need","_law_names_here","_law_levels_here","_law_honest","_law_term_here","_law_high","_law_turn","_law_one","_law_more","_law_block_here","_law_some","_law_name_here"]:List Str).Nodup from by decide +kernel) rfl (Or.inl rfl))) (fun _ _ _ _=>sts_nil) (fun _ _ _ _=>(sd_ix (sd_var 5) (sd_index (sd_var 4) (sd_var 14))))) (sd_lst (mu:=false) (sa_cons (sd_var 3) sa_nil))))) (ss_cons (ss_set 9 nd rfl (Or.inl rfl) (sd_call (f:="_law_mix") cx_qmix rfl (sa_cons (sd_var 1) (sa_cons sd_int (sa_cons sd_int sa_nil))))) (ss_cons (ss_if (L2.PW.pt (sw_and (st_cmp ck_gt (sd_var 2) sd_int) (sw_and1 (st_cmp ck_lt (sd_var 9) sd_int)))) (ss_cons (ss_set 10 nd rfl (Or.inl rfl) (sd_call (f:="_law_block") cx_qblock rfl (sa_cons (sd_var 0) (sa_cons (sd_add (sd_mul (sd_var 1) sd_int) sd_int) (sa_cons (sd_sub (sd_var 2) sd_int) (sa_cons (sd_var 8) sa_nil)))))) (ss_cons (ss_ret (sd_tup (sa_cons sd_str (sa_cons (sd_var 7) (sa_cons (sd_var 10) (sa_cons (sd_call (f:="_law_block") cx_qblock rfl (sa_cons (sd_var 0) (sa_cons (sd_add (sd_mul (sd_var 1) sd_int) sd_int) (sa_cons (sd_sub (sd_var 2) sd_int) (sa_cons (sd_var 8) sa_nil))))) sa_nil)))))) ss_nil)) ss_nil) (ss_cons (ss_if (L2.PW.pt (sw_and (st_cmp ck_gt (sd_var 2) sd_int) (sw_and (st_cmp ck_lt (sd_var 9) sd_int) (sw_and1 (L2.PW.pt (sw_or (st_cmp (ck_eq h64) (sd_var 3) sd_int) (sw_or1 (st_not (st_val (sd_var 6)))))))))) (ss_cons (ss_set 11 nd rfl (Or.inl rfl) (sd_tup (sa_cons sd_str (sa_cons (sd_ix (sd_var 4) sd_int) (sa_cons (sd_tup (sa_cons sd_str (sa_cons (sd_tup (sa_cons sd_str (sa_cons (sd_ix (sd_var 4) sd_int) sa_nil))) (sa_cons (sd_tup (sa_cons sd_str (sa_cons sd_int sa_nil))) sa_nil)))) sa_nil))))) (ss_cons (ss_set 12 nd rfl (Or.inl rfl) (sd_call (f:="_law_block") cx_qblock rfl (sa_cons (sd_var 0) (sa_cons (sd_add (sd_mul (sd_var 1) sd_int) sd_int) (sa_cons (sd_sub (sd_var 2) sd_int) (sa_cons (sd_var 3) sa_nil)))))) (ss_cons (ss_if (st_val (sd_var 6)) (ss_cons (ss_set 7 nd rfl (Or.inl rfl) (sd_tup (sa_cons sd_str (sa_cons (sd_tup (sa_cons sd_str (sa_cons (sd_ix (sd_var 4) sd_int) sa_nil))) (sa_cons (sd_tup (sa_cons sd_str (sa_cons (sd_call (f:="_law_mix") cx_qmix rfl (sa_cons (sd_var 1) (sa_cons sd_int (sa_cons sd_int sa_nil)))) sa_nil))) sa_nil))))) ss_nil) ss_nil) (ss_cons (ss_ret (sd_tup (sa_cons sd_str (sa_cons (sd_var 7) (sa_cons (sd_add (sd_var 12) (sd_tup (sa_cons (sd_var 11) sa_nil))) sa_nil))))) ss_nil)))) ss_nil) (ss_cons (ss_setC 13 (own:=["_law_k"]) nd rfl rfl ⟨rfl,by rfl,by rfl,by rfl,by rfl,rfl⟩ hc (si_rng rfl m_range sd_int) (fun _ _ _ _=>(sg_nm 14 (show (["_law_plan","_law_cell_here","_law_deep","_law_need","_law_names_here","_law_levels_here","_law_honest","_law_term_here","_law_high","_law_turn","_law_one","_law_more","_law_block_here","_law_some","_law_k"]:List Str).Nodup from by decide +kernel) rfl (Or.inl rfl))) (fun _ _ _ _=>(sts_one (L2.PW.pt (sw_or (st_cmp ck_ge (sd_ix (sd_var 5) (sd_var 14)) (sd_var 8)) (sw_or1 (st_not (st_val (sd_var 6)))))))) (fun _ _ _ _=>(sd_var 14))) (ss_cons (ss_if (L2.PW.pt (sw_and (st_cmp ck_lt (sd_var 9) sd_int) (sw_and1 (st_val (sd_var 13))))) (ss_cons (ss_ret (sd_tup (sa_cons sd_str (sa_cons (sd_ix (sd_var 4) (sd_ix (sd_var 13) (sd_call (f:="_law_mix") cx_qmix rfl (sa_cons (sd_var 1) (sa_cons sd_int (sa_cons (sd_len rfl m_len (sd_var 13)) sa_nil)))))) (sa_cons (sd_var 7) sa_nil))))) ss_nil) ss_nil) (ss_cons (ss_ret (sd_tup (sa_cons sd_str (sa_cons (sd_max2 hc rfl m_max (sd_call (f:="_law_mix") cx_qmix rfl (sa_cons (sd_var 1) (sa_cons sd_int (sa_cons sd_int sa_nil)))) (sd_mul (sd_var 8) (sd_int1 rfl m_int (sd_var 6)))) (sa_cons (sd_var 7) sa_nil))))) ss_nil)))))))))
abbrev s_qblock:Stmt:=top 28
theorem sc_qblock:FnScope ["_law_plan","_law_cell_here","_law_deep","_law_need","_law_many"] ["_law_plan","_law_cell_here","_law_deep","_law_need"] (defScope s_qblock):=⟨rfl,rfl,rfl,by decide +kernel,rfl,by decide +kernel,by decide +kernel⟩
theorem ok_qblock(T:Tp K mg)(D:Ds P w K mg base W n){fa:Addr}{cdv:Value}{A:Around}{outer:List Env}{s:Shared}{H:Hp}{E:XK}(hr:Room n (A.deeper (envOfC (Str.ofString "_law_block") (defScope s_qblock) s.heap.objs.size fa cdv))):PSs (cxOf CX0 P w K mg base ["_law_plan","_law_cell_here","_law_deep","_law_need","_law_many"] (Str.ofString "_law_block") (defScope s_qblock) fa cdv A outer s H E).nox (defBody s_qblock) (tDSs (callI W Γ n) W K b_qblock):=by
 have nd:=sc_qblock.nd
 have hu:=hu_of hr
 have h64:=hr.units
 have hc:(cxOf CX0 P w K mg base ["_law_plan","_law_cell_here","_law_deep","_law_need","_law_many"] (Str.ofString "_law_block") (defScope s_qblock) fa cdv A outer s H E).nox.calm=true:=rfl
 have m_range:=T.m_range
 have m_tuple:=T.m_tuple
 have cx_qmix:Cal (cxOf CX0 P w K mg base ["_law_plan","_law_cell_here","_law_deep","_law_need","_law_many"] (Str.ofString "_law_block") (defScope s_qblock) fa cdv A outer s H E).nox (callI W Γ n) "_law_mix":=Def.cal (X:=(cxOf CX0 P w K mg base ["_law_plan","_law_cell_here","_law_deep","_law_need","_law_many"] (Str.ofString "_law_block") (defScope s_qblock) fa cdv A outer s H E).nox) (D "_law_mix" (by decide)) hr
 have cx_qdeed:Cal (cxOf CX0 P w K mg base ["_law_plan","_law_cell_here","_law_deep","_law_need","_law_many"] (Str.ofString "_law_block") (defScope s_qblock) fa cdv A outer s H E).nox (callI W Γ n) "_law_deed":=Def.cal (X:=(cxOf CX0 P w K mg base ["_law_plan","_law_cell_here","_law_deep","_law_need","_law_many"] (Str.ofString "_law_block") (defScope s_qblock) fa cdv A outer s H E).nox) (D "_law_deed" (by decide)) hr
 exact(ss_cons (ss_set 4 nd rfl (Or.inl rfl) (sd_add sd_int (sd_call (f:="_law_mix") cx_qmix rfl (sa_cons (sd_var 1) (sa_cons sd_int (sa_cons sd_int sa_nil)))))) (ss_cons (ss_ret (sd_tuple rfl m_tuple (sd_comp (mu:=false) (own:=["_law_k"]) ⟨rfl,by rfl,by rfl,by rfl,by rfl,rfl⟩ hc (si_rng rfl m_range (sd_var 4)) (fun _ _ _ _=>(sg_nm 5 (show (["_law_plan","_law_cell_here","_law_deep","_law_need","_law_many","_law_k"]:List Str).Nodup from by decide +kernel) rfl (Or.inl rfl))) (fun _ _ _ _=>sts_nil) (fun _ _ _ _=>(sd_call (f:="_law_deed") cx_qdeed rfl (sa_cons (sd_var 0) (sa_cons (sd_add (sd_mul (sd_var 1) sd_int) (sd_mul sd_int (sd_var 5))) (sa_cons (sd_var 2) (sa_cons (sd_var 3) sa_nil))))))))) ss_nil))
abbrev s_qprogram:Stmt:=top 29
theorem sc_qprogram:FnScope ["_law_script","_law_k","_law_honest","_law_plan","_law_cells"] ["_law_script","_law_k"] (defScope s_qprogram):=⟨rfl,rfl,rfl,by decide +kernel,rfl,by decide +kernel,by decide +kernel⟩
theorem ok_qprogram(T:Tp K mg)(D:Ds P w K mg base W n){fa:Addr}{cdv:Value}{A:Around}{outer:List Env}{s:Shared}{H:Hp}{E:XK}(hr:Room n (A.deeper (envOfC (Str.ofString "_law_program") (defScope s_qprogram) s.heap.objs.size fa cdv))):PSs (cxOf CX0 P w K mg base ["_law_script","_law_k","_law_honest","_law_plan","_law_cells"] (Str.ofString "_law_program") (defScope s_qprogram) fa cdv A outer s H E).nox (defBody s_qprogram) (tDSs (callI W Γ n) W K b_qprogram):=by
 have nd:=sc_qprogram.nd
 have hu:=hu_of hr
 have h64:=hr.units
 have hc:(cxOf CX0 P w K mg base ["_law_script","_law_k","_law_honest","_law_plan","_law_cells"] (Str.ofString "_law_program") (defScope s_qprogram) fa cdv A outer s H E).nox.calm=true:=rfl
 have m_tuple:=T.m_tuple
 have cx_qcell:Cal (cxOf CX0 P w K mg base ["_law_script","_law_k","_law_honest","_law_plan","_law_cells"] (Str.ofString "_law_program") (defScope s_qprogram) fa cdv A outer s H E).nox (callI W Γ n) "_law_cell":=Def.cal (X:=(cxOf CX0 P w K mg base ["_law_script","_law_k","_law_honest","_law_plan","_law_cells"] (Str.ofString "_law_program") (defScope s_qprogram) fa cdv A outer s H E).nox) (D "_law_cell" (by decide)) hr
 have cx_qmix:Cal (cxOf CX0 P w K mg base ["_law_script","_law_k","_law_honest","_law_plan","_law_cells"] (Str.ofString "_law_program") (defScope s_qprogram) fa cdv A outer s H E).nox (callI W Γ n) "_law_mix":=Def.cal (X:=(cxOf CX0 P w K mg base ["_law_script","_law_k","_law_honest","_law_plan","_law_cells"] (Str.ofString "_law_program") (defScope s_qprogram) fa cdv A outer s H E).nox) (D "_law_mix" (by decide)) hr
 have cx_qnames:Cal (cxOf CX0 P w K mg base ["_law_script","_law_k","_law_honest","_law_plan","_law_cells"] (Str.ofString "_law_program") (defScope s_qprogram) fa cdv A outer s H E).nox (callI W Γ n) "_law_names":=Def.cal (X:=(cxOf CX0 P w K mg base ["_law_script","_law_k","_law_honest","_law_plan","_law_cells"] (Str.ofString "_law_program") (defScope s_qprogram) fa cdv A outer s H E).nox) (D "_law_names" (by decide)) hr
 have cx_qlevels:Cal (cxOf CX0 P w K mg base ["_law_script","_law_k","_law_honest","_law_plan","_law_cells"] (Str.ofString "_law_program") (defScope s_qprogram) fa cdv A outer s H E).nox (callI W Γ n) "_law_levels":=Def.cal (X:=(cxOf CX0 P w K mg base ["_law_script","_law_k","_law_honest","_law_plan","_law_cells"] (Str.ofString "_law_program") (defScope s_qprogram) fa cdv A outer s H E).nox) (D "_law_levels" (by decide)) hr
 have cx_qdeed:Cal (cxOf CX0 P w K mg base ["_law_script","_law_k","_law_honest","_law_plan","_law_cells"] (Str.ofString "_law_program") (defScope s_qprogram) fa cdv A outer s H E).nox (callI W Γ n) "_law_deed":=Def.cal (X:=(cxOf CX0 P w K mg base ["_law_script","_law_k","_law_honest","_law_plan","_law_cells"] (Str.ofString "_law_program") (defScope s_qprogram) fa cdv A outer s H E).nox) (D "_law_deed" (by decide)) hr
 exact(ss_cons (ss_set 2 nd rfl (Or.inl rfl) (sd_cmp ck_gt (sd_call (f:="_law_mix") cx_qmix rfl (sa_cons (sd_call (f:="_law_cell") cx_qcell rfl (sa_cons (sd_var 0) (sa_cons sd_int sa_nil))) (sa_cons sd_int (sa_cons sd_int sa_nil)))) sd_int)) (ss_cons (ss_set 3 nd rfl (Or.inr rfl) (sd_tup (sa_cons (sd_call (f:="_law_names") cx_qnames rfl (sa_cons (sd_var 0) sa_nil)) (sa_cons (sd_call (f:="_law_levels") cx_qlevels rfl (sa_cons (sd_var 0) sa_nil)) (sa_cons (sd_var 2) sa_nil))))) (ss_cons (ss_set 4 nd rfl (Or.inl rfl) (sd_sl (sd_var 0) (so_pt (sd_var 1)) (so_pt (sd_add (sd_add (sd_var 1) sd_int) (sd_mod (sd_call (f:="_law_cell") cx_qcell rfl (sa_cons (sd_var 0) (sa_cons sd_int sa_nil))) sd_int))))) (ss_cons (ss_ret (sd_tuple rfl m_tuple (sd_comp (mu:=false) (own:=["_law_cell_here"]) ⟨rfl,by rfl,by rfl,by rfl,by rfl,rfl⟩ hc (si_seq (sd_var 4)) (fun _ _ _ _=>(sg_nm 5 (show (["_law_script","_law_k","_law_honest","_law_plan","_law_cells","_law_cell_here"]:List Str).Nodup from by decide +kernel) rfl (Or.inl rfl))) (fun _ _ _ _=>sts_nil) (fun _ _ _ _=>(sd_call (f:="_law_deed") cx_qdeed rfl (sa_cons (sd_var 3) (sa_cons (sd_var 5) (sa_cons sd_int (sa_cons sd_int sa_nil))))))))) ss_nil))))
abbrev s_qstore:Stmt:=top 30
theorem sc_qstore:FnScope ["_law_script","_law_k","_law_found","_law_n","_law_name_here","_law_number"] ["_law_script","_law_k"] (defScope s_qstore):=⟨rfl,rfl,rfl,by decide +kernel,rfl,by decide +kernel,by decide +kernel⟩
theorem ok_qstore(T:Tp K mg)(D:Ds P w K mg base W n){fa:Addr}{cdv:Value}{A:Around}{outer:List Env}{s:Shared}{H:Hp}{E:XK}(hr:Room n (A.deeper (envOfC (Str.ofString "_law_store") (defScope s_qstore) s.heap.objs.size fa cdv))):PSs (cxOf CX0 P w K mg base ["_law_script","_law_k","_law_found","_law_n","_law_name_here","_law_number"] (Str.ofString "_law_store") (defScope s_qstore) fa cdv A outer s H E).nox (defBody s_qstore) (tDSs (callI W Γ n) W K b_qstore):=by
 have nd:=sc_qstore.nd
 have hu:=hu_of hr
 have h64:=hr.units
 have hc:(cxOf CX0 P w K mg base ["_law_script","_law_k","_law_found","_law_n","_law_name_here","_law_number"] (Str.ofString "_law_store") (defScope s_qstore) fa cdv A outer s H E).nox.calm=true:=rfl
 have m_enumerate:=T.m_enumerate
 have m_sorted:=T.m_sorted
 have m_tuple:=T.m_tuple
 have cx_qcell:Cal (cxOf CX0 P w K mg base ["_law_script","_law_k","_law_found","_law_n","_law_name_here","_law_number"] (Str.ofString "_law_store") (defScope s_qstore) fa cdv A outer s H E).nox (callI W Γ n) "_law_cell":=Def.cal (X:=(cxOf CX0 P w K mg base ["_law_script","_law_k","_law_found","_law_n","_law_name_here","_law_number"] (Str.ofString "_law_store") (defScope s_qstore) fa cdv A outer s H E).nox) (D "_law_cell" (by decide)) hr
 have cx_qmix:Cal (cxOf CX0 P w K mg base ["_law_script","_law_k","_law_found","_law_n","_law_name_here","_law_number"] (Str.ofString "_law_store") (defScope s_qstore) fa cdv A outer s H E).nox (callI W Γ n) "_law_mix":=Def.cal (X:=(cxOf CX0 P w K mg base ["_law_script","_law_k","_law_found","_law_n","_law_name_here","_law_number"] (Str.ofString "_law_store") (defScope s_qstore) fa cdv A outer s H E).nox) (D "_law_mix" (by decide)) hr
 have cx_qnames:Cal (cxOf CX0 P w K mg base ["_law_script","_law_k","_law_found","_law_n","_law_name_here","_law_number"] (Str.ofString "_law_store") (defScope s_qstore) fa cdv A outer s H E).nox (callI W Γ n) "_law_names":=Def.cal (X:=(cxOf CX0 P w K mg base ["_law_script","_law_k","_law_found","_law_n","_law_name_here","_law_number"] (Str.ofString "_law_store") (defScope s_qstore) fa cdv A outer s H E).nox) (D "_law_names" (by decide)) hr
 exact(ss_cons (ss_set 2 nd rfl (Or.inl rfl) (sd_lst (mu:=true) sa_nil)) (ss_cons (ss_for PassesOwn.never hc (si_enum rfl m_enumerate (sd_call (f:="_law_names") cx_qnames rfl (sa_cons (sd_var 0) sa_nil))) (sg_tp hc (sgs_cons (sg_nm 3 nd rfl (Or.inl rfl)) (sgs_cons (sg_nm 4 nd rfl (Or.inl rfl)) sgs_nil))) (ss_cons (ss_set 5 nd rfl (Or.inl rfl) (sd_call (f:="_law_mix") cx_qmix rfl (sa_cons (sd_add (sd_call (f:="_law_cell") cx_qcell rfl (sa_cons (sd_var 0) (sa_cons (sd_var 1) sa_nil))) (sd_mul sd_int (sd_var 3))) (sa_cons sd_int (sa_cons sd_int sa_nil))))) (ss_cons (ss_if (st_cmp (ck_eq h64) (sd_mod (sd_call (f:="_law_cell") cx_qcell rfl (sa_cons (sd_var 0) (sa_cons (sd_var 1) sa_nil))) sd_int) sd_int) (ss_cons (ss_set 5 nd rfl (Or.inl rfl) (sd_mod (sd_var 5) sd_int)) ss_nil) ss_nil) (ss_cons (ss_drop (sd_app (sd_var 2) (sd_tup (sa_cons (sd_var 4) (sa_cons (sd_var 5) sa_nil))))) ss_nil)))) (ss_cons (ss_ret (sd_tuple rfl m_tuple (sd_sorted (mu:=false) rfl m_sorted (sd_var 2)))) ss_nil)))
abbrev s_qbad_term:Stmt:=top 31
theorem sc_qbad_term:FnScope ["_law_cell_here","_law_term_here","_law_some"] ["_law_cell_here","_law_term_here"] (defScope s_qbad_term):=⟨rfl,rfl,rfl,by decide +kernel,rfl,by decide +kernel,by decide +kernel⟩
theorem ok_qbad_term(T:Tp K mg)(D:Ds P w K mg base W n){fa:Addr}{cdv:Value}{A:Around}{outer:List Env}{s:Shared}{H:Hp}{E:XK}(hr:Room n (A.deeper (envOfC (Str.ofString "_law_bad_term") (defScope s_qbad_term) s.heap.objs.size fa cdv))):PSs (cxOf CX0 P w K mg base ["_law_cell_here","_law_term_here","_law_some"] (Str.ofString "_law_bad_term") (defScope s_qbad_term) fa cdv A outer s H E).nox (defBody s_qbad_term) (tDSs (callI W Γ n) W K b_qbad_term):=by
 have nd:=sc_qbad_term.nd
 have hu:=hu_of hr
 have h64:=hr.units
 have hc:(cxOf CX0 P w K mg base ["_law_cell_here","_law_term_here","_law_some"] (Str.ofString "_law_bad_term") (defScope s_qbad_term) fa cdv A outer s H E).nox.calm=true:=rfl
 have m_len:=T.m_len
 have m_list:=T.m_list
 refine ss_cons ?_ ?_
 refine ss_set _ ?_ ?_ ?_ ?_ ?_ ?_
 exact nd
 exact rfl
 exact Or.inl rfl
 refine sd_lst ?_
 refine sa_cons ?_ ?_
 exact sd_non
 refine sa_cons ?_ ?_
 exact sd_int
 refine sa_cons ?_ ?_
 exact sd_str
 refine sa_cons ?_ ?_
 refine sd_tup ?_
 exact sa_nil
 refine sa_cons ?_ ?_
 refine sd_tup ?_
 refine sa_cons ?_ ?_
 exact sd_str
 exact sa_nil
 refine sa_cons ?_ ?_
 refine sd_tup ?_
 refine sa_cons ?_ ?_
 exact sd_str
 refine sa_cons ?_ ?_
 exact sd_int
 exact sa_nil
 refine sa_cons ?_ ?_
 refine sd_tup ?_
 refine sa_cons ?_ ?_
 exact sd_str
 refine sa_cons ?_ ?_
 exact sd_neg
 exact sa_nil
 refine sa_cons ?_ ?_
 refine sd_tup ?_
 refine sa_cons ?_ ?_
 exact sd_str
 refine sa_cons ?_ ?_
 exact sd_bl
 exact sa_nil
 refine sa_cons ?_ ?_
 refine sd_tup ?_
 refine sa_cons ?_ ?_
 exact sd_str
 refine sa_cons ?_ ?_
 exact sd_str
 exact sa_nil
 exact sa_nil
 exact sw_list
 exact .inl rfl
 refine ss_cons ?_ ?_
 refine ss_set _ ?_ ?_ ?_ ?_ ?_ ?_
 exact nd
 exact rfl
 exact Or.inl rfl
 refine sd_cat (mu:=false) (sd_var 2) ?_
 refine sd_lst ?_
 refine sa_cons ?_ ?_
 refine sd_tup ?_
 refine sa_cons ?_ ?_
 exact sd_str
 refine sa_cons ?_ ?_
 exact sd_str
 exact sa_nil
 refine sa_cons ?_ ?_
 refine sd_tup ?_
 refine sa_cons ?_ ?_
 exact sd_str
 refine sa_cons ?_ ?_
 exact sd_int
 exact sa_nil
 refine sa_cons ?_ ?_
 refine sd_tup ?_
 refine sa_cons ?_ ?_
 exact sd_str
 refine sa_cons ?_ ?_
 exact sd_var 1
 exact sa_nil
 refine sa_cons ?_ ?_
 refine sd_tup ?_
 refine sa_cons ?_ ?_
 exact sd_str
 refine sa_cons ?_ ?_
 exact sd_var 1
 refine sa_cons ?_ ?_
 exact sd_var 1
 refine sa_cons ?_ ?_
 exact sd_var 1
 exact sa_nil
 refine sa_cons ?_ ?_
 refine sd_tup ?_
 refine sa_cons ?_ ?_
 exact sd_str
 refine sa_cons ?_ ?_
 exact sd_var 1
 refine sa_cons ?_ ?_
 exact sd_non
 exact sa_nil
 exact sa_nil
 exact rfl
 exact .inl rfl
 refine ss_cons ?_ ?_
 refine ss_set _ ?_ ?_ ?_ ?_ ?_ ?_
 exact nd
 exact rfl
 exact Or.inl rfl
 refine sd_cat (mu:=false) (sd_var 2) ?_
 refine sd_lst ?_
 refine sa_cons ?_ ?_
 refine sd_tup ?_
 refine sa_cons ?_ ?_
 exact sd_str
 refine sa_cons ?_ ?_
 exact sd_var 1
 refine sa_cons ?_ ?_
 exact sd_var 1
 exact sa_nil
 refine sa_cons ?_ ?_
 refine sd_tup ?_
 refine sa_cons ?_ ?_
 exact sd_str
 refine sa_cons ?_ ?_
 refine sd_tup ?_
 exact sa_nil
 refine sa_cons ?_ ?_
 exact sd_var 1
 exact sa_nil
 refine sa_cons ?_ ?_
 refine sd_tup ?_
 refine sa_cons ?_ ?_
 exact sd_str
 refine sa_cons ?_ ?_
 exact sd_str
 exact sa_nil
 refine sa_cons ?_ ?_
 refine sd_tup ?_
 refine sa_cons ?_ ?_
 exact sd_str
 refine sa_cons ?_ ?_
 refine sd_tup ?_
 refine sa_cons ?_ ?_
 exact sd_str
 refine sa_cons ?_ ?_
 exact sd_str
 exact sa_nil
 refine sa_cons ?_ ?_
 exact sd_var 1
 exact sa_nil
 exact sa_nil
 exact rfl
 exact .inl rfl
 refine ss_cons ?_ ?_
 refine ss_set _ ?_ ?_ ?_ ?_ ?_ ?_
 exact nd
 exact rfl
 exact Or.inl rfl
 refine sd_cat (mu:=false) (sd_var 2) ?_
 refine sd_lst ?_
 refine sa_cons ?_ ?_
 refine sd_tup ?_
 refine sa_cons ?_ ?_
 exact sd_str
 refine sa_cons ?_ ?_
 exact sd_str
 exact sa_nil
 refine sa_cons ?_ ?_
 exact sd_list (mu:=false) rfl m_list (sd_var 1)
 refine sa_cons ?_ ?_
 refine sd_tup ?_
 refine sa_cons ?_ ?_
 refine sd_lst ?_
 refine sa_cons ?_ ?_
 exact sd_str
 exact sa_nil
 refine sa_cons ?_ ?_
 exact sd_str
 exact sa_nil
 exact sa_nil
 exact rfl
 exact .inl rfl
 refine ss_cons ?_ ?_
 exact ss_ret (sd_ix (sd_var 2) (sd_mod (sd_var 0) (sd_len rfl m_len (sd_var 2))))
 exact ss_nil
abbrev s_qbad_deed:Stmt:=top 32
theorem sc_qbad_deed:FnScope ["_law_cell_here","_law_term_here","_law_name_here","_law_bad","_law_some"] ["_law_cell_here","_law_term_here","_law_name_here"] (defScope s_qbad_deed):=⟨rfl,rfl,rfl,by decide +kernel,rfl,by decide +kernel,by decide +kernel⟩
theorem ok_qbad_deed(T:Tp K mg)(D:Ds P w K mg base W n){fa:Addr}{cdv:Value}{A:Around}{outer:List Env}{s:Shared}{H:Hp}{E:XK}(hr:Room n (A.deeper (envOfC (Str.ofString "_law_bad_deed") (defScope s_qbad_deed) s.heap.objs.size fa cdv))):PSs (cxOf CX0 P w K mg base ["_law_cell_here","_law_term_here","_law_name_here","_law_bad","_law_some"] (Str.ofString "_law_bad_deed") (defScope s_qbad_deed) fa cdv A outer s H E).nox (defBody s_qbad_deed) (tDSs (callI W Γ n) W K b_qbad_deed):=by
 have nd:=sc_qbad_deed.nd
 have hu:=hu_of hr
 have h64:=hr.units
 have hc:(cxOf CX0 P w K mg base ["_law_cell_here","_law_term_here","_law_name_here","_law_bad","_law_some"] (Str.ofString "_law_bad_deed") (defScope s_qbad_deed) fa cdv A outer s H E).nox.calm=true:=rfl
 have cx_qbad_term:Cal (cxOf CX0 P w K mg base ["_law_cell_here","_law_term_here","_law_name_here","_law_bad","_law_some"] (Str.ofString "_law_bad_deed") (defScope s_qbad_deed) fa cdv A outer s H E).nox (callI W Γ n) "_law_bad_term":=Def.cal (X:=(cxOf CX0 P w K mg base ["_law_cell_here","_law_term_here","_law_name_here","_law_bad","_law_some"] (Str.ofString "_law_bad_deed") (defScope s_qbad_deed) fa cdv A outer s H E).nox) (D "_law_bad_term" (by decide)) hr
 exact(ss_cons (ss_set 3 nd rfl (Or.inl rfl) (sd_call (f:="_law_bad_term") cx_qbad_term rfl (sa_cons (sd_fdiv (sd_var 0) sd_int) (sa_cons (sd_var 1) sa_nil)))) (ss_cons (ss_set 4 nd rfl (Or.inl rfl) (sd_lst (mu:=false) (sa_cons (sd_tup (sa_cons sd_str (sa_cons (sd_var 2) (sa_cons (sd_var 3) sa_nil)))) (sa_cons (sd_tup (sa_cons sd_str (sa_cons sd_int (sa_cons (sd_var 3) sa_nil)))) (sa_cons (sd_tup (sa_cons sd_str (sa_cons (sd_var 3) (sa_cons (sd_tup sa_nil) (sa_cons (sd_tup sa_nil) sa_nil))))) (sa_cons (sd_tup (sa_cons sd_str (sa_cons (sd_var 3) (sa_cons (sd_tup sa_nil) sa_nil)))) (sa_cons (sd_tup (sa_cons sd_str (sa_cons sd_str (sa_cons (sd_var 1) sa_nil)))) sa_nil))))))) (ss_cons (ss_set 4 nd rfl (Or.inl rfl) (sd_cat (mu:=false) (sd_var 4) (sd_lst (mu:=false) (sa_cons (sd_tup (sa_cons sd_str (sa_cons sd_int (sa_cons (sd_var 1) sa_nil)))) (sa_cons (sd_tup (sa_cons sd_str (sa_cons sd_bl (sa_cons (sd_var 1) sa_nil)))) (sa_cons (sd_tup (sa_cons sd_str (sa_cons (sd_var 1) (sa_cons (sd_tup sa_nil) sa_nil)))) (sa_cons (sd_tup (sa_cons sd_str (sa_cons (sd_var 1) (sa_cons (sd_tup sa_nil) (sa_cons sd_non sa_nil))))) sa_nil))))))) (ss_cons (ss_set 4 nd rfl (Or.inl rfl) (sd_cat (mu:=false) (sd_var 4) (sd_lst (mu:=false) (sa_cons (sd_tup (sa_cons sd_str (sa_cons (sd_var 1) sa_nil))) (sa_cons sd_non (sa_cons (sd_tup (sa_cons sd_str (sa_cons (sd_var 1) sa_nil))) (sa_cons (sd_tup (sa_cons sd_str (sa_cons sd_neg (sa_cons (sd_var 1) sa_nil)))) (sa_cons (sd_lst (mu:=false) (sa_cons sd_str (sa_cons (sd_var 2) (sa_cons (sd_var 1) sa_nil)))) sa_nil)))))))) (ss_cons (ss_set 4 nd rfl (Or.inl rfl) (sd_cat (mu:=false) (sd_var 4) (sd_lst (mu:=false) (sa_cons (sd_tup (sa_cons sd_str (sa_cons (sd_var 2) sa_nil))) (sa_cons (sd_tup (sa_cons sd_str (sa_cons (sd_var 1) (sa_cons (sd_lst (mu:=false) sa_nil) sa_nil)))) sa_nil))))) (ss_cons (ss_ret (sd_ix (sd_var 4) (sd_mod (sd_var 0) sd_int))) ss_nil))))))
abbrev s_qbad_pairs:Stmt:=top 33
theorem sc_qbad_pairs:FnScope ["_law_pairs","_law_most","_law_cell_here","_law_some"] ["_law_pairs","_law_most","_law_cell_here"] (defScope s_qbad_pairs):=⟨rfl,rfl,rfl,by decide +kernel,rfl,by decide +kernel,by decide +kernel⟩
theorem ok_qbad_pairs(T:Tp K mg)(D:Ds P w K mg base W n){fa:Addr}{cdv:Value}{A:Around}{outer:List Env}{s:Shared}{H:Hp}{E:XK}(hr:Room n (A.deeper (envOfC (Str.ofString "_law_bad_pairs") (defScope s_qbad_pairs) s.heap.objs.size fa cdv))):PSs (cxOf CX0 P w K mg base ["_law_pairs","_law_most","_law_cell_here","_law_some"] (Str.ofString "_law_bad_pairs") (defScope s_qbad_pairs) fa cdv A outer s H E).nox (defBody s_qbad_pairs) (tDSs (callI W Γ n) W K b_qbad_pairs):=by
 have nd:=sc_qbad_pairs.nd
 have hu:=hu_of hr
 have h64:=hr.units
 have hc:(cxOf CX0 P w K mg base ["_law_pairs","_law_most","_law_cell_here","_law_some"] (Str.ofString "_law_bad_pairs") (defScope s_qbad_pairs) fa cdv A outer s H E).nox.calm=true:=rfl
 have m_len:=T.m_len
 have m_list:=T.m_list
 refine ss_cons ?_ ?_
 refine ss_set _ ?_ ?_ ?_ ?_ ?_ ?_
 exact nd
 exact rfl
 exact Or.inl rfl
 refine sd_lst ?_
 refine sa_cons ?_ ?_
 exact sd_list (mu:=false) rfl m_list (sd_var 0)
 refine sa_cons ?_ ?_
 refine sd_tup ?_
 refine sa_cons ?_ ?_
 refine sd_tup ?_
 refine sa_cons ?_ ?_
 exact sd_str
 refine sa_cons ?_ ?_
 exact sd_int
 exact sa_nil
 refine sa_cons ?_ ?_
 refine sd_tup ?_
 refine sa_cons ?_ ?_
 exact sd_str
 refine sa_cons ?_ ?_
 exact sd_int
 exact sa_nil
 exact sa_nil
 refine sa_cons ?_ ?_
 refine sd_tup ?_
 refine sa_cons ?_ ?_
 refine sd_tup ?_
 refine sa_cons ?_ ?_
 exact sd_str
 refine sa_cons ?_ ?_
 exact sd_int
 exact sa_nil
 refine sa_cons ?_ ?_
 refine sd_tup ?_
 refine sa_cons ?_ ?_
 exact sd_str
 refine sa_cons ?_ ?_
 exact sd_int
 exact sa_nil
 exact sa_nil
 refine sa_cons ?_ ?_
 refine sd_tup ?_
 refine sa_cons ?_ ?_
 refine sd_tup ?_
 refine sa_cons ?_ ?_
 exact sd_str
 exact sa_nil
 exact sa_nil
 refine sa_cons ?_ ?_
 refine sd_tup ?_
 refine sa_cons ?_ ?_
 refine sd_tup ?_
 refine sa_cons ?_ ?_
 exact sd_str
 refine sa_cons ?_ ?_
 exact sd_add (sd_var 1) sd_int
 exact sa_nil
 exact sa_nil
 refine sa_cons ?_ ?_
 refine sd_tup ?_
 refine sa_cons ?_ ?_
 refine sd_tup ?_
 refine sa_cons ?_ ?_
 exact sd_str
 refine sa_cons ?_ ?_
 exact sd_neg
 exact sa_nil
 exact sa_nil
 exact sa_nil
 exact sw_list
 exact .inl rfl
 refine ss_cons ?_ ?_
 refine ss_set _ ?_ ?_ ?_ ?_ ?_ ?_
 exact nd
 exact rfl
 exact Or.inl rfl
 refine sd_cat (mu:=false) (sd_var 3) ?_
 refine sd_lst ?_
 refine sa_cons ?_ ?_
 refine sd_tup ?_
 refine sa_cons ?_ ?_
 refine sd_tup ?_
 refine sa_cons ?_ ?_
 exact sd_str
 refine sa_cons ?_ ?_
 exact sd_bl
 exact sa_nil
 exact sa_nil
 refine sa_cons ?_ ?_
 refine sd_tup ?_
 refine sa_cons ?_ ?_
 refine sd_tup ?_
 refine sa_cons ?_ ?_
 exact sd_str
 refine sa_cons ?_ ?_
 exact sd_int
 exact sa_nil
 exact sa_nil
 refine sa_cons ?_ ?_
 refine sd_tup ?_
 refine sa_cons ?_ ?_
 refine sd_tup ?_
 refine sa_cons ?_ ?_
 exact sd_str
 refine sa_cons ?_ ?_
 exact sd_int
 exact sa_nil
 exact sa_nil
 refine sa_cons ?_ ?_
 exact sd_non
 refine sa_cons ?_ ?_
 refine sd_tup ?_
 refine sa_cons ?_ ?_
 refine sd_lst ?_
 refine sa_cons ?_ ?_
 exact sd_str
 refine sa_cons ?_ ?_
 exact sd_int
 exact sa_nil
 exact sa_nil
 refine sa_cons ?_ ?_
 refine sd_tup ?_
 refine sa_cons ?_ ?_
 refine sd_tup ?_
 refine sa_cons ?_ ?_
 exact sd_str
 refine sa_cons ?_ ?_
 exact sd_str
 exact sa_nil
 exact sa_nil
 refine sa_cons ?_ ?_
 refine sd_tup ?_
 refine sa_cons ?_ ?_
 exact sd_str
 refine sa_cons ?_ ?_
 exact sd_int
 exact sa_nil
 exact sa_nil
 exact rfl
 exact .inl rfl
 refine ss_cons ?_ ?_
 exact ss_ret (sd_ix (sd_var 3) (sd_mod (sd_var 2) (sd_len rfl m_len (sd_var 3))))
 exact ss_nil
abbrev s_law:Stmt:=top 34
theorem sc_law:FnScope ["_law_script","_law_names_here","_law_program_here","_law_house_here","_law_store_here","_law_cell_here","_law_term_here","_law_bad","_law_around"] ["_law_script"] (defScope s_law):=⟨rfl,rfl,rfl,by decide +kernel,rfl,by decide +kernel,by decide +kernel⟩
theorem ok_law(T:Tp K mg)(D:Ds P w K mg base W n){fa:Addr}{cdv:Value}{A:Around}{outer:List Env}{s:Shared}{H:Hp}{E:XK}(hr:Room n (A.deeper (envOfC (Str.ofString "law") (defScope s_law) s.heap.objs.size fa cdv))):PSs (cxOf CX0 P w K mg base ["_law_script","_law_names_here","_law_program_here","_law_house_here","_law_store_here","_law_cell_here","_law_term_here","_law_bad","_law_around"] (Str.ofString "law") (defScope s_law) fa cdv A outer s H E).nox (defBody s_law) (tDSs (callI W Γ n) W K b_law):=by
 have nd:=sc_law.nd
 have hu:=hu_of hr
 have h64:=hr.units
 have hc:(cxOf CX0 P w K mg base ["_law_script","_law_names_here","_law_program_here","_law_house_here","_law_store_here","_law_cell_here","_law_term_here","_law_bad","_law_around"] (Str.ofString "law") (defScope s_law) fa cdv A outer s H E).nox.calm=true:=rfl
 have m_list:=T.m_list
 have cx_is_program:Cal (cxOf CX0 P w K mg base ["_law_script","_law_names_here","_law_program_here","_law_house_here","_law_store_here","_law_cell_here","_law_term_here","_law_bad","_law_around"] (Str.ofString "law") (defScope s_law) fa cdv A outer s H E).nox (callI W Γ n) "is_program":=Def.cal (X:=(cxOf CX0 P w K mg base ["_law_script","_law_names_here","_law_program_here","_law_house_here","_law_store_here","_law_cell_here","_law_term_here","_law_bad","_law_around"] (Str.ofString "law") (defScope s_law) fa cdv A outer s H E).nox) (D "is_program" (by decide)) hr
 have cx_is_house:Cal (cxOf CX0 P w K mg base ["_law_script","_law_names_here","_law_program_here","_law_house_here","_law_store_here","_law_cell_here","_law_term_here","_law_bad","_law_around"] (Str.ofString "law") (defScope s_law) fa cdv A outer s H E).nox (callI W Γ n) "is_house":=Def.cal (X:=(cxOf CX0 P w K mg base ["_law_script","_law_names_here","_law_program_here","_law_house_here","_law_store_here","_law_cell_here","_law_term_here","_law_bad","_law_around"] (Str.ofString "law") (defScope s_law) fa cdv A outer s H E).nox) (D "is_house" (by decide)) hr
 have cx_is_store:Cal (cxOf CX0 P w K mg base ["_law_script","_law_names_here","_law_program_here","_law_house_here","_law_store_here","_law_cell_here","_law_term_here","_law_bad","_law_around"] (Str.ofString "law") (defScope s_law) fa cdv A outer s H E).nox (callI W Γ n) "is_store":=Def.cal (X:=(cxOf CX0 P w K mg base ["_law_script","_law_names_here","_law_program_here","_law_house_here","_law_store_here","_law_cell_here","_law_term_here","_law_bad","_law_around"] (Str.ofString "law") (defScope s_law) fa cdv A outer s H E).nox) (D "is_store" (by decide)) hr
 have cx_qnames:Cal (cxOf CX0 P w K mg base ["_law_script","_law_names_here","_law_program_here","_law_house_here","_law_store_here","_law_cell_here","_law_term_here","_law_bad","_law_around"] (Str.ofString "law") (defScope s_law) fa cdv A outer s H E).nox (callI W Γ n) "_law_names":=Def.cal (X:=(cxOf CX0 P w K mg base ["_law_script","_law_names_here","_law_program_here","_law_house_here","_law_store_here","_law_cell_here","_law_term_here","_law_bad","_law_around"] (Str.ofString "law") (defScope s_law) fa cdv A outer s H E).nox) (D "_law_names" (by decide)) hr
 have cx_qhouse:Cal (cxOf CX0 P w K mg base ["_law_script","_law_names_here","_law_program_here","_law_house_here","_law_store_here","_law_cell_here","_law_term_here","_law_bad","_law_around"] (Str.ofString "law") (defScope s_law) fa cdv A outer s H E).nox (callI W Γ n) "_law_house":=Def.cal (X:=(cxOf CX0 P w K mg base ["_law_script","_law_names_here","_law_program_here","_law_house_here","_law_store_here","_law_cell_here","_law_term_here","_law_bad","_law_around"] (Str.ofString "law") (defScope s_law) fa cdv A outer s H E).nox) (D "_law_house" (by decide)) hr
 have cx_qterm:Cal (cxOf CX0 P w K mg base ["_law_script","_law_names_here","_law_program_here","_law_house_here","_law_store_here","_law_cell_here","_law_term_here","_law_bad","_law_around"] (Str.ofString "law") (defScope s_law) fa cdv A outer s H E).nox (callI W Γ n) "_law_term":=Def.cal (X:=(cxOf CX0 P w K mg base ["_law_script","_law_names_here","_law_program_here","_law_house_here","_law_store_here","_law_cell_here","_law_term_here","_law_bad","_law_around"] (Str.ofString "law") (defScope s_law) fa cdv A outer s H E).nox) (D "_law_term" (by decide)) hr
 have cx_qprogram:Cal (cxOf CX0 P w K mg base ["_law_script","_law_names_here","_law_program_here","_law_house_here","_law_store_here","_law_cell_here","_law_term_here","_law_bad","_law_around"] (Str.ofString "law") (defScope s_law) fa cdv A outer s H E).nox (callI W Γ n) "_law_program":=Def.cal (X:=(cxOf CX0 P w K mg base ["_law_script","_law_names_here","_law_program_here","_law_house_here","_law_store_here","_law_cell_here","_law_term_here","_law_bad","_law_around"] (Str.ofString "law") (defScope s_law) fa cdv A outer s H E).nox) (D "_law_program" (by decide)) hr
 have cx_qstore:Cal (cxOf CX0 P w K mg base ["_law_script","_law_names_here","_law_program_here","_law_house_here","_law_store_here","_law_cell_here","_law_term_here","_law_bad","_law_around"] (Str.ofString "law") (defScope s_law) fa cdv A outer s H E).nox (callI W Γ n) "_law_store":=Def.cal (X:=(cxOf CX0 P w K mg base ["_law_script","_law_names_here","_law_program_here","_law_house_here","_law_store_here","_law_cell_here","_law_term_here","_law_bad","_law_around"] (Str.ofString "law") (defScope s_law) fa cdv A outer s H E).nox) (D "_law_store" (by decide)) hr
 have cx_qbad_deed:Cal (cxOf CX0 P w K mg base ["_law_script","_law_names_here","_law_program_here","_law_house_here","_law_store_here","_law_cell_here","_law_term_here","_law_bad","_law_around"] (Str.ofString "law") (defScope s_law) fa cdv A outer s H E).nox (callI W Γ n) "_law_bad_deed":=Def.cal (X:=(cxOf CX0 P w K mg base ["_law_script","_law_names_here","_law_program_here","_law_house_here","_law_store_here","_law_cell_here","_law_term_here","_law_bad","_law_around"] (Str.ofString "law") (defScope s_law) fa cdv A outer s H E).nox) (D "_law_bad_deed" (by decide)) hr
 have cx_qbad_pairs:Cal (cxOf CX0 P w K mg base ["_law_script","_law_names_here","_law_program_here","_law_house_here","_law_store_here","_law_cell_here","_law_term_here","_law_bad","_law_around"] (Str.ofString "law") (defScope s_law) fa cdv A outer s H E).nox (callI W Γ n) "_law_bad_pairs":=Def.cal (X:=(cxOf CX0 P w K mg base ["_law_script","_law_names_here","_law_program_here","_law_house_here","_law_store_here","_law_cell_here","_law_term_here","_law_bad","_law_around"] (Str.ofString "law") (defScope s_law) fa cdv A outer s H E).nox) (D "_law_bad_pairs" (by decide)) hr
 exact(ss_cons (ss_set 1 nd rfl (Or.inl rfl) (sd_call (f:="_law_names") cx_qnames rfl (sa_cons (sd_var 0) sa_nil))) (ss_cons (ss_set 2 nd rfl (Or.inl rfl) (sd_call (f:="_law_program") cx_qprogram rfl (sa_cons (sd_var 0) (sa_cons sd_int sa_nil)))) (ss_cons (ss_set 3 nd rfl (Or.inl rfl) (sd_call (f:="_law_house") cx_qhouse rfl (sa_cons (sd_var 0) sa_nil))) (ss_cons (ss_set 4 nd rfl (Or.inl rfl) (sd_call (f:="_law_store") cx_qstore rfl (sa_cons (sd_var 0) (sa_cons sd_int sa_nil)))) (ss_cons (ss_if (L2.PW.pt (sw_or (st_cmp ck_isnot (sd_call (f:="is_program") cx_is_program rfl (sa_cons (sd_var 2) sa_nil)) sd_bl) (sw_or (st_cmp ck_isnot (sd_call (f:="is_house") cx_is_house rfl (sa_cons (sd_var 3) sa_nil)) sd_bl) (sw_or1 (st_cmp ck_isnot (sd_call (f:="is_store") cx_is_store rfl (sa_cons (sd_var 4) sa_nil)) sd_bl))))) (ss_cons (ss_ret sd_bl) ss_nil) ss_nil) (ss_cons (ss_for PassesOwn.never hc (si_seq (sd_sl (sd_var 0) (so_pt sd_int) (so_pt sd_int))) (sg_nm 5 nd rfl (Or.inl rfl)) (ss_cons (ss_set 6 nd rfl (Or.inl rfl) (sd_call (f:="_law_term") cx_qterm rfl (sa_cons (sd_var 1) (sa_cons (sd_var 5) (sa_cons sd_int sa_nil))))) (ss_cons (ss_set 7 nd rfl (Or.inl rfl) (sd_call (f:="_law_bad_deed") cx_qbad_deed rfl (sa_cons (sd_fdiv (sd_var 5) sd_int) (sa_cons (sd_var 6) (sa_cons (sd_ix (sd_var 1) sd_int) sa_nil))))) (ss_cons (ss_set 8 nd rfl (Or.inl rfl) (sd_lst (mu:=true) (sa_cons (sd_add (sd_tup (sa_cons (sd_var 7) sa_nil)) (sd_var 2)) (sa_cons (sd_add (sd_var 2) (sd_tup (sa_cons (sd_var 7) sa_nil))) (sa_cons (sd_tup (sa_cons (sd_tup (sa_cons sd_str (sa_cons (sd_var 6) (sa_cons (sd_var 2) (sa_cons (sd_tup (sa_cons (sd_var 7) sa_nil)) sa_nil))))) sa_nil)) sa_nil))))) (ss_cons (ss_drop (sd_app (sd_var 8) (sd_tup (sa_cons (sd_tup (sa_cons sd_str (sa_cons (sd_var 6) (sa_cons (sd_add (sd_tup (sa_cons (sd_var 7) sa_nil)) (sd_var 2)) sa_nil)))) sa_nil)))) (ss_cons (ss_if (L2.PW.pt (sw_or (st_cmp ck_isnot (sd_call (f:="is_program") cx_is_program rfl (sa_cons (sd_ix (sd_var 8) (sd_mod (sd_var 5) sd_int)) sa_nil)) sd_bl) (sw_or1 (st_cmp ck_isnot (sd_call (f:="is_program") cx_is_program rfl (sa_cons (sd_list (mu:=false) rfl m_list (sd_var 2)) sa_nil)) sd_bl)))) (ss_cons (ss_ret sd_bl) ss_nil) ss_nil) (ss_cons (ss_if (st_cmp ck_isnot (sd_call (f:="is_house") cx_is_house rfl (sa_cons (sd_call (f:="_law_bad_pairs") cx_qbad_pairs rfl (sa_cons (sd_var 3) (sa_cons sd_int (sa_cons (sd_var 5) sa_nil)))) sa_nil)) sd_bl) (ss_cons (ss_ret sd_bl) ss_nil) ss_nil) (ss_cons (ss_if (st_cmp ck_isnot (sd_call (f:="is_store") cx_is_store rfl (sa_cons (sd_call (f:="_law_bad_pairs") cx_qbad_pairs rfl (sa_cons (sd_var 4) (sa_cons sd_int (sa_cons (sd_var 5) sa_nil)))) sa_nil)) sd_bl) (ss_cons (ss_ret sd_bl) ss_nil) ss_nil) ss_nil)))))))) (ss_cons (ss_ret (sd_and (sd_cmp ck_is (sd_call (f:="is_program") cx_is_program rfl (sa_cons (sd_tup sa_nil) sa_nil)) sd_bl) (sd_and (sd_cmp ck_is (sd_call (f:="is_house") cx_is_house rfl (sa_cons (sd_tup sa_nil) sa_nil)) sd_bl) (sd_last (sd_cmp ck_is (sd_call (f:="is_store") cx_is_store rfl (sa_cons (sd_tup sa_nil) sa_nil)) sd_bl))))) ss_nil)))))))
end
end T
end
section
namespace WL
open PySem L2
@[simp] theorem ofString_eq {a b:String}:(Str.ofString a=Str.ofString b)=(a=b):=by
 apply propext
 refine⟨fun h=>?_,fun h=>by rw[h]⟩
 rw[Str.ofString_eq_toList,Str.ofString_eq_toList]at h
 have h1:a.toList.map Char.toNat=b.toList.map Char.toNat:=by simpa using congrArg (fun s:Str=>s.cps.toList) h
 have h2:a.toList=b.toList:=List.map_inj_right (fun x y h=>Char.toNat_inj.mp h) |>.mp h1
 exact String.toList_inj.mp h2
section
variable{C:String→List D→Mem→Option (D×Mem)}{W:Nat}{m:Mem}
@[simp] theorem eqD_str (a b:Str):eqD (.str a) (.str b)=some (decide (a=b)):=rfl
@[simp] theorem eqD_int (a b:Int):eqD (.int a) (.int b)=some (decide (a=b)):=rfl
@[simp] theorem cmp_eq (a b:D):cmpD .eq a b=eqD a b:=rfl
@[simp] theorem cmp_ne (a b:D):cmpD .ne a b=(eqD a b).map (!·):=rfl
@[simp] theorem cmp_lt (a b:Int):cmpD .lt (.int a) (.int b)=some (decide (a<b)):=rfl
@[simp] theorem cmp_le (a b:Int):cmpD .le (.int a) (.int b)=some (decide (a≤b)):=rfl
@[simp] theorem cmp_gt (a b:Int):cmpD .gt (.int a) (.int b)=some (decide (b<a)):=rfl
@[simp] theorem cmp_ge (a b:Int):cmpD .ge (.int a) (.int b)=some (decide (b≤a)):=rfl
@[simp] theorem cmp_is (a:D):cmpD .is a .non=some a.isNon:=rfl
@[simp] theorem cmp_isb (a:D) (b:Bool):cmpD .is a (.bl b)=some (a.isBl b):=rfl
@[simp] theorem cmp_isnotb (a:D) (b:Bool):cmpD .isnot a (.bl b)=some (!a.isBl b):=rfl
@[simp] theorem isBl_bl (b c:Bool):D.isBl b (.bl c)=(c==b):=rfl
@[simp] theorem cmp_isnot (a:D):cmpD .isnot a .non=some (!a.isNon):=rfl
@[simp] theorem isNon_non:D.isNon .non=true:=rfl
@[simp] theorem isNon_int (i:Int):D.isNon (.int i)=false:=rfl
@[simp] theorem tru_bl (b:Bool):truD (.bl b) m=some b:=rfl
@[simp] theorem tru_lst (xs:List D):truD (.lst xs) m=some (!xs.isEmpty):=rfl
@[simp] theorem bin_add (a b:Int):binD .add (.int a) (.int b) m=some (.int (a+b),m):=rfl
@[simp] theorem bin_sub (a b:Int):binD .sub (.int a) (.int b) m=some (.int (a-b),m):=rfl
theorem bin_mulR{a b:Int}(h:-(2 ^ 64)<b∧b<2 ^ 64):binD .mul (.int a) (.int b) m=some (.int (a*b),m):=if_pos (.inr h)
theorem bin_mulL{a b:Int}(h:-(2 ^ 64)<a∧a<2 ^ 64):binD .mul (.int a) (.int b) m=some (.int (a*b),m):=if_pos (.inl h)
theorem bin_mod{a b:Int}(h:0<b):binD .mod (.int a) (.int b) m=some (.int (a % b),m):=if_pos h
theorem bin_fdiv{a b:Int}(h:0<b∧b<1073741824):binD .fdiv (.int a) (.int b) m=some (.int (a / b),m):=if_pos h
theorem bin_str{a b:Str}(h:a.length+b.length≤1000):binD .add (.str a) (.str b) m=some (.str (a++b),m):=if_pos h
theorem bin_tup{a b:List D}(h:a.length+b.length≤10000):binD .add (.tup a) (.tup b) m=some (.tup (a++b),m):=if_pos h
@[simp] theorem ix_tup (xs:List D) (i:Int):ixD (.tup xs) (.int i) m=atI xs i:=rfl
@[simp] theorem ix_lst (xs:List D) (i:Int):ixD (.lst xs) (.int i) m=atI xs i:=rfl
@[simp] theorem ix_scr (xs:List Int) (i:Int):ixD (.scr xs) (.int i) m=(atI xs i).map .int:=rfl
theorem at_nat{α:Type}{xs:List α}{i:Nat}:atI xs (i:Int)=xs[i]?:=by
 unfold atI ixN
 by_cases h:i<xs.length
 ·rw[if_pos (Int.natCast_nonneg i),if_pos (by omega)]
  simp
 ·rw[if_pos (Int.natCast_nonneg i),if_neg (by omega)]
  simp[List.getElem?_eq_none (by omega:xs.length≤i)]
@[simp] theorem at_0 {α:Type} {a:α} {r:List α}:atI (a::r) 0=some a:=at_nat (i:=0)
@[simp] theorem at_1 {α:Type} {a b:α} {r:List α}:atI (a::b::r) 1=some b:=at_nat (i:=1)
@[simp] theorem at_2 {α:Type} {a b c:α} {r:List α}:atI (a::b::c::r) 2=some c:=at_nat (i:=2)
@[simp] theorem at_3 {α:Type} {a b c d:α} {r:List α}:atI (a::b::c::d::r) 3=some d:=at_nat (i:=3)
@[simp] theorem clean_int (i:Int):D.clean (.int i)=true:=rfl
@[simp] theorem clean_str (i:Str):D.clean (.str i)=true:=rfl
@[simp] theorem clean_bl (i:Bool):D.clean (.bl i)=true:=rfl
@[simp] theorem clean_non:D.clean .non=true:=rfl
@[simp] theorem clean_tup (xs:List D):D.clean (.tup xs)=D.clean.cleans xs:=rfl
@[simp] theorem clean_lst (xs:List D):D.clean (.lst xs)=D.clean.cleans xs:=rfl
@[simp] theorem cleans_nil:D.clean.cleans []=true:=rfl
@[simp] theorem cleans_cons (a:D) (r:List D):D.clean.cleans (a::r)=(a.clean&&D.clean.cleans r):=rfl
theorem out_clean{n:Nat}{d:D}(h:d.clean=true):outD n m d=some d:=by
 cases d with
 | mref i=>cases h
 | _=>simp only[outD,h,if_true]
theorem call_step{Γ:String→Option Fn}{f:String}{F:Fn}{xs:List D}{n:Nat}(h:Γ f=some F)(hl:xs.length=F.ps):callI W Γ (n+1) f xs m=(exs (callI W Γ n) W F.body (xs.map some++List.replicate (F.ns-F.ps) none) m).bind fun z=>match z.1 with
    | .rt d=>(outD m.length z.2 d).map fun d=>(d,z.2.take m.length)
    | .nx _=>some (.non,z.2.take m.length):=by
 show (Γ f).bind _=_
 rw[h,Option.bind_some,if_pos hl]<;>
 rfl
theorem call_ret{Γ:String→Option Fn}{f:String}{F:Fn}{xs:List D}{n:Nat}{d:D}(h:Γ f=some F)(hl:xs.length=F.ps)(hc:d.clean=true)(e:exs (callI W Γ n) W F.body (xs.map some++List.replicate (F.ns-F.ps) none) m=some (.rt d,m)):callI W Γ (n+1) f xs m=some (d,m):=by
 rw[call_step h hl,e]
 simp only[Option.bind_some,out_clean hc,Option.map_some,List.take_length]
@[simp] theorem ok_none {xs:List D}:Walk.ok ⟨xs,none⟩ m=true:=rfl
end
end WL
namespace WL
open PySem L2
section
variable{C:String→List D→Mem→Option (D×Mem)}{W:Nat}{m:Mem}
theorem compL_fm{w:Walk}{f:D→Mem→Option (Option D×Mem)}{g:D→Option D}(e:w.ok m=true):∀ {xs:List D},(∀ d∈xs,f d m=some (g d,m))→compL w f xs m=some (xs.filterMap g,m)
 | [],_=>by simp[compL,e]
 | d::r,h=>by
  simp only[compL,e,if_true,h d List.mem_cons_self,Option.bind_some]
  rw[compL_fm e fun x hx=>h x (List.mem_cons_of_mem _ hx)]
  cases hp:g d<;>simp[List.filterMap_cons,hp]
theorem ev_comp0{k:Nat}{g:Tg}{i:Ie}{t:Te}{e:Ex}{σ:DS}{xs:List D}{q:Option Nat}{h:D→Option D}(hw:Walk.ok ⟨xs,q⟩ m=true)(ho:outT σ.length g=true)(hi:ei C i σ m=some (⟨xs,q⟩,m))(hl:xs.length≤1000)
  (hf:∀ d∈xs,∃ σ1 c,bindT g d (σ++List.replicate k none)=some σ1∧et C t σ1 m=some (c,m)∧(if c=true then (h d).isSome=true∧ev C e σ1 m=some ((h d).getD .non,m) else h d=none)):ev C (.comp false k g i t e) σ m=some (.lst (xs.filterMap h),m):=by
 have key:=compL_fm (w:=⟨xs,q⟩) (m:=m) (g:=h) hw (xs:=xs) (f:=fun d m=>(bindT g d (σ++List.replicate k none)).bind fun σ1=>(et C t σ1 m).bind fun(c,m2)=>if c then (ev C e σ1 m2).map fun(y,m3)=>(some y,m3) else some (none,m2)) (fun d hd=>by
  obtain⟨σ1,c,e1,e2,e3⟩:=hf d hd
  cases c with
  | true=>
   rw[if_pos rfl]at e3
   obtain⟨e3,e4⟩:=e3
   simp only[e1,e2,Option.bind_some,if_true,e4,Option.map_some]
   cases hh:h d with
   | none=>rw[hh]at e3;cases e3
   | some y=>rfl
  | false=>
   rw[if_neg (by decide)]at e3
   simp only[e1,e2,Option.bind_some,e3]
   rfl)
 show (if outT σ.length g=true then (ei C i σ m).bind _ else none)=_
 rw[if_pos ho,hi]
 simp only[Option.bind_some]
 rw[key]
 simp only[Option.bind_some,mkL]
 have:=List.length_filterMap_le h xs
 rw[if_pos (by omega)]
 rfl
theorem ev_comp{k:Nat}{g:Tg}{i:Ie}{t:Te}{e:Ex}{σ:DS}{xs:List D}{h:D→Option D}(ho:outT σ.length g=true)(hi:ei C i σ m=some (⟨xs,none⟩,m))(hl:xs.length≤1000)
  (hf:∀ d∈xs,∃ σ1 c,bindT g d (σ++List.replicate k none)=some σ1∧et C t σ1 m=some (c,m)∧(if c=true then (h d).isSome=true∧ev C e σ1 m=some ((h d).getD .non,m) else h d=none)):ev C (.comp false k g i t e) σ m=some (.lst (xs.filterMap h),m):=ev_comp0 rfl ho hi hl hf
theorem ev_comp_map{k:Nat}{g:Tg}{i:Ie}{t:Te}{e:Ex}{σ:DS}{xs:List D}(h:D→D)(ho:outT σ.length g=true)(hi:ei C i σ m=some (⟨xs,none⟩,m))(hl:xs.length≤1000)
  (hf:∀ d∈xs,∃ σ1,bindT g d (σ++List.replicate k none)=some σ1∧et C t σ1 m=some (true,m)∧ev C e σ1 m=some (h d,m)):ev C (.comp false k g i t e) σ m=some (.lst (xs.map h),m):=by
 have:=ev_comp (C:=C) (k:=k) (g:=g) (i:=i) (t:=t) (e:=e) (h:=fun d=>some (h d)) ho hi hl (fun d hd=>by
  obtain⟨σ1,e1,e2,e3⟩:=hf d hd
  exact⟨σ1,true,e1,e2,by rw[if_pos rfl];exact⟨rfl,e3⟩⟩)
 rw[this,List.filterMap_eq_map']
end
@[simp] theorem sev_1 {C:String→List D→Mem→Option (D×Mem)}:ev C (.var i) σ m=match σ[i]? with | some (some d)=>some (d,m) | _=>none:=rfl
@[simp] theorem sev_2 {C:String→List D→Mem→Option (D×Mem)}:ev C (.con d) q0 m=some (d,m):=rfl
@[simp] theorem sev_3 {C:String→List D→Mem→Option (D×Mem)}:ev C (.bin o a b) σ m=(ev C a σ m).bind fun(x,m1)=>(ev C b σ m1).bind fun(y,m2)=>binD o x y m2:=rfl
@[simp] theorem sev_4 {C:String→List D→Mem→Option (D×Mem)}:ev C (.cat mu a b) σ m=(ev C a σ m).bind fun(x,m1)=>(ev C b σ m1).bind fun(y,m2)=>match x,y with
  | .lst xs,.lst ys=>if xs.length+ys.length≤10000 then some (mkL mu (xs++ys) m2) else none
  | _,_=>none:=rfl
@[simp] theorem sev_5 {C:String→List D→Mem→Option (D×Mem)}:ev C (.cmp o a b) σ m=(ev C a σ m).bind fun(x,m1)=>(ev C b σ m1).bind fun(y,m2)=>(cmpD o x y).map fun c=>(.bl c,m2):=rfl
@[simp] theorem sev_6 {C:String→List D→Mem→Option (D×Mem)}:ev C (.chain o p a b c) σ m=(ev C a σ m).bind fun(x,m1)=>(ev C b σ m1).bind fun(y,m2)=>(cmpD o x y).bind fun k=>if k then (ev C c σ m2).bind fun(z,m3)=>(cmpD p y z).map fun c=>(.bl c,m3) else some (.bl false,m2):=rfl
@[simp] theorem sev_7 {C:String→List D→Mem→Option (D×Mem)}:ev C (.notv a) σ m=(ev C a σ m).bind fun(x,m1)=>match x with | .bl b=>some (.bl !b,m1) | _=>none:=rfl
@[simp] theorem sev_8 {C:String→List D→Mem→Option (D×Mem)}:ev C (.andv a b) σ m=(ev C a σ m).bind fun(x,m1)=>match x with | .bl true=>ev C b σ m1 | .bl false=>some (.bl false,m1) | _=>none:=rfl
@[simp] theorem sev_9 {C:String→List D→Mem→Option (D×Mem)}:ev C (.orv a b) σ m=(ev C a σ m).bind fun(x,m1)=>match x with | .bl true=>some (.bl true,m1) | .bl false=>ev C b σ m1 | _=>none:=rfl
@[simp] theorem sev_10 {C:String→List D→Mem→Option (D×Mem)}:ev C (.ife t a b) σ m=(et C t σ m).bind fun(c,m1)=>if c then ev C a σ m1 else ev C b σ m1:=rfl
@[simp] theorem sev_11 {C:String→List D→Mem→Option (D×Mem)}:ev C (.tup as) σ m=(evs C as σ m).bind fun(xs,m1)=>if xs.length≤1000 then some (.tup xs,m1) else none:=rfl
@[simp] theorem sev_12 {C:String→List D→Mem→Option (D×Mem)}:ev C (.lst mu as) σ m=(evs C as σ m).bind fun(xs,m1)=>if xs.length≤1000 then some (mkL mu xs m1) else none:=rfl
@[simp] theorem sev_13 {C:String→List D→Mem→Option (D×Mem)}:ev C (.dic mu ks as) σ m=(evs C as σ m).bind fun(xs,m1)=>if xs.length=ks.length∧ks.length≤15 then some (mkD mu (putsD [] [] ks xs).1 (putsD [] [] ks xs).2 m1) else none:=rfl
@[simp] theorem sev_14 {C:String→List D→Mem→Option (D×Mem)}:ev C (.ix a b) σ m=(ev C a σ m).bind fun(x,m1)=>(ev C b σ m1).bind fun(y,m2)=>(ixD x y m2).map fun d=>(d,m2):=rfl
@[simp] theorem sev_15 {C:String→List D→Mem→Option (D×Mem)}:ev C (.ixd a b) σ m=(ev C a σ m).bind fun(x,m1)=>(ev C b σ m1).bind fun(y,m2)=>(dctOf x m2).bind fun(ks,vs)=>(keyD y).bind fun k=>(lookD ks vs k).map fun d=>(d,m2):=rfl
@[simp] theorem sev_16 {C:String→List D→Mem→Option (D×Mem)}:ev C (.ind a b) σ m=(ev C a σ m).bind fun(x,m1)=>(ev C b σ m1).bind fun(y,m2)=>(dctOf y m2).bind fun(ks,vs)=>(keyD x).map fun k=>(.bl (lookD ks vs k).isSome,m2):=rfl
@[simp] theorem sev_17 {C:String→List D→Mem→Option (D×Mem)}:ev C (.nind a b) σ m=(ev C a σ m).bind fun(x,m1)=>(ev C b σ m1).bind fun(y,m2)=>(dctOf y m2).bind fun(ks,vs)=>(keyD x).map fun k=>(.bl (!(lookD ks vs k).isSome),m2):=rfl
@[simp] theorem sev_18 {C:String→List D→Mem→Option (D×Mem)}:ev C (.sl a lo hi) σ m=(ev C a σ m).bind fun(x,m1)=>(eo C lo σ m1).bind fun(l,m2)=>(eo C hi σ m2).bind fun(h,m3)=>(slD x l h).map fun d=>(d,m3):=rfl
@[simp] theorem sev_19 {C:String→List D→Mem→Option (D×Mem)}:ev C (.call f as) σ m=(evs C as σ m).bind fun(xs,m1)=>C f xs m1:=rfl
@[simp] theorem sev_20 {C:String→List D→Mem→Option (D×Mem)}:ev C (.b1 b a) σ m=(ev C a σ m).bind fun(x,m1)=>b1D b x m1:=rfl
@[simp] theorem sev_21 {C:String→List D→Mem→Option (D×Mem)}:ev C (.max2 a b) σ m=(ev C a σ m).bind fun(x,m1)=>(ev C b σ m1).bind fun(y,m2)=>match x,y with | .int i,.int j=>some (.int (if j > i then j else i),m2) | _,_=>none:=rfl
@[simp] theorem sev_22 {C:String→List D→Mem→Option (D×Mem)}:ev C (.get d k z) σ m=(ev C d σ m).bind fun(x,m1)=>(dctOf x m1).bind fun _=>(ev C k σ m1).bind fun(y,m2)=>(ev C z σ m2).bind fun(u,m3)=>(dctOf x m3).bind fun(ks,vs)=>(keyD y).map fun k=>((lookD ks vs k).getD u,m3):=rfl
@[simp] theorem sev_23 {C:String→List D→Mem→Option (D×Mem)}:ev C (.pop a) σ m=(ev C a σ m).bind fun(x,m1)=>match x with
  | .mref i=>match m1[i]? with
   | some (.lst xs)=>(xs[xs.length-1]?).map fun d=>(d,m1.set i (.lst xs.dropLast))
   | _=>none
  | _=>none:=rfl
@[simp] theorem sev_24 {C:String→List D→Mem→Option (D×Mem)}:ev C (.app l a) σ m=(ev C l σ m).bind fun(x,m1)=>(lstOf x m1).bind fun _=>(ev C a σ m1).bind fun(y,m2)=>match x with
  | .mref i=>match m2[i]? with
   | some (.lst xs)=>if y.clean&&decide (xs.length<100000) then some (.non,m2.set i (.lst (xs++[y]))) else none
   | _=>none
  | _=>none:=rfl
@[simp] theorem sev_25 {C:String→List D→Mem→Option (D×Mem)}:ev C (.ext l a) σ m=(ev C l σ m).bind fun(x,m1)=>(lstOf x m1).bind fun _=>(ev C a σ m1).bind fun(y,m2)=>match x with
  | .mref i=>match m2[i]?,y with
   | some (.lst xs),.lst ys=>if D.clean.cleans ys&&decide (xs.length+ys.length≤100000) then some (.non,m2.set i (.lst (xs++ys))) else none
   | some (.lst xs),.tup ys=>if D.clean.cleans ys&&decide (xs.length+ys.length≤100000) then some (.non,m2.set i (.lst (xs++ys))) else none
   | _,_=>none
  | _=>none:=rfl
@[simp] theorem sev_26 {C:String→List D→Mem→Option (D×Mem)}:ev C (.index l a) σ m=(ev C l σ m).bind fun(x,m1)=>(lstOf x m1).bind fun _=>(ev C a σ m1).bind fun(y,m2)=>(lstOf x m2).bind fun xs=>if y.flat&&xs.all D.flat&&decide (xs.length<1000) then (findD y xs 0).map fun(k:Nat)=>(D.int (k:Int),m2) else none:=rfl
@[simp] theorem sev_27 {C:String→List D→Mem→Option (D×Mem)}:ev C (.join s l) σ m=(ev C s σ m).bind fun(x,m1)=>(ev C l σ m1).bind fun(y,m2)=>match x with
  | .str sep=>(lstOf y m2).bind fun xs=>(strsOf xs).bind fun ys=>if (ys.map (·.length)).sum+ys.length*sep.length≤100000 then some (.str (Txt.join sep ys),m2) else none
  | _=>none:=rfl
@[simp] theorem sev_29 {C:String→List D→Mem→Option (D×Mem)}:ev C (.lzip mu a b) σ m=(ev C a σ m).bind fun(x,m1)=>(ev C b σ m1).bind fun(y,m2)=>match x,y with
  | .lst xs,.lst ys=>if xs.length≤1000 then some (mkL mu (zipD xs ys) m2) else none
  | _,_=>none:=rfl
@[simp] theorem sev_30 {C:String→List D→Mem→Option (D×Mem)}:ev C (.maxd a z) σ m=(ev C a σ m).bind fun(x,m1)=>(lstOf x m1).bind fun xs=>(intsOf xs).map fun ns=>(.int ((maxL ns).getD z),m1):=rfl
@[simp] theorem sev_31 {C:String→List D→Mem→Option (D×Mem)}:ev C (.inTxt a b) σ m=(ev C a σ m).bind fun(x,m1)=>(ev C b σ m1).bind fun(y,m2)=>match x,y with
  | .str i,.str j=>some (.bl (!(Builtin.Str.occurrences j i 0 j.length 1).isEmpty),m2)
  | _,_=>none:=rfl
@[simp] theorem sev_32 {C:String→List D→Mem→Option (D×Mem)}:ev C .fdic σ m=some (.mref m.length,m++[.fd []]):=rfl
@[simp] theorem sevs_1 {C:String→List D→Mem→Option (D×Mem)}:evs C .nil q0 m=some ([],m):=rfl
@[simp] theorem sevs_2 {C:String→List D→Mem→Option (D×Mem)}:evs C (.cons a r) σ m=(ev C a σ m).bind fun(x,m1)=>(evs C r σ m1).map fun(xs,m2)=>(x::xs,m2):=rfl
@[simp] theorem set_1 {C:String→List D→Mem→Option (D×Mem)}:et C (.val a) σ m=(ev C a σ m).bind fun(x,m1)=>(truD x m1).map fun c=>(c,m1):=rfl
@[simp] theorem set_2 {C:String→List D→Mem→Option (D×Mem)}:et C (.and a b) σ m=(et C a σ m).bind fun(c,m1)=>if c then et C b σ m1 else some (false,m1):=rfl
@[simp] theorem set_3 {C:String→List D→Mem→Option (D×Mem)}:et C (.or a b) σ m=(et C a σ m).bind fun(c,m1)=>if c then some (true,m1) else et C b σ m1:=rfl
@[simp] theorem set_4 {C:String→List D→Mem→Option (D×Mem)}:et C (.not a) σ m=(et C a σ m).map fun(c,m1)=>(!c,m1):=rfl
@[simp] theorem set_5 {C:String→List D→Mem→Option (D×Mem)}:et C .tt q0 m=some (true,m):=rfl
@[simp] theorem seo_1 {C:String→List D→Mem→Option (D×Mem)}:eo C .no q0 m=some (none,m):=rfl
@[simp] theorem seo_2 {C:String→List D→Mem→Option (D×Mem)}:eo C (.pt a) σ m=(ev C a σ m).bind fun(x,m1)=>match x with | .int i=>some (some i,m1) | _=>none:=rfl
@[simp] theorem sei_1 {C:String→List D→Mem→Option (D×Mem)}:ei C (.seq a) σ m=(ev C a σ m).bind fun(x,m1)=>(seqOf x m1).map fun xs=>(⟨xs,match x with | .mref i=>some i | _=>none⟩,m1):=rfl
@[simp] theorem sei_2 {C:String→List D→Mem→Option (D×Mem)}:ei C (.rng a) σ m=(ev C a σ m).bind fun(x,m1)=>match x with | .int j=>if -(2 ^ 62)≤j∧j<2 ^ 62 then some (⟨(List.range j.toNat).map fun(i:Nat)=>.int i,none⟩,m1) else none | _=>none:=rfl
@[simp] theorem sei_3 {C:String→List D→Mem→Option (D×Mem)}:ei C (.rng2 a b) σ m=(ev C a σ m).bind fun(x,m1)=>(ev C b σ m1).bind fun(y,m2)=>match x,y with
  | .int i,.int j=>if -(2 ^ 62)≤i∧i<2 ^ 62∧-(2 ^ 62)≤j∧j<2 ^ 62 then some (⟨(List.range (j-i).toNat).map fun(n:Nat)=>.int (i+n),none⟩,m2) else none
  | _,_=>none:=rfl
@[simp] theorem sei_4 {C:String→List D→Mem→Option (D×Mem)}:ei C (.enum a) σ m=(ev C a σ m).bind fun(x,m1)=>match x with | .lst xs=>some (⟨enumD xs 0,none⟩,m1) | _=>none:=rfl
@[simp] theorem sei_5 {C:String→List D→Mem→Option (D×Mem)}:ei C (.zip a b) σ m=(ev C a σ m).bind fun(x,m1)=>(ev C b σ m1).bind fun(y,m2)=>match x,y with
  | .lst xs,.lst ys=>some (⟨zipD xs ys,none⟩,m2)
  | .tup xs,.tup ys=>some (⟨zipD xs ys,none⟩,m2)
  | _,_=>none:=rfl
@[simp] theorem sei_6 {C:String→List D→Mem→Option (D×Mem)}:ei C (.txt a) σ m=(ev C a σ m).bind fun(x,m1)=>match x with | .str z=>if z.length≤1000 then some (⟨z.cps.toList.map fun(c:Nat)=>.str ⟨#[c]⟩,none⟩,m1) else none | _=>none:=rfl
@[simp] theorem sex_1 {C:String→List D→Mem→Option (D×Mem)} {W:Nat}:ex C W (.set i a) σ m=(ev C a σ m).map fun(x,m1)=>(.nx (σ.set i (some x)),m1):=rfl
@[simp] theorem sex_2 {C:String→List D→Mem→Option (D×Mem)} {W:Nat}:ex C W (.asg g a) σ m=(ev C a σ m).bind fun(x,m1)=>(bindT g x σ).map fun σ'=>(.nx σ',m1):=rfl
@[simp] theorem sex_3 {C:String→List D→Mem→Option (D×Mem)} {W:Nat}:ex C W (.put d k v) σ m=(ev C v σ m).bind fun(z,m1)=>(ev C d σ m1).bind fun(x,m2)=>(ev C k σ m2).bind fun(y,m3)=>match x with
  | .mref i=>match m3[i]?,keyD y with
   | some (.dct ks vs),some k=>if z.clean&&decide (ks.length<10000) then some (.nx σ,m3.set i (.dct (putD ks vs k z).1 (putD ks vs k z).2)) else none
   | _,_=>none
  | _=>none:=rfl
@[simp] theorem sex_9 {C:String→List D→Mem→Option (D×Mem)} {W:Nat}:ex C W (.fput d k) σ m=(ev C d σ m).bind fun(x,m1)=>(ev C k σ m1).bind fun(y,m2)=>match x with
  | .mref i=>match m2[i]?,fkD y with
   | some (.fd ks),some k=>if ks.length<10000 then some (.nx σ,m2.set i (.fd (addF ks k))) else none
   | _,_=>none
  | _=>none:=rfl
@[simp] theorem sex_4 {C:String→List D→Mem→Option (D×Mem)} {W:Nat}:ex C W (.drop a) σ m=(ev C a σ m).map fun(_,m1)=>(.nx σ,m1):=rfl
@[simp] theorem sex_5 {C:String→List D→Mem→Option (D×Mem)} {W:Nat}:ex C W (.ret a) σ m=(ev C a σ m).map fun(x,m1)=>(.rt x,m1):=rfl
@[simp] theorem sex_6 {C:String→List D→Mem→Option (D×Mem)} {W:Nat}:ex C W (.ite t a b) σ m=(et C t σ m).bind fun(c,m1)=>if c then exs C W a σ m1 else exs C W b σ m1:=rfl
@[simp] theorem sexs_1 {C:String→List D→Mem→Option (D×Mem)} {W:Nat}:exs C W .nil σ m=some (.nx σ,m):=rfl
@[simp] theorem sexs_2 {C:String→List D→Mem→Option (D×Mem)} {W:Nat}:exs C W (.cons s r) σ m=(ex C W s σ m).bind fun(o,m1)=>match o with
  | .nx σ'=>exs C W r σ' m1
  | .rt d=>some (.rt d,m1):=rfl
@[simp] theorem sbt_1 {i:Nat} {d:D} {σ:DS}:bindT (.nm i) d σ=some (σ.set i (some d)):=by rw[bindT]
@[simp] theorem sbt_2 {ts:List Tg} {xs:List D} {σ:DS}:bindT (.tp ts) (.tup xs) σ=if ts.length=xs.length then bindTs ts xs σ else none:=by rw[bindT]
@[simp] theorem sbts_1 {σ:DS}:bindTs [] [] σ=some σ:=by rw[bindTs]
@[simp] theorem sbts_2 {t:Tg} {ts:List Tg} {x:D} {xs:List D} {σ:DS}:bindTs (t::ts) (x::xs) σ=(bindT t x σ).bind fun σ'=>bindTs ts xs σ':=by rw[bindTs]
@[simp] theorem sot_1 {n i:Nat}:outT n (.nm i)=decide (n≤i):=by rw[outT]
@[simp] theorem sot_2 {n:Nat} {ts:List Tg}:outT n (.tp ts)=outT.outTs n ts:=by rw[outT]
@[simp] theorem sots_1 {n:Nat}:outT.outTs n []=true:=by rw[outT.outTs]
@[simp] theorem sots_2 {n:Nat} {t:Tg} {r:List Tg}:outT.outTs n (t::r)=(outT n t&&outT.outTs n r):=by rw[outT.outTs]
end WL
end
section
namespace WL
open PySem L2
section
variable{C:String→List D→Mem→Option (D×Mem)}{W:Nat}{m m1 m2:Mem}{σ σ':DS}{r a b:Sms}{X:Option (Out×Mem)}{e:Ex}{t:Te}{d:D}{i:Nat}{g:Tg}
theorem xs_set(h:ev C e σ m=some (d,m1))(k:exs C W r (σ.set i (some d)) m1=X):exs C W (.cons (.set i e) r) σ m=X:=by
 show ((ev C e σ m).map _).bind _=_;rw[h];exact k
theorem xs_asg(h:ev C e σ m=some (d,m1))(hb:bindT g d σ=some σ')(k:exs C W r σ' m1=X):exs C W (.cons (.asg g e) r) σ m=X:=by
 show ((ev C e σ m).bind _).bind _=_;rw[h];show ((bindT g d σ).map _).bind _=X;rw[hb];exact k
theorem xs_ret(h:ev C e σ m=some (d,m1)):exs C W (.cons (.ret e) r) σ m=some (.rt d,m1):=by
 show ((ev C e σ m).map _).bind _=_;rw[h];rfl
theorem xs_no(h:et C t σ m=some (false,m1))(k:exs C W r σ m1=X):exs C W (.cons (.ite t a .nil) r) σ m=X:=by
 show ((et C t σ m).bind _).bind _=_;rw[h];show (exs C W .nil σ m1).bind _=X;exact k
theorem xs_yes(h:et C t σ m=some (true,m1))(k:exs C W a σ m1=some (.rt d,m2)):exs C W (.cons (.ite t a b) r) σ m=some (.rt d,m2):=by
 show ((et C t σ m).bind _).bind _=_;rw[h];show (exs C W a σ m1).bind _=_;rw[k];rfl
theorem xs_yesn(h:et C t σ m=some (true,m1))(k:exs C W a σ m1=some (.nx σ',m2))(q:exs C W r σ' m2=X):exs C W (.cons (.ite t a b) r) σ m=X:=by
 show ((et C t σ m).bind _).bind _=_;rw[h];show (exs C W a σ m1).bind _=_;rw[k];exact q
theorem sex_8{i:Ie}:ex C W (.fr g i b) σ m=(ei C i σ m).bind fun(w,m1)=>forL w g (fun σ m=>exs C W b σ m) w.xs σ m1:=rfl
theorem et_p{p:Prop}[Decidable p](h:et C t σ m=some (decide p,m1))(hp:p):et C t σ m=some (true,m1):=by
 rw[h,decide_eq_true hp]
theorem et_n{p:Prop}[Decidable p](h:et C t σ m=some (decide p,m1))(hp:¬ p):et C t σ m=some (false,m1):=by
 rw[h,decide_eq_false hp]
theorem et_b{c c':Bool}(h:et C t σ m=some (c,m1))(hc:c=c'):et C t σ m=some (c',m1):=hc▸h
theorem et_and{s:Te}{c:Bool}(h:et C t σ m=some (true,m1))(k:et C s σ m1=some (c,m2)):et C (.and t s) σ m=some (c,m2):=by
 show (et C t σ m).bind _=_;rw[h];exact k
theorem et_andf{s:Te}(h:et C t σ m=some (false,m1)):et C (.and t s) σ m=some (false,m1):=by
 show (et C t σ m).bind _=_;rw[h];rfl
theorem et_val{c:Bool}(h:ev C e σ m=some (d,m1))(k:truD d m1=some c):et C (.val e) σ m=some (c,m1):=by
 show (ev C e σ m).bind _=_;rw[h];show (truD d m1).map _=_;rw[k];rfl
theorem ev_call{f:String}{as:Exs}{xs:List D}{z:D×Mem}(k:C f xs m1=some z)(h:evs C as σ m=some (xs,m1)):ev C (.call f as) σ m=some z:=by
 show (evs C as σ m).bind _=_;rw[h];exact k
theorem evs_cons{as:Exs}{xs:List D}(h:ev C e σ m=some (d,m1))(k:evs C as σ m1=some (xs,m2)):evs C (.cons e as) σ m=some (d::xs,m2):=by
 show (ev C e σ m).bind _=_;rw[h];show (evs C as σ m1).map _=_;rw[k];rfl
theorem ev_bin{o:BOp}{e2:Ex}{d2:D}{z:D×Mem}(h:ev C e σ m=some (d,m1))(k:ev C e2 σ m1=some (d2,m2))(q:binD o d d2 m2=some z):ev C (.bin o e e2) σ m=some z:=by
 show (ev C e σ m).bind _=_;rw[h];show (ev C e2 σ m1).bind _=_;rw[k];exact q
theorem ev_cat{e2:Ex}{xs ys:List D}(h:ev C e σ m=some (.lst xs,m1))(k:ev C e2 σ m1=some (.lst ys,m2))(hl:xs.length+ys.length≤10000):ev C (.cat false e e2) σ m=some (.lst (xs++ys),m2):=by
 show (ev C e σ m).bind _=_;rw[h];show (ev C e2 σ m1).bind _=_;rw[k];show (if xs.length+ys.length≤10000 then some (mkL false (xs++ys) m2) else none)=_;rw[if_pos hl];rfl
theorem ev_ix{e2:Ex}{d2 d3:D}(h:ev C e σ m=some (d,m1))(k:ev C e2 σ m1=some (d2,m2))(q:ixD d d2 m2=some d3):ev C (.ix e e2) σ m=some (d3,m2):=by
 show (ev C e σ m).bind _=_;rw[h];show (ev C e2 σ m1).bind _=_;rw[k];show (ixD d d2 m2).map _=_;rw[q];rfl
theorem ev_tup{as:Exs}{xs:List D}(h:evs C as σ m=some (xs,m1))(hl:xs.length≤1000):ev C (.tup as) σ m=some (.tup xs,m1):=by
 show (evs C as σ m).bind _=_;rw[h];show (if xs.length≤1000 then some (D.tup xs,m1) else none)=_;rw[if_pos hl]
theorem ev_max2{e2:Ex}{i j:Int}(h:ev C e σ m=some (.int i,m1))(k:ev C e2 σ m1=some (.int j,m2)):ev C (.max2 e e2) σ m=some (.int (if j > i then j else i),m2):=by
 show (ev C e σ m).bind _=_;rw[h];show (ev C e2 σ m1).bind _=_;rw[k];rfl
theorem et_or2{s:Te}{c c2:Bool}(h:et C t σ m=some (c,m1))(k:et C s σ m1=some (c2,m1)):et C (.or t s) σ m=some (c||c2,m1):=by
 show (et C t σ m).bind _=_;rw[h];cases c
 ·exact k
 ·rfl
theorem tru_ne{xs:List D}(h:xs≠[]):truD (.lst xs) m=some true:=by
 cases xs with
 | nil=>exact absurd rfl h
 | cons a r=>rfl
theorem ev_b1{o:B1}{z:D×Mem}(h:ev C e σ m=some (d,m1))(q:b1D o d m1=some z):ev C (.b1 o e) σ m=some z:=by
 show (ev C e σ m).bind _=_;rw[h];exact q
end
end WL
end
section
namespace T
open PySem L2 WL WW
def mixv(c p k:Int):Int:=c*48271 % p % k
theorem mixv_r(c p:Int){k:Int}(h:0<k):0≤mixv c p k∧mixv c p k<k:=⟨Int.emod_nonneg _ (by omega),Int.emod_lt_of_pos _ h⟩
def cellv(ns:List Int)(k:Nat):Int:=ns.getD k 0
section
variable{W:Nat}{Γ:String→Option Fn}{n:Nat}{m:Mem}
theorem c_mix(H:Γ "_law_mix" = some F_qmix){c p k:Int}(hp:0<p)(hk:0<k):callI W Γ (n+1) "_law_mix" [.int c,.int p,.int k] m=some (.int (mixv c p k),m):=by
 refine call_ret H rfl rfl ?_
 simp[F_qmix,b_qmix,bin_mulR,bin_mod,hp,hk,mixv]
theorem c_cell(H:Γ "_law_cell" = some F_qcell){ns:List Int}{k:Nat}:callI W Γ (n+1) "_law_cell" [.scr ns,.int k] m=some (.int (cellv ns k),m):=by
 refine call_ret H rfl rfl ?_
 have e:b1D .len (.scr ns) m=some (.int ns.length,m):=by
  show some (D.int ((ns.map D.int).length:Nat),m)=_
  rw[List.length_map]
 by_cases h:k<ns.length
 ·simp[F_qcell,b_qcell,e,h,at_nat,cellv]
 ·simp[F_qcell,b_qcell,e,h,cellv]
end
end T
end
section
namespace T
open PySem L2 WL WW
theorem letters:(Str.ofString "abcdefghijklmnopqrstuvwxyz").cps.toList=(List.range 26).map (97+·):=by decide +kernel
theorem letters_len:(Str.ofString "abcdefghijklmnopqrstuvwxyz").length=26:=by decide +kernel
theorem ix_letter{m:Mem}{i:Int}(h0:0≤i)(h1:i<26):ixD (.str (Str.ofString "abcdefghijklmnopqrstuvwxyz")) (.int i) m=some (.str ⟨#[97+i.toNat]⟩):=by
 simp only[ixD]
 rw[if_pos (by rw[letters_len];omega),letters]
 obtain⟨k,rfl⟩:=Int.eq_ofNat_of_zero_le h0
 rw[at_nat]
 have:k<26:=by omega
 simp[this]
theorem glue3{l:List Nat}(h:l.length≤2):Txt.join (Str.ofString "") (l.map fun c=>⟨#[c]⟩)=⟨l.toArray⟩:=by
 match l,h with
 | [],_=>decide
 | [a],_=>rfl
 | [a,b],_=>rfl
theorem strs_of(l:List Str):strsOf (l.map .str)=some l:=by
 induction l with
 | nil=>rfl
 | cons a r ih=>simp[strsOf,ih]
theorem strs_of2(l:List Nat):strsOf (l.map fun q=>.str ⟨#[q]⟩)=some (l.map fun q=>⟨#[q]⟩):=by
 have:=strs_of (l.map fun q=>⟨#[q]⟩)
 rw[List.map_map]at this
 exact this
theorem len_str{z:Str}{m:Mem}(h:z.length≤1000):b1D .len (.str z) m=some (.int z.length,m):=if_pos h
theorem sl_to{z:Str}{j:Int}(h:z.length≤1000)(h0:0≤j)(h1:j≤z.cps.toList.length):slD (.str z) none (some j)=some (.str ⟨(z.cps.toList.take j.toNat).toArray⟩):=by
 simp only[slD,h,if_true]
 rw[StrLaws.sliceText_to ⟨h0,h1⟩,List.drop_zero,Int.sub_zero]
theorem sl_from{z:Str}{j:Int}(h:z.length≤1000)(h0:0≤j)(h1:j≤z.cps.toList.length):slD (.str z) (some j) none=some (.str ⟨(z.cps.toList.drop j.toNat).toArray⟩):=by
 simp only[slD,h,if_true]
 rw[StrLaws.sliceText_from ⟨h0,h1⟩,List.take_of_length_le (by simp only[List.length_drop];omega)]
def tailL(c:Int):List Nat:=(List.range (mixv c 9931 3).toNat).map fun(j:Nat)=>97+(mixv (c+3*j) 9941 26).toNat
def atL(c:Int):Int:=mixv c 9929 ((tailL c).length+1)
def signL(c:Int)(k:Nat):Nat:=97+((mixv c 9949 26+5*k) % 26).toNat
def nameL(c:Int)(k:Nat):Str:=⟨((tailL c).take (atL c).toNat++[signL c k]++(tailL c).drop (atL c).toNat).toArray⟩
theorem tail_len(c:Int):(tailL c).length≤2:=by
 have:=mixv_r c 9931 (k:=3) (by omega)
 simp only[tailL,List.length_map,List.length_range]
 omega
theorem atL_r(c:Int):0≤atL c∧atL c≤(tailL c).length:=by
 have:=mixv_r c 9929 (k:=(tailL c).length+1) (by omega)
 unfold atL
 omega
section
variable{W:Nat}{Γ:String→Option Fn}{n:Nat}{m:Mem}
theorem c_name(Hm:Γ "_law_mix" = some F_qmix)(Hc:Γ "_law_cell" = some F_qcell)(H:Γ "_law_name" = some F_qname){ns:List Int}{k:Nat}:callI W Γ (n+2) "_law_name" [.scr ns,.int k] m=some (.str (nameL (cellv ns 0) k),m):=by
 refine call_ret H rfl rfl ?_
 have hc:=c_cell (W:=W) (n:=n) (m:=m) Hc (ns:=ns) (k:=0)
 rw[Int.natCast_zero]at hc
 generalize cellv ns 0=c at hc ⊢
 have r1:=mixv_r c 9931 (k:=3) (by omega)
 have r2:=tail_len c
 have r3:=atL_r c
 have comp:∀ x y z,ev (callI W Γ (n+1)) (.comp false 1 (.nm 7) (.rng (.call "_law_mix" (.cons (.var 3) (.cons (.con (.int 9931)) (.cons (.con (.int 3)) .nil))))) .tt (.ix (.var 2) (.call "_law_mix" (.cons (.bin .add (.var 3) (.bin .mul (.con (.int 3)) (.var 7))) (.cons (.con (.int 9941)) (.cons (.con (.int 26)) .nil)))))) [some (.scr ns),some (.int k),some (.str (Str.ofString "abcdefghijklmnopqrstuvwxyz")),some (.int c),x,y,z] m=some (.lst ((tailL c).map fun q=>.str ⟨#[q]⟩),m):=by
  intro x y z
  rw[ev_comp_map (xs:=(List.range (mixv c 9931 3).toNat).map fun(i:Nat)=>.int i) (fun d=>match d with | .int j=>.str ⟨#[97+(mixv (c+3*j) 9941 26).toNat]⟩ | _=>.non) (by simp) (by simp[c_mix Hm];omega) (by simp;omega)]
  ·simp[tailL,Function.comp_def]
  ·intro d hd
   obtain⟨j,hj,rfl⟩:=List.mem_map.mp hd
   have r4:=mixv_r (c+3*j) 9941 (k:=26) (by omega)
   refine⟨[some (.scr ns),some (.int k),some (.str (Str.ofString "abcdefghijklmnopqrstuvwxyz")),some (.int c),x,y,z,some (.int j)],by simp,by simp,?_⟩
   simp[c_mix Hm,bin_mulL,ix_letter,r4]
 have r5:0≤(mixv c 9949 26+5*k) % 26∧(mixv c 9949 26+5*k) % 26<26:=by omega
 have join:=glue3 r2
 have hs:(((tailL c).map fun q=>(⟨#[q]⟩:Str)).map (·.length)).sum+((tailL c).map fun q=>(⟨#[q]⟩:Str)).length*(Str.ofString "").length≤100000:=by
  have:(Str.ofString "").length=0:=by decide
  rw[this]
  match tailL c,r2 with
  | [],_=>simp
  | [a],_=>simp[Str.length]
  | [a,b],_=>simp[Str.length]
 have l0:(⟨(tailL c).toArray⟩:Str).length≤1000:=by
  show (tailL c).toArray.size≤1000
  simp;omega
 have l1:(⟨(tailL c).toArray⟩:Str).length=(tailL c).length:=by show (tailL c).toArray.size=_;simp
 have e1:mixv c 9929 ((tailL c).length+1)=atL c:=rfl
 have s1:=sl_to l0 r3.1 (by simpa using r3.2)
 have s2:=sl_from l0 r3.1 (by simpa using r3.2)
 simp only[]at s1 s2
 have a1:(⟨((tailL c).take (atL c).toNat).toArray⟩:Str).length≤2:=by show ((tailL c).take (atL c).toNat).toArray.size≤2;simp;omega
 have a2:(⟨((tailL c).drop (atL c).toNat).toArray⟩:Str).length≤2:=by show ((tailL c).drop (atL c).toNat).toArray.size≤2;simp;omega
 simp[F_qname,b_qname,hc,c_mix Hm,bin_mulL,bin_mod,ix_letter,r5,comp,lstOf,strs_of2]
 rw[if_pos (by simpa using hs)]
 simp[join,len_str l0,l1]
 rw[c_mix Hm (by omega) (by omega),e1]
 simp[s1,s2]
 have p1:∀ (a b:List Nat),(⟨a.toArray⟩:Str)++(⟨b.toArray⟩:Str)=⟨(a++b).toArray⟩:=fun a b=>by
  show (⟨a.toArray++b.toArray⟩:Str)=_
  simp
 have b1:(⟨#[97+((mixv c 9949 26+5*k) % 26).toNat]⟩:Str).length=1:=rfl
 rw[bin_str (by rw[b1];omega)]
 have p2:=p1 ((tailL c).take (atL c).toNat) [97+((mixv c 9949 26+5*k) % 26).toNat]
 have b2:((⟨((tailL c).take (atL c).toNat).toArray⟩:Str)++(⟨#[97+((mixv c 9949 26+5*k) % 26).toNat]⟩:Str)).length≤3:=by
  rw[show (#[97+((mixv c 9949 26+5*k) % 26).toNat]:Array Nat)=[97+((mixv c 9949 26+5*k) % 26).toNat].toArray from rfl,p2]
  show ((tailL c).take (atL c).toNat++[97+((mixv c 9949 26+5*k) % 26).toNat]).toArray.size≤3
  simp;omega
 simp only[Option.bind_some,Function.comp]
 rw[bin_str (by omega),show (#[97+((mixv c 9949 26+5*k) % 26).toNat]:Array Nat)=[97+((mixv c 9949 26+5*k) % 26).toNat].toArray from rfl,p2,p1]
 rfl
end
theorem name_at(c:Int)(k:Nat):(nameL c k).cps.toList[(atL c).toNat]?=some (signL c k):=by
 have r:=atL_r c
 have:((tailL c).take (atL c).toNat).length=(atL c).toNat:=by simp;omega
 show ((tailL c).take (atL c).toNat++[signL c k]++(tailL c).drop (atL c).toNat)[(atL c).toNat]?=_
 rw[List.append_assoc,List.getElem?_append_right (by omega),this,Nat.sub_self]
 rfl
theorem name_inj{c:Int}{i j:Nat}(hi:i<4)(hj:j<4)(h:nameL c i=nameL c j):i=j:=by
 have h1:=name_at c i
 rw[h,name_at c j]at h1
 have h2:signL c j=signL c i:=Option.some.inj h1
 unfold signL at h2
 have:=mixv_r c 9949 (k:=26) (by omega)
 omega
def namesL(c:Int):List Str:=[nameL c 0,nameL c 1,nameL c 2,nameL c 3]
theorem names_nodup(c:Int):(namesL c).Nodup:=by
 have h:∀ {i j:Nat},i<4→j<4→i≠j→nameL c i≠nameL c j:=fun hi hj hn e=>hn (name_inj hi hj e)
 simp only[namesL,List.nodup_cons,List.mem_cons,List.not_mem_nil,or_false,not_or,not_false_eq_true,List.nodup_nil,and_true]
 exact⟨⟨h (by decide) (by decide) (by decide),h (by decide) (by decide) (by decide),h (by decide) (by decide) (by decide)⟩,⟨h (by decide) (by decide) (by decide),h (by decide) (by decide) (by decide)⟩,h (by decide) (by decide) (by decide)⟩
theorem name_ok(c:Int)(k:Nat):∀ q∈(nameL c k).cps.toList,97≤q∧q<123:=by
 intro q hq
 have hq:q∈(tailL c).take (atL c).toNat++[signL c k]++(tailL c).drop (atL c).toNat:=hq
 have ht:∀ q∈tailL c,97≤q∧q<123:=fun q hq=>by
  obtain⟨j,_,rfl⟩:=List.mem_map.mp hq
  have:=mixv_r (c+3*j) 9941 (k:=26) (by omega)
  omega
 simp only[List.mem_append,List.mem_singleton]at hq
 rcases hq with (hq | hq) | hq
 ·exact ht q (List.mem_of_mem_take hq)
 ·subst hq
  unfold signL
  omega
 ·exact ht q (List.mem_of_mem_drop hq)
section
variable{W:Nat}{Γ:String→Option Fn}{n:Nat}{m:Mem}
theorem c_names(Hm:Γ "_law_mix" = some F_qmix)(Hc:Γ "_law_cell" = some F_qcell)(Hn:Γ "_law_name" = some F_qname)(H:Γ "_law_names" = some F_qnames){ns:List Int}:callI W Γ (n+3) "_law_names" [.scr ns] m=some (.lst ((namesL (cellv ns 0)).map .str),m):=by
 refine call_ret H rfl (by simp[namesL]) ?_
 have comp:ev (callI W Γ (n+2)) (.comp false 1 (.nm 1) (.rng (.con (.int 4))) .tt (.call "_law_name" (.cons (.var 0) (.cons (.var 1) .nil)))) [some (.scr ns)] m=some (.lst ((namesL (cellv ns 0)).map .str),m):=by
  rw[ev_comp_map (xs:=(List.range 4).map fun(i:Nat)=>.int i) (fun d=>match d with | .int j=>.str (nameL (cellv ns 0) j.toNat) | _=>.non) (by simp) (by simp) (by simp)]
  ·simp[namesL,List.range,List.range.loop]
  ·intro d hd
   obtain⟨j,hj,rfl⟩:=List.mem_map.mp hd
   exact⟨[some (.scr ns),some (.int j)],by simp,by simp,by simp[c_name Hm Hc Hn]⟩
 simp[F_qnames,b_qnames,comp]
def levelsL(c:Int):List Int:=[0,2,mixv c 9923 3,mixv c 9907 3]
theorem levels_r(c:Int):∀ x∈levelsL c,0≤x∧x<3:=by
 have:=mixv_r c 9923 (k:=3) (by omega)
 have:=mixv_r c 9907 (k:=3) (by omega)
 intro x hx
 simp only[levelsL,List.mem_cons,List.not_mem_nil,or_false]at hx
 rcases hx with rfl | rfl | rfl | rfl<;>omega
theorem c_levels(Hm:Γ "_law_mix" = some F_qmix)(Hc:Γ "_law_cell" = some F_qcell)(H:Γ "_law_levels" = some F_qlevels){ns:List Int}:callI W Γ (n+2) "_law_levels" [.scr ns] m=some (.lst ((levelsL (cellv ns 1)).map .int),m):=by
 refine call_ret H rfl (by simp[levelsL]) ?_
 have hc:=c_cell (W:=W) (n:=n) (m:=m) Hc (ns:=ns) (k:=1)
 rw[Int.natCast_one]at hc
 simp[F_qlevels,b_qlevels,hc,c_mix Hm,levelsL,mkL]
end
end T
end
section
namespace T
open PySem L2 WL WW
def opS:Op→String
 | .sum=>"sum"
 | .times=>"times"
 | .less=>"less"
def dT:Tm Str→D
 | .num n=>.tup [.str (Str.ofString "number"),.int n]
 | .nam x=>.tup [.str (Str.ofString "name"),.str x]
 | .bin o a b=>.tup [.str (Str.ofString (opS o)),dT a,dT b]
theorem clean_T:∀ t:Tm Str,(dT t).clean=true
 | .num n=>rfl
 | .nam x=>rfl
 | .bin o a b=>by simp[dT,clean_T a,clean_T b]
theorem at_map{α β:Type}(f:α→β)(l:List α)(i:Int):atI (l.map f) i=(atI l i).map f:=by
 unfold atI
 rw[List.length_map]
 cases ixN l.length i with
 | none=>rfl
 | some j=>simp
theorem at_mem{α:Type}{l:List α}{i:Int}(h0:0≤i)(h1:i<l.length):∃ x∈l,atI l i=some x:=by
 obtain⟨k,rfl⟩:=Int.eq_ofNat_of_zero_le h0
 have hk:k<l.length:=by omega
 exact⟨l[k],List.getElem_mem hk,by rw[at_nat];exact List.getElem?_eq_getElem hk⟩
section
variable{W:Nat}{Γ:String→Option Fn}
theorem c_term(Hm:Γ "_law_mix" = some F_qmix)(H:Γ "_law_term" = some F_qterm){nm:List Str}(hl:nm.length=4):∀ (left:Nat) (seed:Int),∃ t:Tm Str,t.Ok (·∈nm)∧t.dep≤left∧∀ n m,callI W Γ (n+(left+2)) "_law_term" [.lst (nm.map .str),.int seed,.int left] m=some (dT t,m):=by
 intro left
 induction left with
 | zero=>
  intro seed
  have r1:=mixv_r seed 9887 (k:=997) (by omega)
  have r2:=mixv_r seed 9883 (k:=4) (by omega)
  obtain⟨x,hx,ex⟩:=at_mem (l:=nm) r2.1 (by omega)
  by_cases h:mixv seed 9901 9 % 3=0
  ·refine⟨.num (mixv seed 9887 997),r1,Nat.le_refl _,fun n m=>call_ret H rfl rfl ?_⟩
   simp[F_qterm,b_qterm,c_mix Hm,bin_mod,h,dT]
  ·refine⟨.nam x,hx,Nat.le_refl _,fun n m=>call_ret H rfl rfl ?_⟩
   simp[F_qterm,b_qterm,c_mix Hm,bin_mod,h,dT,at_map,ex]
 | succ left ih=>
  intro seed
  have r1:=mixv_r seed 9887 (k:=997) (by omega)
  have r2:=mixv_r seed 9883 (k:=4) (by omega)
  have r3:=mixv_r seed 9901 (k:=9) (by omega)
  obtain⟨x,hx,ex⟩:=at_mem (l:=nm) r2.1 (by omega)
  obtain⟨a,ha,da,ea⟩:=ih (seed*3+1)
  obtain⟨b,hb,db,eb⟩:=ih (seed*5+2)
  have hz:¬ ((left:Int)+1=0):=by omega
  have e0:∀ (n:Nat) (m:Mem) {c p k:Int},0<p→0<k→callI W Γ (n+(left+2)) "_law_mix" [.int c,.int p,.int k] m=some (.int (mixv c p k),m):=fun n m _ _ _ hp hk=>c_mix (n:=n+(left+1)) Hm hp hk
  have hs:(left:Int)+1-1=left:=by omega
  by_cases h3:mixv seed 9901 9<3
  ·by_cases h:mixv seed 9901 9 % 3=0
   ·refine⟨.num (mixv seed 9887 997),r1,Nat.zero_le _,fun n m=>call_ret H rfl rfl ?_⟩
    simp[F_qterm,b_qterm,e0,bin_mod,h,h3,hz,dT]
   ·refine⟨.nam x,hx,Nat.zero_le _,fun n m=>call_ret H rfl rfl ?_⟩
    simp[F_qterm,b_qterm,e0,bin_mod,h,h3,hz,dT,at_map,ex]
  ·have hq:∃ o:Op,atI [D.str (Str.ofString "sum"),.str (Str.ofString "times"),.str (Str.ofString "less")] (mixv seed 9901 9 % 3)=some (.str (Str.ofString (opS o))):=by
    have:mixv seed 9901 9 % 3=0∨mixv seed 9901 9 % 3=1∨mixv seed 9901 9 % 3=2:=by omega
    rcases this with e | e | e
    ·exact⟨.sum,by rw[e];rfl⟩
    ·exact⟨.times,by rw[e];rfl⟩
    ·exact⟨.less,by rw[e];rfl⟩
   obtain⟨o,eo⟩:=hq
   refine⟨.bin o a b,⟨ha,hb⟩,?_,fun n m=>call_ret (n:=n+(left+2)) H rfl (clean_T (.bin o a b)) ?_⟩
   ·simp only[Tm.dep];omega
   ·simp[F_qterm,b_qterm,e0,bin_mod,bin_mulR,h3,hz,hs,dT,ea,eb,eo,mkL]
theorem c_names_in(H:Γ "_law_names_in" = some F_qnames_in):∀ {t:Tm Str} {n:Nat} {m:Mem},t.dep<n→t.dep≤8→t.names.length≤2 ^ t.dep∧callI W Γ n "_law_names_in" [dT t] m=some (.lst (t.names.map .str),m)
 | .num k,n+1,m,h,_=>by
  refine⟨by simp[Tm.names],call_ret H rfl rfl ?_⟩
  simp[F_qnames_in,b_qnames_in,dT,Tm.names,mkL]
 | .nam x,n+1,m,h,_=>by
  refine⟨by simp[Tm.names,Tm.dep],call_ret H rfl rfl ?_⟩
  simp[F_qnames_in,b_qnames_in,dT,Tm.names,mkL]
 | .bin o a b,n+1,m,h,h8=>by
  simp only[Tm.dep]at h h8
  obtain⟨la,ea⟩:=c_names_in H (t:=a) (n:=n) (m:=m) (by omega) (by omega)
  obtain⟨lb,eb⟩:=c_names_in H (t:=b) (n:=n) (m:=m) (by omega) (by omega)
  have p1:2 ^ a.dep≤2 ^ (max a.dep b.dep):=Nat.pow_le_pow_right (by omega) (by omega)
  have p2:2 ^ b.dep≤2 ^ (max a.dep b.dep):=Nat.pow_le_pow_right (by omega) (by omega)
  have p3:2 ^ (max a.dep b.dep)≤2 ^ 7:=Nat.pow_le_pow_right (by omega) (by omega)
  have hl:(Tm.bin o a b).names.length≤2 ^ (max a.dep b.dep+1):=by
   simp only[Tm.names,List.length_append,Nat.pow_succ];omega
  refine⟨hl,call_ret H rfl ?_ ?_⟩
  ·have:∀ l:List Str,D.clean.cleans (l.map .str)=true:=fun l=>by
    induction l with
    | nil=>rfl
    | cons a r ih=>simp[ih]
   exact this _
  ·have o1:opS o≠"name":=by cases o<;>decide
   have o2:opS o≠"number":=by cases o<;>decide
   have hs:a.names.length+b.names.length≤10000:=by omega
   simp[F_qnames_in,b_qnames_in,dT,Tm.names,mkL,ea,eb,o1,o2,hs]
def ksOf(sn:List Str):List Key:=sn.map .inr
def vsOf(sn:List Str)(f:Str→Int):List D:=sn.map fun x=>.int (f x)
end
end T
end
section
namespace T
open PySem L2 WL WW
mutual
def dD:Dd Str→D
 | .put x t=>.tup [.str (Str.ofString "put"),.str x,dT t]
 | .sho l t=>.tup [.str (Str.ofString "show"),.int l,dT t]
 | .ite t b c=>.tup [.str (Str.ofString "if"),dT t,.tup (dB b),.tup (dB c)]
 | .whl t b=>.tup [.str (Str.ofString "while"),dT t,.tup (dB b)]
def dB:Bl Str→List D
 | .nil=>[]
 | .cons d b=>dD d::dB b
end
theorem dB_map:∀ b:Bl Str,dB b=b.list.map dD
 | .nil=>rfl
 | .cons d b=>by simp[dB,Bl.list,dB_map b]
theorem dB_of(l:List (Dd Str)):dB (Bl.of l)=l.map dD:=by rw[dB_map,Bl.list_of]
theorem dB_app(a b:Bl Str):dB (a.app b)=dB a++dB b:=by rw[dB_map,dB_map,dB_map,Bl.list_app,List.map_append]
mutual
theorem clean_D:∀ d:Dd Str,(dD d).clean=true
 | .put x t=>by simp[dD,clean_T]
 | .sho l t=>by simp[dD,clean_T]
 | .ite t b c=>by simp[dD,clean_T,clean_B b,clean_B c]
 | .whl t b=>by simp[dD,clean_T,clean_B b]
theorem clean_B:∀ b:Bl Str,D.clean.cleans (dB b)=true
 | .nil=>rfl
 | .cons d b=>by simp[dB,clean_D d,clean_B b]
end
theorem Bl_of_ok{P:Str→Prop}:∀ {l:List (Dd Str)},(∀ d∈l,d.Ok P)→(Bl.of l).Ok P
 | [],_=>trivial
 | d::r,h=>⟨h d List.mem_cons_self,Bl_of_ok fun x hx=>h x (List.mem_cons_of_mem _ hx)⟩
theorem Bl_of_dep{k:Nat}:∀ {l:List (Dd Str)},(∀ d∈l,d.dep≤k)→(Bl.of l).dep≤k
 | [],_=>Nat.zero_le _
 | d::r,h=>by
  have h1:=h d List.mem_cons_self
  have h2:=Bl_of_dep (k:=k) (l:=r) fun x hx=>h x (List.mem_cons_of_mem _ hx)
  simp only[Bl.of,Bl.dep];omega
theorem Bl_of_size{k:Nat}:∀ {l:List (Dd Str)},(∀ d∈l,d.size≤k)→(Bl.of l).size≤l.length*k
 | [],_=>Nat.zero_le _
 | d::r,h=>by
  have h1:=h d List.mem_cons_self
  have h2:=Bl_of_size (k:=k) (l:=r) fun x hx=>h x (List.mem_cons_of_mem _ hx)
  simp only[Bl.of,Bl.size,List.length_cons,Nat.add_mul];omega
theorem Bl_app_ok{P:Str→Prop}:∀ {a b:Bl Str},a.Ok P→b.Ok P→(a.app b).Ok P
 | .nil,_,_,h=>h
 | .cons d a,b,h,g=>⟨h.1,Bl_app_ok h.2 g⟩
theorem Bl_app_dep:∀ {a b:Bl Str},(a.app b).dep=max a.dep b.dep
 | .nil,b=>by simp[Bl.app,Bl.dep]
 | .cons d a,b=>by simp only[Bl.app,Bl.dep,Bl_app_dep (a:=a)];omega
theorem Bl_app_size:∀ {a b:Bl Str},(a.app b).size=a.size+b.size
 | .nil,b=>by simp[Bl.app,Bl.size]
 | .cons d a,b=>by simp only[Bl.app,Bl.size,Bl_app_size (a:=a)];omega
def sz:Nat→Nat
 | 0=>1
 | d+1=>4*sz d+1
theorem sz_pos(d:Nat):1≤sz d:=by cases d<;>simp[sz]
theorem len_lst{xs:List D}{m:Mem}:b1D .len (.lst xs) m=some (.int xs.length,m):=rfl
theorem tuple_lst{xs:List D}{m:Mem}:b1D .tuple (.lst xs) m=some (.tup xs,m):=rfl
theorem find_of{x:Str}:∀ {nm:List Str} {j:Nat},x∈nm→∃ k,j≤k∧k<j+nm.length∧findD (.str x) (nm.map .str) j=some k
 | y::r,j,h=>by
  by_cases e:x=y
  ·exact⟨j,Nat.le_refl _,by simp,by simp[findD,inD,e]⟩
  ·obtain⟨k,h1,h2,h3⟩:=find_of (nm:=r) (j:=j+1) ((List.mem_cons.mp h).resolve_left e)
   exact⟨k,by omega,by simp only[List.length_cons];omega,by simp[findD,inD,e,h3]⟩
theorem max_in:∀ {l:List Int} {a:Int},∃ h,maxL (a::l)=some h∧h∈a::l
 | [],a=>⟨a,rfl,List.mem_cons_self⟩
 | b::r,a=>by
  obtain⟨h,e,hm⟩:=max_in (l:=r) (a:=if b > a then b else a)
  refine⟨h,e,?_⟩
  rcases List.mem_cons.mp hm with q | q
  ·rw[q]
   split<;>simp
  ·simp[q]
theorem max_r{l:List Int}(hl:l≠[])(h:∀ x∈l,0≤x∧x<3):∃ q,maxL l=some q∧0≤q∧q<3:=by
 cases l with
 | nil=>exact absurd rfl hl
 | cons a r=>
  obtain⟨q,e,hm⟩:=max_in (l:=r) (a:=a)
  exact⟨q,e,h q hm⟩
theorem ints_of(l:List Int):intsOf (l.map .int)=some l:=by
 induction l with
 | nil=>rfl
 | cons a r ih=>simp[intsOf,ih]
def levOf(nm:List Str)(lv:List Int)(x:Str):Int:=(atI lv ((findD (.str x) (nm.map .str) 0).getD 0:Nat)).getD 0
def planD(nm:List Str)(lv:List Int)(honest:Bool):D:=.tup [.lst (nm.map .str),.lst (lv.map .int),.bl honest]
theorem flat_strs(nm:List Str):(nm.map D.str).all D.flat=true:=by
 induction nm with
 | nil=>rfl
 | cons a r ih=>simp[D.flat]
def restS:Nat→Sms→Sms
 | 0,s=>s
 | _+1,.nil=>.nil
 | n+1,.cons _ r=>restS n r
section
variable{W:Nat}{Γ:String→Option Fn}
structure Plan(nm:List Str)(lv:List Int):Prop where
 n4:nm.length=4
 l4:lv.length=4
 lr:∀ x∈lv,0≤x∧x<3
theorem lev_of{nm:List Str}{lv:List Int}(hp:Plan nm lv){x:Str}(hx:x∈nm):∃ k:Nat,findD (.str x) (nm.map .str) 0=some k∧atI lv k=some (levOf nm lv x)∧0≤levOf nm lv x∧levOf nm lv x<3:=by
 obtain⟨k,_,h2,h3⟩:=find_of (x:=x) (j:=0) hx
 have h4:=hp.n4
 have h5:=hp.l4
 obtain⟨l,hl,el⟩:=at_mem (l:=lv) (i:=k) (by omega) (by omega)
 have:levOf nm lv x=l:=by simp only[levOf,h3,Option.getD_some,el]
 exact⟨k,h3,by rw[el,this],by rw[this];exact hp.lr l hl⟩
theorem ev_levels{C:String→List D→Mem→Option (D×Mem)}{m:Mem}{nm:List Str}{lv:List Int}(hp:Plan nm lv){t:Tm Str}(ht:t.Ok (·∈nm))(hl:t.names.length≤1000)(hn:C "_law_names_in" [dT t] m=some (.lst (t.names.map .str),m)){x0 x1 x2 x3 x6 x8 x9 x10 x11 x12 x13:Option D}:
  ev C (.comp false 1 (.nm 14) (.seq (.call "_law_names_in" (.cons (.var 7) .nil))) .tt (.ix (.var 5) (.index (.var 4) (.var 14)))) [x0,x1,x2,x3,some (.lst (nm.map .str)),some (.lst (lv.map .int)),x6,some (dT t),x8,x9,x10,x11,x12,x13] m=some (.lst ((t.names.map (levOf nm lv)).map .int),m):=by
 rw[ev_comp_map (xs:=t.names.map .str) (fun d=>match d with | .str x=>.int (levOf nm lv x) | _=>.non) (by simp) (by simp[hn,seqOf]) (by simpa using hl)]
 ·simp[Function.comp_def]
 ·intro d hd
  obtain⟨x,hx,rfl⟩:=List.mem_map.mp hd
  obtain⟨k,e1,e2,_⟩:=lev_of hp (ht.names x hx)
  refine⟨[x0,x1,x2,x3,some (.lst (nm.map .str)),some (.lst (lv.map .int)),x6,some (dT t),x8,x9,x10,x11,x12,x13,some (.str x)],by simp,by simp,?_⟩
  have h4:=hp.n4
  have hx1:∀ x,D.flat (.str x)=true:=fun _=>rfl
  simp[lstOf,e1,at_map,e2,hx1,h4]
def someL(lv:List Int)(high:Int)(honest:Bool):List Nat:=(List.range 4).filter fun j=>decide (high≤lv.getD j 0)||!honest
theorem ev_some{C:String→List D→Mem→Option (D×Mem)}{m:Mem}{lv:List Int}(hl:lv.length=4){high:Int}{honest:Bool}{x0 x1 x2 x3 x4 x7 x9 x10 x11 x12 x13:Option D}:
  ev C (.comp false 1 (.nm 14) (.rng (.con (.int 4))) (.or (.val (.cmp .ge (.ix (.var 5) (.var 14)) (.var 8))) (.not (.val (.var 6)))) (.var 14)) [x0,x1,x2,x3,x4,some (.lst (lv.map .int)),some (.bl honest),x7,some (.int high),x9,x10,x11,x12,x13] m=some (.lst ((someL lv high honest).map fun(j:Nat)=>.int j),m):=by
 rw[ev_comp (xs:=(List.range 4).map fun(i:Nat)=>.int i) (h:=fun d=>match d with | .int j=>if decide (high≤lv.getD j.toNat 0)||!honest then some (.int j) else none | _=>none) (by simp) (by simp) (by simp)]
 ·simp only[someL,List.filterMap_map,Function.comp_def,Int.toNat_natCast]
  rw[← List.filterMap_eq_map',List.filterMap_filter]
 ·intro d hd
  obtain⟨j,hj,rfl⟩:=List.mem_map.mp hd
  have hj:j<lv.length:=by have:=List.mem_range.mp hj;omega
  refine⟨[x0,x1,x2,x3,x4,some (.lst (lv.map .int)),some (.bl honest),x7,some (.int high),x9,x10,x11,x12,x13,some (.int j)],decide (high≤lv.getD j 0)||!honest,by simp,?_,?_⟩
  ·by_cases h:high≤lv[j]
   ·simp[at_map,at_nat,hj,h]
   ·cases honest<;>simp[at_map,at_nat,hj,h]
  ·by_cases h:high≤lv[j]
   ·simp[hj,h]
   ·cases honest<;>simp[hj,h]
def DeedAt(Γ:String→Option Fn)(W:Nat)(nm:List Str)(lv:List Int)(honest:Bool)(deep:Nat):Prop:=∀ (cell need:Int),0≤need→need<3→∃ d:Dd Str,d.Ok (·∈nm)∧d.dep≤deep+2∧d.size≤sz deep∧∀ n m,callI W Γ (n+(2*deep+5)) "_law_deed" [planD nm lv honest,.int cell,.int deep,.int need] m=some (dD d,m)
def BlockAt(Γ:String→Option Fn)(W:Nat)(nm:List Str)(lv:List Int)(honest:Bool)(deep:Nat):Prop:=∀ (cell need:Int),0≤need→need<3→∃ b:Bl Str,b.Ok (·∈nm)∧b.dep≤deep+2∧b.size≤2*sz deep∧b.list.length≤2∧∀ n m,callI W Γ (n+(2*deep+6)) "_law_block" [planD nm lv honest,.int cell,.int deep,.int need] m=some (.tup (dB b),m)
theorem c_block(Hm:Γ "_law_mix" = some F_qmix)(H:Γ "_law_block" = some F_qblock){nm:List Str}{lv:List Int}{honest:Bool}{deep:Nat}(hd:DeedAt Γ W nm lv honest deep):BlockAt Γ W nm lv honest deep:=by
 intro cell need n0 n3
 have hd':=fun c=>hd c need n0 n3
 let g:Int→Dd Str:=fun c=>Classical.choose (hd' c)
 have hg:∀ c,(g c).Ok (·∈nm)∧(g c).dep≤deep+2∧(g c).size≤sz deep∧∀ n m,callI W Γ (n+(2*deep+5)) "_law_deed" [planD nm lv honest,.int c,.int deep,.int need] m=some (dD (g c),m):=fun c=>Classical.choose_spec (hd' c)
 have r1:=mixv_r cell 9839 (k:=2) (by omega)
 have r2:0<1+mixv cell 9839 2∧1+mixv cell 9839 2<3:=by omega
 refine⟨Bl.of ((List.range (1+mixv cell 9839 2).toNat).map fun(j:Nat)=>g (cell*7+11*j)),?_,?_,?_,by rw[Bl.list_of];simp;omega,fun n m=>?_⟩
 ·refine Bl_of_ok fun d h=>?_
  obtain⟨j,_,rfl⟩:=List.mem_map.mp h
  exact(hg _).1
 ·refine Bl_of_dep fun d h=>?_
  obtain⟨j,_,rfl⟩:=List.mem_map.mp h
  exact(hg _).2.1
 ·refine Nat.le_trans (Bl_of_size (k:=sz deep) fun d h=>?_) (Nat.mul_le_mul_right _ (by simp;omega))
  obtain⟨j,_,rfl⟩:=List.mem_map.mp h
  exact(hg _).2.2.1
 ·refine call_ret (n:=n+(2*deep+5)) H rfl (clean_B _) ?_
  have e0:∀ {c p k:Int},0<p→0<k→callI W Γ (n+(2*deep+5)) "_law_mix" [.int c,.int p,.int k] m=some (.int (mixv c p k),m):=fun hp hk=>c_mix (n:=n+(2*deep+4)) Hm hp hk
  have comp:ev (callI W Γ (n+(2*deep+5))) (.comp false 1 (.nm 5) (.rng (.var 4)) .tt (.call "_law_deed" (.cons (.var 0) (.cons (.bin .add (.bin .mul (.var 1) (.con (.int 7))) (.bin .mul (.con (.int 11)) (.var 5))) (.cons (.var 2) (.cons (.var 3) .nil)))))) [some (planD nm lv honest),some (.int cell),some (.int deep),some (.int need),some (.int (1+mixv cell 9839 2))] m=some (.lst (dB (Bl.of ((List.range (1+mixv cell 9839 2).toNat).map fun(j:Nat)=>g (cell*7+11*j)))),m):=by
   rw[ev_comp_map (xs:=(List.range (1+mixv cell 9839 2).toNat).map fun(i:Nat)=>.int i) (fun d=>match d with | .int j=>dD (g (cell*7+11*j)) | _=>.non) (by simp) (by simp;omega) (by simp;omega)]
   ·simp[dB_of,Function.comp_def]
   ·intro d hd
    obtain⟨j,hj,rfl⟩:=List.mem_map.mp hd
    refine⟨[some (planD nm lv honest),some (.int cell),some (.int deep),some (.int need),some (.int (1+mixv cell 9839 2)),some (.int j)],by simp,by simp,?_⟩
    simp[bin_mulL,bin_mulR,(hg _).2.2.2]
  simp[F_qblock,b_qblock,e0,comp,tuple_lst]
theorem max_lst{l:List Int}{q:Int}{m:Mem}(h:maxL l=some q):b1D .max (.lst (l.map .int)) m=some (.int q,m):=by
 show ((intsOf (l.map D.int)).bind fun ns=>(maxL ns).map fun x=>(D.int x,m))=_
 rw[ints_of,Option.bind_some,h]
 rfl
theorem at_mapS{α β:Type}{f:α→β}{l:List α}{i:Int}{x:α}(h:atI l i=some x):atI (l.map f) i=some (f x):=by rw[at_map,h];rfl
def stD(nm:List Str)(lv:List Int)(honest:Bool)(cell:Int)(deep:Nat)(need:Int)(t:Tm Str)(high:Int):DS:=[some (planD nm lv honest),some (.int cell),some (.int deep),some (.int need),some (.lst (nm.map .str)),some (.lst (lv.map .int)),some (.bl honest),some (dT t),some (.int high),some (.int (mixv cell 9871 9)),none,none,none,none]
theorem mulA{C:String→List D→Mem→Option (D×Mem)}{σ:DS}{m:Mem}{e1 e2:Ex}{r:Exs}{a k j:Int}{d:D}{ds:List D}(hk:-(2 ^ 64)<k∧k<2 ^ 64)(h1:ev C e1 σ m=some (d,m))(h2:ev C e2 σ m=some (.int a,m))(h3:evs C r σ m=some (ds,m)):evs C (.cons e1 (.cons (.bin .add (.bin .mul e2 (.con (.int k))) (.con (.int j))) r)) σ m=some (d::.int (a*k+j)::ds,m):=
 evs_cons h1 (evs_cons (ev_bin (ev_bin h2 rfl (bin_mulR hk)) rfl rfl) h3)
theorem c_deed1(Hm:Γ "_law_mix" = some F_qmix)(Ht:Γ "_law_term" = some F_qterm)(Hi:Γ "_law_names_in" = some F_qnames_in)(H:Γ "_law_deed" = some F_qdeed){nm:List Str}{lv:List Int}(hp:Plan nm lv){honest:Bool}{deep:Nat}(hblk:∀ d,deep=d+1→BlockAt Γ W nm lv honest d):DeedAt Γ W nm lv honest deep:=by
 intro cell need n0 n3
 have hleft:1+cell % 2=((1+(cell % 2).toNat:Nat):Int):=by omega
 obtain⟨t,ht,dt,et⟩:=c_term (W:=W) Hm Ht (nm:=nm) hp.n4 (1+(cell % 2).toNat) cell
 rw[← hleft]at et
 have dt2:t.dep≤2:=by omega
 obtain⟨high,eh,h0,h3⟩:=max_r (l:=t.names.map (levOf nm lv)++[need]) (by simp) (fun x hx=>by
  rcases List.mem_append.mp hx with hx | hx
  ·obtain⟨y,hy,rfl⟩:=List.mem_map.mp hx
   obtain⟨_,_,_,q⟩:=lev_of hp (ht.names y hy)
   exact q
  ·rw[List.mem_singleton.mp hx];exact⟨n0,n3⟩)
 have e0:∀ (n:Nat) (m:Mem) {c p k:Int},0<p→0<k→callI W Γ (n+(2*deep+4)) "_law_mix" [.int c,.int p,.int k] m=some (.int (mixv c p k),m):=fun n m _ _ _ hp hk=>c_mix (n:=n+(2*deep+3)) Hm hp hk
 have e1:∀ (n:Nat) (m:Mem),callI W Γ (n+(2*deep+4)) "_law_term" [.lst (nm.map .str),.int cell,.int (1+cell % 2)] m=some (dT t,m):=fun n m=>by
  have:=et (n+(2*deep+4)-(1+(cell % 2).toNat+2)) m
  rw[show n+(2*deep+4)-(1+(cell % 2).toNat+2)+(1+(cell % 2).toNat+2)=n+(2*deep+4) from by omega]at this
  exact this
 have e2:∀ (n:Nat) (m:Mem),callI W Γ (n+(2*deep+4)) "_law_names_in" [dT t] m=some (.lst (t.names.map .str),m):=fun n m=>(c_names_in Hi (by omega) (by omega)).2
 have l0:t.names.length≤9:=by
  have:=(c_names_in (W:=W) (n:=20) (m:=[]) Hi (t:=t) (by omega) (by omega)).1
  have:2 ^ t.dep≤2 ^ 2:=Nat.pow_le_pow_right (by omega) dt2
  omega
 have e3:=fun n m=>@ev_levels (callI W Γ (n+(2*deep+4))) m nm lv hp t ht (by omega) (e2 n m)
 have e4:∀ m,b1D .max (.lst ((t.names.map (levOf nm lv)).map .int++[.int need])) m=some (.int high,m):=fun m=>by
  have:=max_lst (m:=m) eh
  rw[List.map_append]at this
  exact this
 have l1:((t.names.map (levOf nm lv)).map D.int).length≤9:=by simpa using l0
 generalize (t.names.map (levOf nm lv)).map D.int=L at e3 e4 l1
 have l2:L.length≤9999:=by omega
 have e5:=fun n m=>@ev_some (callI W Γ (n+(2*deep+4))) m lv hp.l4 high honest
 have r0:=mixv_r cell 9871 (k:=9) (by omega)
 have r1:=mixv_r cell 9851 (k:=3) (by omega)
 have cD:∀ (n:Nat) (m:Mem) (d:Dd Str),exs (callI W Γ (n+(2*deep+4))) W b_qdeed [some (planD nm lv honest),some (.int cell),some (.int deep),some (.int need),none,none,none,none,none,none,none,none,none,none] m=some (.rt (dD d),m)→callI W Γ (n+(2*deep+5)) "_law_deed" [planD nm lv honest,.int cell,.int deep,.int need] m=some (dD d,m):=fun n m d h=>call_ret (n:=n+(2*deep+4)) H rfl (clean_D d) h
 have pre:∀ (n:Nat) (m:Mem) {X},exs (callI W Γ (n+(2*deep+4))) W (restS 4 b_qdeed) (stD nm lv honest cell deep need t high) m=X→exs (callI W Γ (n+(2*deep+4))) W b_qdeed [some (planD nm lv honest),some (.int cell),some (.int deep),some (.int need),none,none,none,none,none,none,none,none,none,none] m=X:=fun n m _ k=>
  xs_asg (d:=planD nm lv honest) (σ':=[some (planD nm lv honest),some (.int cell),some (.int deep),some (.int need),some (.lst (nm.map .str)),some (.lst (lv.map .int)),some (.bl honest),none,none,none,none,none,none,none]) rfl rfl (xs_set (ev_call (e1 n m) rfl) (xs_set (ev_b1 (ev_cat (e3 n m) rfl (Nat.succ_le_succ l2)) (e4 m)) (xs_set (ev_call (e0 n m (by decide) (by decide)) rfl) k)))
 have cd:(∀ (n:Nat) (m:Mem) {X},exs (callI W Γ (n+(2*deep+4))) W (restS 6 b_qdeed) (stD nm lv honest cell deep need t high) m=X→exs (callI W Γ (n+(2*deep+4))) W (restS 4 b_qdeed) (stD nm lv honest cell deep need t high) m=X)→∃ d:Dd Str,d.Ok (·∈nm)∧d.dep≤deep+2∧d.size≤sz deep∧∀ n m,callI W Γ (n+(2*deep+5)) "_law_deed" [planD nm lv honest,.int cell,.int deep,.int need] m=some (dD d,m):=by
  intro hskip
  have hpos:=sz_pos deep
  by_cases hc:mixv cell 9871 9<7∧someL lv high honest≠[]
  ·obtain⟨h7,hne⟩:=hc
   have hl0:=List.length_pos_iff.mpr hne
   have hlen:0<((someL lv high honest).length:Int):=by omega
   have r2:=mixv_r cell 9857 hlen
   obtain⟨j,hj,ej⟩:=at_mem (l:=someL lv high honest) r2.1 r2.2
   have hj4:j<4:=List.mem_range.mp (List.mem_filter.mp hj).1
   have hn4:=hp.n4
   obtain⟨x,hx,ex⟩:=at_mem (l:=nm) (i:=j) (by omega) (by omega)
   refine⟨.put x t,⟨hx,ht⟩,Nat.le_add_left_of_le dt2,hpos,fun n m=>cD n m _ (pre n m (hskip n m (xs_set (e5 n m) (xs_yes (et_and (et_p (p:=mixv cell 9871 9<7) rfl h7) (et_val (d:=.lst ((someL lv high honest).map fun(j:Nat)=>.int j)) rfl (tru_ne fun h=>hne (List.map_eq_nil_iff.mp h)))) (xs_ret (ev_tup (xs:=[.str (Str.ofString "put"),.str x,dT t]) (evs_cons rfl (evs_cons (ev_ix rfl (ev_ix rfl (ev_call (e0 n m (c:=cell) (p:=9857) (by decide) hlen) (by rw[← List.length_map (f:=fun(j:Nat)=>D.int j)];rfl)) (at_mapS ej)) (at_mapS ex)) rfl)) (Nat.le_of_ble_eq_true rfl)))))))⟩
  ·refine⟨.sho (if high*(if honest then 1 else 0) > mixv cell 9851 3 then high*(if honest then 1 else 0) else mixv cell 9851 3) t,⟨?_,ht⟩,Nat.le_add_left_of_le dt2,hpos,fun n m=>cD n m _ (pre n m (hskip n m (xs_set (e5 n m) (xs_no ?_ (xs_ret (ev_tup (evs_cons rfl (evs_cons (ev_max2 (ev_call (e0 n m (by decide) (by decide)) rfl) (ev_bin rfl rfl (bin_mulL (by omega)))) rfl)) (Nat.le_of_ble_eq_true rfl)))))))⟩
   ·cases honest<;>simp<;>split<;>omega
   ·by_cases h7:mixv cell 9871 9<7
    ·have he:someL lv high honest=[]:=Classical.byContradiction fun q=>hc ⟨h7,q⟩
     exact et_and (et_p (p:=mixv cell 9871 9<7) rfl h7) (et_val (d:=.lst ((someL lv high honest).map fun(j:Nat)=>.int j)) rfl (by rw[he];rfl))
    ·exact et_andf (et_n (p:=mixv cell 9871 9<7) rfl h7)
 cases deep with
 | zero=>exact cd fun n m _ k=>xs_no (et_andf (et_n (p:=(0:Int)<0) rfl (by decide))) (xs_no (et_andf (et_n (p:=(0:Int)<0) rfl (by decide))) k)
 | succ d=>
  have hb:=hblk d rfl
  have hs:((d+1:Nat):Int)-1=d:=by omega
  have hz:(0:Int)<((d+1:Nat):Int):=by omega
  have hszp:=sz_pos d
  by_cases h2:mixv cell 9871 9<2
  ·obtain⟨b,ob,db,sb,lb,eb⟩:=hb (cell*3+1) high h0 h3
   obtain⟨c,oc,dc,sc,lc,ec⟩:=hb (cell*5+2) high h0 h3
   rw[← hs]at eb ec
   refine⟨.ite t b c,⟨ht,ob,oc⟩,by simp only[Dd.dep];omega,by simp only[Dd.size,sz];omega,fun n m=>cD n m _ (pre n m (xs_yes (et_and (et_p rfl hz) (et_p rfl h2)) (xs_set (ev_call (eb n m) (mulA (by decide) rfl rfl rfl)) (xs_ret (ev_tup (evs_cons rfl (evs_cons rfl (evs_cons rfl (evs_cons (ev_call (ec n m) (mulA (by decide) rfl rfl rfl)) rfl)))) (Nat.le_of_ble_eq_true rfl))))))⟩
  ·by_cases h4:mixv cell 9871 9<4∧(need=0∨honest=false)
   ·obtain⟨h4,hor⟩:=h4
    obtain⟨b,ob,db,sb,lb,eb⟩:=hb (cell*3+1) need n0 n3
    rw[← hs]at eb
    have hn4:=hp.n4
    obtain⟨x,hx,ex⟩:=at_mem (l:=nm) (i:=0) (by omega) (by omega)
    have r2:=mixv_r cell 9859 (k:=6) (by omega)
    have ex1:atI (nm.map D.str) 0=some (.str x):=at_mapS ex
    have hD:∀ u:Tm Str,dD (.whl u (b.app (.cons (.put x (.bin .sum (.nam x) (.num 1))) .nil)))=.tup [.str (Str.ofString "while"),dT u,.tup (dB b++[dD (.put x (.bin .sum (.nam x) (.num 1)))])]:=fun u=>by
     show D.tup [_,_,.tup (dB _)]=_
     rw[dB_app];rfl
    have hl:(dB b).length+1≤10000:=by rw[dB_map,List.length_map];omega
    have hor2:(decide (need=0)||!honest)=true:=by rcases hor with h | h<;>simp[h]
    refine⟨.whl (if honest then .bin .less (.nam x) (.num (mixv cell 9859 6)) else t) (b.app (.cons (.put x (.bin .sum (.nam x) (.num 1))) .nil)),⟨?_,?_⟩,?_,?_,fun n m=>cD n m _ (pre n m (xs_no (et_and (et_p rfl hz) (et_n rfl h2)) (xs_yes (et_and (et_p rfl hz) (et_and (et_p rfl h4) (et_b (et_or2 rfl rfl) hor2))) (xs_set (d:=dD (.put x (.bin .sum (.nam x) (.num 1)))) (ev_tup (evs_cons rfl (evs_cons (ev_ix rfl rfl ex1) (evs_cons (ev_tup (evs_cons rfl (evs_cons (ev_tup (evs_cons rfl (evs_cons (ev_ix rfl rfl ex1) rfl)) (Nat.le_of_ble_eq_true rfl)) rfl)) (Nat.le_of_ble_eq_true rfl)) rfl))) (Nat.le_of_ble_eq_true rfl)) (xs_set (ev_call (eb n m) (mulA (by decide) rfl rfl rfl)) ?_)))))⟩
    ·cases honest
     ·exact ht
     ·exact⟨hx,by constructor<;>omega⟩
    ·exact Bl_app_ok ob ⟨⟨hx,hx,by constructor<;>omega⟩,trivial⟩
    ·simp only[Dd.dep,Bl_app_dep,Bl.dep,Tm.dep]
     cases honest<;>simp[Tm.dep]<;>omega
    ·simp only[Dd.size,Bl_app_size,Bl.size,sz]
     omega
    ·rw[hD]
     cases honest
     ·exact xs_no rfl (xs_ret (ev_tup (evs_cons rfl (evs_cons rfl (evs_cons (ev_bin (d2:=.tup [dD (.put x (.bin .sum (.nam x) (.num 1)))]) rfl rfl (bin_tup hl)) rfl))) (Nat.le_of_ble_eq_true rfl)))
     ·exact xs_yesn rfl (xs_set (ev_tup (evs_cons rfl (evs_cons (ev_tup (evs_cons rfl (evs_cons (ev_ix rfl rfl ex1) rfl)) (Nat.le_of_ble_eq_true rfl)) (evs_cons (ev_tup (evs_cons rfl (evs_cons (ev_call (e0 n m (by decide) (by decide)) rfl) rfl)) (Nat.le_of_ble_eq_true rfl)) rfl))) (Nat.le_of_ble_eq_true rfl)) rfl) (xs_ret (ev_tup (evs_cons rfl (evs_cons rfl (evs_cons (ev_bin (d2:=.tup [dD (.put x (.bin .sum (.nam x) (.num 1)))]) rfl rfl (bin_tup hl)) rfl))) (Nat.le_of_ble_eq_true rfl)))
   ·refine cd fun n m _ k=>xs_no (et_and (et_p rfl hz) (et_n rfl h2)) (xs_no (et_and (et_p rfl hz) ?_) k)
    by_cases h4':mixv cell 9871 9<4
    ·have hn:¬ need=0:=fun q=>h4 ⟨h4',Or.inl q⟩
     have hh:honest=true:=by
      cases honest with
      | true=>rfl
      | false=>exact absurd ⟨h4',Or.inr rfl⟩ h4
     exact et_and (et_p rfl h4') (et_b (et_or2 rfl rfl) (by rw[hh,decide_eq_false hn];rfl))
    ·exact et_andf (et_n rfl h4')
theorem c_deed(Hm:Γ "_law_mix" = some F_qmix)(Ht:Γ "_law_term" = some F_qterm)(Hi:Γ "_law_names_in" = some F_qnames_in)(Hb:Γ "_law_block" = some F_qblock)(H:Γ "_law_deed" = some F_qdeed){nm:List Str}{lv:List Int}(hp:Plan nm lv){honest:Bool}:∀ deep:Nat,DeedAt Γ W nm lv honest deep:=by
 intro deep
 induction deep with
 | zero=>exact c_deed1 Hm Ht Hi H hp fun d h=>by cases h
 | succ d ih=>exact c_deed1 Hm Ht Hi H hp fun e h=>by cases h;exact c_block Hm Hb ih
end
end T
end
section
namespace T
open PySem L2 WL WW
def shD(p:Int×Int):D:=.tup [.int p.1,.int p.2]
def sg(prog:D)(most t:Int)(x6 x7 x8:Option D):DS:=[some prog,some (.mref 0),some (.mref 1),some (.int most),some (.int t),some (.mref 2),x6,x7,x8]
theorem len_sizes:∀ l:List (Dd Str),l.length≤sizes l
 | []=>Nat.le_refl _
 | d::r=>by
  have:=len_sizes r
  have:=d.size_pos
  simp only[List.length_cons,sizes];omega
section
variable{W:Nat}{Γ:String→Option Fn}{n:Nat}
end
end T
end
section
namespace T
open PySem L2 WL WW
section
variable{W:Nat}{Γ:String→Option Fn}{n:Nat}
end
end T
end
section
namespace T
open PySem L2 WL WW
section
variable{W:Nat}{Γ:String→Option Fn}{n:Nat}
def pairsD(sn:List Str)(f:Str→Int):List D:=sn.map fun x=>.tup [.str x,.int (f x)]
theorem cleans_store(l:List Str)(f:Str→Int):D.clean.cleans (l.map fun x=>.tup [.str x,.int (f x)])=true:=by
 induction l with
 | nil=>rfl
 | cons a r ih=>simp[ih]
end
end T
end
section
namespace T
open PySem L2 WL WW
section
variable{W:Nat}{Γ:String→Option Fn}{n:Nat}
structure HasP(Γ:String→Option Fn):Prop where
 cell:Γ "_law_cell" = some F_qcell
 mix:Γ "_law_mix" = some F_qmix
 name:Γ "_law_name" = some F_qname
 names:Γ "_law_names" = some F_qnames
 levels:Γ "_law_levels" = some F_qlevels
 term:Γ "_law_term" = some F_qterm
 names_in:Γ "_law_names_in" = some F_qnames_in
 deed:Γ "_law_deed" = some F_qdeed
 block:Γ "_law_block" = some F_qblock
 program:Γ "_law_program" = some F_qprogram
structure HasG(Γ:String→Option Fn):Prop extends HasP Γ where
 store:Γ "_law_store" = some F_qstore
def cutI(ns:List Int)(lo hi:Option Int):List Int:=(ns.drop (HT.sIx ns.length 0 lo)).take (HT.sIx ns.length ns.length hi-HT.sIx ns.length 0 lo)
theorem cut_map(ns:List Int)(lo hi:Option Int):cutD (ns.map .int) lo hi=(cutI ns lo hi).map .int:=by
 simp only[WL.cutD,cutI,List.length_map,List.map_take,List.map_drop]
theorem cut_len(ns:List Int){a b:Int}(ha:0≤a)(hb:a≤b):(cutI ns (some a) (some b)).length≤(b-a).toNat:=by
 obtain⟨i,rfl⟩:=Int.eq_ofNat_of_zero_le ha
 obtain⟨j,rfl⟩:=Int.eq_ofNat_of_zero_le (show 0≤b by omega)
 simp only[cutI,HT.sIx_nat,List.length_take,List.length_drop]
 omega
theorem planOk(c d:Int):Plan (namesL c) (levelsL d):=⟨rfl,rfl,levels_r d⟩
theorem c_program(H:HasP Γ){ns:List Int}{k:Nat}:∃ pg:Bl Str,pg.Ok (·∈namesL (cellv ns 0))∧pg.dep≤4∧pg.size≤63∧∀ n m,callI W Γ (n+10) "_law_program" [.scr ns,.int k] m=some (.tup (dB pg),m):=by
 have hd0:=c_deed (W:=W) H.mix H.term H.names_in H.block H.deed (planOk (cellv ns 0) (cellv ns 1)) (honest:=decide (0<mixv (cellv ns 0) 9833 4)) 2
 have hd':=fun c=>hd0 c 0 (by omega) (by omega)
 let g:Int→Dd Str:=fun c=>Classical.choose (hd' c)
 have hg:=fun c=>Classical.choose_spec (hd' c)
 have hcl:=cut_len ns (a:=k) (b:=k+1+cellv ns 0 % 3) (by omega) (by omega)
 have hcl3:(cutI ns (some k) (some (k+1+cellv ns 0 % 3))).length≤3:=by omega
 refine⟨Bl.of ((cutI ns (some k) (some (k+1+cellv ns 0 % 3))).map g),?_,?_,?_,fun n m=>?_⟩
 ·refine Bl_of_ok fun d h=>?_
  obtain⟨j,_,rfl⟩:=List.mem_map.mp h
  exact(hg j).1
 ·refine Bl_of_dep fun d h=>?_
  obtain⟨j,_,rfl⟩:=List.mem_map.mp h
  exact(hg j).2.1
 ·refine Nat.le_trans (Bl_of_size (k:=21) fun d h=>?_) ?_
  ·obtain⟨j,_,rfl⟩:=List.mem_map.mp h
   exact(hg j).2.2.1
  ·rw[List.length_map];omega
 ·refine call_ret (n:=n+9) H.program rfl (clean_B _) ?_
  have hc:=c_cell (W:=W) (n:=n+8) (m:=m) H.cell (ns:=ns) (k:=0)
  rw[Int.natCast_zero]at hc
  have hm:∀ {c p k:Int},0<p→0<k→callI W Γ (n+9) "_law_mix" [.int c,.int p,.int k] m=some (.int (mixv c p k),m):=fun hp hk=>c_mix (n:=n+8) H.mix hp hk
  have hn:=c_names (W:=W) (n:=n+6) (m:=m) H.mix H.cell H.name H.names (ns:=ns)
  have hl:=c_levels (W:=W) (n:=n+7) (m:=m) H.mix H.cell H.levels (ns:=ns)
  have hsl:slD (.scr ns) (some k) (some (k+1+cellv ns 0 % 3))=some (.lst ((cutI ns (some k) (some (k+1+cellv ns 0 % 3))).map .int)):=by
   show some (D.lst (cutD (ns.map .int) _ _))=_
   rw[cut_map]
  have comp:∀ x,ev (callI W Γ (n+9)) (.comp false 1 (.nm 5) (.seq (.var 4)) .tt (.call "_law_deed" (.cons (.var 3) (.cons (.var 5) (.cons (.con (.int 2)) (.cons (.con (.int 0)) .nil)))))) [some (.scr ns),some (.int k),x,some (planD (namesL (cellv ns 0)) (levelsL (cellv ns 1)) (decide (0<mixv (cellv ns 0) 9833 4))),some (.lst ((cutI ns (some k) (some (k+1+cellv ns 0 % 3))).map .int))] m=some (.lst (dB (Bl.of ((cutI ns (some k) (some (k+1+cellv ns 0 % 3))).map g))),m):=by
   intro x
   rw[ev_comp_map (xs:=(cutI ns (some k) (some (k+1+cellv ns 0 % 3))).map .int) (fun d=>match d with | .int j=>dD (g j) | _=>.non) (by simp) (by simp[seqOf]) (by simp;omega)]
   ·simp[dB_of,Function.comp_def]
   ·intro d hd
    obtain⟨j,hj,rfl⟩:=List.mem_map.mp hd
    refine⟨[some (.scr ns),some (.int k),x,some (planD (namesL (cellv ns 0)) (levelsL (cellv ns 1)) (decide (0<mixv (cellv ns 0) 9833 4))),some (.lst ((cutI ns (some k) (some (k+1+cellv ns 0 % 3))).map .int)),some (.int j)],by simp,by simp,?_⟩
    have:=(hg j).2.2.2 n m
    simp at this
    simp[this]
    rfl
  simp only[planD]at comp
  simp[F_qprogram,b_qprogram,hc,hm,hn,hl,bin_mod,hsl,comp,tuple_lst]
def numL(c:Int)(j:Nat):Int:=if c % 4=0 then mixv (c+13*j) 9829 997 % 3 else mixv (c+13*j) 9829 997
theorem num_r(c:Int)(j:Nat):0≤numL c j∧numL c j<997:=by
 have:=mixv_r (c+13*j) 9829 (k:=997) (by omega)
 unfold numL
 split<;>omega
def gL(q c:Int)(x:Str):Int:=if x=nameL q 0 then numL c 0 else if x=nameL q 1 then numL c 1 else if x=nameL q 2 then numL c 2 else numL c 3
theorem gL_r(q c:Int)(x:Str):0≤gL q c x∧gL q c x<997:=by
 unfold gL
 repeat' split
 all_goals exact num_r _ _
def snL(q c:Int):List Str:=(sortSI [(nameL q 0,numL c 0),(nameL q 1,numL c 1),(nameL q 2,numL c 2),(nameL q 3,numL c 3)]).map (·.1)
theorem sn_perm(q c:Int):(snL q c).Perm (namesL q):=List.Perm.map (fun p:Str×Int=>p.1) (List.mergeSort_perm [(nameL q 0,numL c 0),(nameL q 1,numL c 1),(nameL q 2,numL c 2),(nameL q 3,numL c 3)] fun p q=>strLe p.1 q.1)
theorem sn_pairs(q c:Int):(sortSI [(nameL q 0,numL c 0),(nameL q 1,numL c 1),(nameL q 2,numL c 2),(nameL q 3,numL c 3)]).map unSI=pairsD (snL q c) (gL q c):=by
 unfold pairsD snL
 rw[List.map_map]
 refine List.map_congr_left fun p hp=>?_
 have hp:p∈[(nameL q 0,numL c 0),(nameL q 1,numL c 1),(nameL q 2,numL c 2),(nameL q 3,numL c 3)]:=(List.mergeSort_perm _ _).mem_iff.mp hp
 have ne:∀ {i j:Nat},i<4→j<4→i≠j→¬ nameL q i=nameL q j:=fun hi hj hn e=>hn (name_inj hi hj e)
 have n10:=ne (i:=1) (j:=0) (by decide) (by decide) (by decide)
 have n20:=ne (i:=2) (j:=0) (by decide) (by decide) (by decide)
 have n21:=ne (i:=2) (j:=1) (by decide) (by decide) (by decide)
 have n30:=ne (i:=3) (j:=0) (by decide) (by decide) (by decide)
 have n31:=ne (i:=3) (j:=1) (by decide) (by decide) (by decide)
 have n32:=ne (i:=3) (j:=2) (by decide) (by decide) (by decide)
 simp only[List.mem_cons,List.not_mem_nil,or_false]at hp
 rcases hp with rfl | rfl | rfl | rfl<;>simp[unSI,gL,n10,n20,n21,n30,n31,n32]
theorem c_store(H:HasG Γ){ns:List Int}{k:Nat}:callI W Γ (n+10) "_law_store" [.scr ns,.int k] []=some (.tup (pairsD (snL (cellv ns 0) (cellv ns k)) (gL (cellv ns 0) (cellv ns k))),[]):=by
 rw[call_step H.store rfl]
 have hc:∀ m,callI W Γ (n+9) "_law_cell" [.scr ns,.int k] m=some (.int (cellv ns k),m):=fun m=>c_cell (W:=W) (n:=n+8) (m:=m) H.cell (ns:=ns) (k:=k)
 have hm:∀ m {c p k:Int},0<p→0<k→callI W Γ (n+9) "_law_mix" [.int c,.int p,.int k] m=some (.int (mixv c p k),m):=fun m _ _ _ hp hk=>c_mix (n:=n+8) H.mix hp hk
 have hn:∀ m,callI W Γ (n+9) "_law_names" [.scr ns] m=_:=fun m=>c_names (W:=W) (n:=n+6) (m:=m) H.mix H.cell H.name H.names (ns:=ns)
 generalize cellv ns k=c at hc ⊢
 generalize cellv ns 0=q at hn ⊢
 have hs:∀ m,m[0]?=some (.lst [.tup [.str (nameL q 0),.int (numL c 0)],.tup [.str (nameL q 1),.int (numL c 1)],.tup [.str (nameL q 2),.int (numL c 2)],.tup [.str (nameL q 3),.int (numL c 3)]])→b1D (.sorted false) (.mref 0) m=some (.lst (pairsD (snL q c) (gL q c)),m):=fun m e=>by
  have nd:=names_nodup q
  have e1:lstOf (.mref 0) m=some [.tup [.str (nameL q 0),.int (numL c 0)],.tup [.str (nameL q 1),.int (numL c 1)],.tup [.str (nameL q 2),.int (numL c 2)],.tup [.str (nameL q 3),.int (numL c 3)]]:=by
   show (match m[0]? with | some (.lst xs)=>some xs | _=>none)=_
   rw[e]
  show ((lstOf (.mref 0) m).bind fun xs=>(pairSIs xs).bind fun ps=>if xs.length≤4∧(ps.map (·.1)).Nodup then some (mkL false ((sortSI ps).map unSI) m) else none)=_
  rw[e1,Option.bind_some,show pairSIs [.tup [.str (nameL q 0),.int (numL c 0)],.tup [.str (nameL q 1),.int (numL c 1)],.tup [.str (nameL q 2),.int (numL c 2)],.tup [.str (nameL q 3),.int (numL c 3)]]=some [(nameL q 0,numL c 0),(nameL q 1,numL c 1),(nameL q 2,numL c 2),(nameL q 3,numL c 3)] from rfl,Option.bind_some,if_pos ⟨by simp,by simpa[namesL] using nd⟩,← sn_pairs]
  rfl
 have e0:=cleans_store (snL q c) (gL q c)
 have hf:ex (callI W Γ (n+9)) W (.fr (.tp [(.nm 3),(.nm 4)]) (.enum (.call "_law_names" (.cons (.var 0) .nil))) (.cons (.set 5 (.call "_law_mix" (.cons (.bin .add (.call "_law_cell" (.cons (.var 0) (.cons (.var 1) .nil))) (.bin .mul (.con (.int 13)) (.var 3))) (.cons (.con (.int 9829)) (.cons (.con (.int 997)) .nil))))) (.cons (.ite (.val (.cmp .eq (.bin .mod (.call "_law_cell" (.cons (.var 0) (.cons (.var 1) .nil))) (.con (.int 4))) (.con (.int 0)))) (.cons (.set 5 (.bin .mod (.var 5) (.con (.int 3)))) .nil) .nil) (.cons (.drop (.app (.var 2) (.tup (.cons (.var 4) (.cons (.var 5) .nil))))) .nil)))) [some (.scr ns),some (.int k),some (.mref 0),none,none,none] [.lst []]=some (.nx [some (.scr ns),some (.int k),some (.mref 0),some (.int 3),some (.str (nameL q 3)),some (.int (numL c 3))],[.lst [.tup [.str (nameL q 0),.int (numL c 0)],.tup [.str (nameL q 1),.int (numL c 1)],.tup [.str (nameL q 2),.int (numL c 2)],.tup [.str (nameL q 3),.int (numL c 3)]]]):=by
  rw[sex_8]
  by_cases h4:c % 4=0
  ·simp[hn,namesL,enumD,forL,hc,hm,bin_mulL,bin_mod,h4,lstOf,numL]
  ·simp[hn,namesL,enumD,forL,hc,hm,bin_mulL,bin_mod,h4,lstOf,numL]
 have e5:exs (callI W Γ (n+9)) W F_qstore.body ([D.scr ns,.int k].map some++List.replicate (F_qstore.ns-F_qstore.ps) none) []=some (.rt (.tup (pairsD (snL q c) (gL q c))),[.lst [.tup [.str (nameL q 0),.int (numL c 0)],.tup [.str (nameL q 1),.int (numL c 1)],.tup [.str (nameL q 2),.int (numL c 2)],.tup [.str (nameL q 3),.int (numL c 3)]]]):=by
  simp[F_qstore,b_qstore,mkL,hf,hs,tuple_lst]
 rw[e5]
 simp[out_clean (d:=.tup (pairsD (snL q c) (gL q c))) e0]
end
end T
end
section
namespace T
open PySem L2 WL WW
theorem lay_name(q:Int)(k:Nat):(PyData.str (nameL q k)).canLay0=true:=by
 have h:=name_ok q k
 simp only[PyData.canLay0,PyData.strOk,Array.all_eq_true_iff_forall_mem]
 intro x hx
 have:=h x (by simpa using hx)
 simp;omega
theorem len_tup{xs:List D}{m:Mem}:b1D .len (.tup xs) m=some (.int xs.length,m):=rfl
def frS:Sms→Sms
 | .cons (.fr _ _ b) _=>b
 | s=>s
end T
end
section
namespace T
open PySem L2 WL WW
structure Stand(nm ks:List Str)(f:Str→Int):Prop where
 nd:ks.Nodup
 sub:∀ x∈ks,x∈nm
 zero:∀ x,x∉ks→f x=0
def mg(ks:List Str)(s:S Str):Mem:=[.dct (ksOf ks) (vsOf ks s.f),.lst (s.sh.map shD),.lst ((s.st.map dD).reverse)]
section
variable{W:Nat}{Γ:String→Option Fn}{n:Nat}
end
end T
end
section
namespace T
open PySem L2 WL WW
theorem strLe_tot(a b:Str):(strLe a b||strLe b a)=true:=by
 unfold strLe
 by_cases h:b.cps.toList<a.cps.toList
 ·have:¬ a.cps.toList<b.cps.toList:=fun q=>List.lt_irrefl _ (List.lt_trans h q)
  simp[this]
 ·simp[h]
theorem strLe_anti{a b:Str}(h:strLe a b=true)(h':strLe b a=true):a=b:=by
 unfold strLe at h h'
 simp at h h'
 have:a.cps.toList=b.cps.toList:=List.le_antisymm h h'
 cases a;cases b
 simp at this
 rw[this]
theorem strLe_tr{a b c:Str}(h:strLe a b=true)(h':strLe b c=true):strLe a c=true:=by
 unfold strLe at h h' ⊢
 simp at h h' ⊢
 exact List.le_trans h h'
theorem sort_sorted(l:List Str):(sortStr l).Pairwise (fun a b=>strLe a b=true):=List.pairwise_mergeSort (le:=strLe) (fun a b c h h'=>strLe_tr h h') strLe_tot l
section
variable{W:Nat}{Γ:String→Option Fn}{n:Nat}
end
end T
end
section
namespace T
open PySem L2 WL WW
section
variable{m0:Mem}{ks ks':List Str}{st st':List (Dd Str)}{f f':Str→Int}{sh sh':List (Int×Int)}{t t':Int}{s:S Str}
end
section
variable{W:Nat}{Γ:String→Option Fn}{n:Nat}{m0:Mem}{prog:D}{most t:Int}{x6 x7 x8:Option D}{ks:List Str}{k:List (Dd Str)}{f:Str→Int}{sh:List (Int×Int)}{d:Dd Str}
variable{sn:List Str}
end
end T
end
section
namespace T
open PySem L2 WL WW
section
variable{W:Nat}{Γ:String→Option Fn}{n:Nat}{m0:Mem}
end
end T
end
section
namespace T
open PySem L2 WL WW
section
variable{W:Nat}{Γ:String→Option Fn}{n:Nat}{m0:Mem}
end
end T
end
section
namespace T
open PySem L2 WL WW
inductive Pt where
 | tm (t:Tm Str) | dd (d:Dd Str)
section
variable{W:Nat}{Γ:String→Option Fn}{n:Nat}{m:Mem}
theorem sl1{a b c:D}:slD (.tup [a,b,c]) (some 1) none=some (.tup [b,c]):=rfl
theorem sl2{a b c:D}:slD (.tup [a,b,c]) (some 2) none=some (.tup [c]):=rfl
theorem isin_tup{x:Str}{ys:List Str}:cmpD .isin (.str x) (.tup (ys.map .str))=some (ys.any fun y=>decide (x=y)):=by
 have h1:D.flat (.str x)=true:=rfl
 have h2:=flat_strs ys
 have h3:inD (.str x) (ys.map .str)=ys.any fun y=>decide (x=y):=by
  simp only[inD,List.any_map]
  rfl
 show (if D.flat (.str x)&&(ys.map D.str).all D.flat then some (inD (.str x) (ys.map .str)) else none)=_
 rw[h1,h2,h3];rfl
theorem isin3{x a b c:Str}:cmpD .isin (.str x) (.tup [.str a,.str b,.str c])=some (decide (x=a)||(decide (x=b)||decide (x=c))):=by
 have:=isin_tup (x:=x) (ys:=[a,b,c])
 simpa using this
end
end T
end
section
namespace T
open PySem L2 WL WW
section
variable{m0:Mem}{ks ks':List Str}{ps ps':List Pt}
end
section
variable{W:Nat}{Γ:String→Option Fn}{n:Nat}{m0:Mem}{prog:D}
end
end T
end
section
namespace T
open PySem L2 WL WW
def keepD(g:Str→Int)(l:Int):Dd Str→Bool
 | .put x _=>decide (g x≤l)
 | .sho k _=>decide (k≤l)
 | .ite e _ _=>e.names.all fun x=>decide (g x≤l)
 | .whl _ _=>true
theorem ev_compA{C:String→List D→Mem→Option (D×Mem)}{α:Type}{k:Nat}{g:Tg}{i:Ie}{t:Te}{e:Ex}{σ:DS}{m:Mem}{xs:List α}{dd:α→D}{h:α→Option D}(ho:outT σ.length g=true)(hi:ei C i σ m=some (⟨xs.map dd,none⟩,m))(hl:xs.length≤1000)
  (hf:∀ a∈xs,∃ σ1 c,bindT g (dd a) (σ++List.replicate k none)=some σ1∧et C t σ1 m=some (c,m)∧(if c=true then (h a).isSome=true∧ev C e σ1 m=some ((h a).getD .non,m) else h a=none)):ev C (.comp false k g i t e) σ m=some (.lst (xs.filterMap h),m):=by
 have key:∀ (ys:List α) (w:List D),(∀ a∈ys,a∈xs)→compL ⟨w,none⟩ (fun d m=>(bindT g d (σ++List.replicate k none)).bind fun σ1=>(et C t σ1 m).bind fun(c,m2)=>if c then (ev C e σ1 m2).map fun(y,m3)=>(some y,m3) else some (none,m2)) (ys.map dd) m=some (ys.filterMap h,m):=by
  intro ys w
  induction ys with
  | nil=>exact fun _=>rfl
  | cons a r ih=>
   intro hs
   obtain⟨σ1,c,e1,e2,e3⟩:=hf a (hs a List.mem_cons_self)
   have ih:=ih fun b hb=>hs b (List.mem_cons_of_mem _ hb)
   rw[List.map_cons,compL,if_pos (show Walk.ok ⟨w,none⟩ m=true from rfl)]
   cases c with
   | true=>
    rw[if_pos rfl]at e3
    obtain⟨e3,e4⟩:=e3
    simp only[e1,e2,Option.bind_some,if_true,e4,Option.map_some,ih]
    cases hh:h a with
    | none=>rw[hh]at e3;cases e3
    | some y=>simp[List.filterMap_cons,hh]
   | false=>
    rw[if_neg (by decide)]at e3
    simp only[e1,e2,Option.bind_some,Bool.false_eq_true,if_false,ih]
    simp[List.filterMap_cons,e3]
 show (if outT σ.length g=true then (ei C i σ m).bind _ else none)=_
 rw[if_pos ho,hi]
 simp only[Option.bind_some]
 rw[key xs _ fun a h=>h]
 have:=List.length_filterMap_le h xs
 simp only[Option.bind_some]
 rw[if_pos (by omega)]
 rfl
theorem bls_of{α:Type}(f:α→Bool):∀ l:List α,blsOf (l.map fun x=>.bl (f x))=some (l.map f)
 | []=>rfl
 | a::r=>by
  have:=bls_of f r
  simp only[List.map_cons,blsOf,this,Option.map_some]
theorem all_lst{α:Type}(f:α→Bool)(l:List α)(m:Mem):b1D .all (.lst (l.map fun x=>.bl (f x))) m=some (.bl (l.all f),m):=by
 show ((blsOf (l.map fun x=>D.bl (f x))).map fun bs=>(D.bl (bs.all id),m))=_
 rw[bls_of]
 simp[List.all_map,Function.comp_def]
section
variable{W:Nat}{Γ:String→Option Fn}{n:Nat}{m:Mem}
variable{nm hk:List Str}{g:Str→Int}{l:Int}
end
end T
end
section
namespace T
open PySem L2 WL WW
section
variable{W:Nat}{Γ:String→Option Fn}{nm hk:List Str}{g:Str→Int}{l:Int}
theorem bl_len(b:Bl Str):b.list.length≤b.size:=by
 have:=len_sizes b.list
 rw[sizes_list]at this
 exact this
theorem bl_sz{b:Bl Str}{d:Dd Str}(h:d∈b.list):d.size≤b.size:=by
 have:=size_mem h
 rw[sizes_list]at this
 exact this
end
end T
end
section
namespace T
open PySem L2 WL WW
section
variable{W:Nat}{Γ:String→Option Fn}{nm hk:List Str}{g:Str→Int}{l:Int}
end
def lkp(qs:List (Str×Int))(x:Str):Int:=(qs.lookup x).getD 0
theorem lkp_of:∀ {qs:List (Str×Int)},(qs.map (·.1)).Nodup→∀ p∈qs,lkp qs p.1=p.2
 | (a,b)::r,h,p,hp=>by
  have h':=List.nodup_cons.mp (show (a::r.map (·.1)).Nodup from h)
  rcases List.mem_cons.mp hp with rfl | hp
  ·simp[lkp,List.lookup_cons]
  ·have hne:(p.1==a)=false:=by
    rw[beq_eq_false_iff_ne]
    intro e
    exact h'.1 (e▸List.mem_map_of_mem hp)
   have:=lkp_of h'.2 p hp
   simp only[lkp,List.lookup_cons,hne]at this ⊢
   exact this
theorem lkp_no:∀ {qs:List (Str×Int)} {x:Str},x∉qs.map (·.1)→lkp qs x=0
 | [],x,_=>rfl
 | (a,b)::r,x,h=>by
  have hne:(x==a)=false:=by
   rw[beq_eq_false_iff_ne]
   exact fun e=>h (by simp[e])
  have:=lkp_no (qs:=r) (x:=x) fun q=>h (List.mem_cons_of_mem _ q)
  simp only[lkp,List.lookup_cons,hne]at this ⊢
  exact this
theorem lkp_r{P:Int→Prop}(h0:P 0){qs:List (Str×Int)}(hn:(qs.map (·.1)).Nodup)(h:∀ p∈qs,P p.2)(x:Str):P (lkp qs x):=by
 by_cases hx:x∈qs.map (·.1)
 ·obtain⟨p,hp,rfl⟩:=List.mem_map.mp hx
  rw[lkp_of hn p hp];exact h p hp
 ·rw[lkp_no hx];exact h0
end T
end
section
namespace T
open PySem L2 WL WW
structure HasI(Γ:String→Option Fn):Prop where
 program:Γ "is_program" = some F_is_program
 house:Γ "is_house" = some F_is_house
 store:Γ "is_store" = some F_is_store
 block:Γ "is_block" = some F_is_block
 deed:Γ "is_deed" = some F_is_deed
 term:Γ "is_term" = some F_is_term
 rising:Γ "has_rising_names" = some F_has_rising_names
 named:Γ "is_named" = some F_is_named
 name:Γ "is_name" = some F_is_name
 number:Γ "is_number" = some F_is_number
 level:Γ "is_level" = some F_is_level
 whole:Γ "is_whole" = some F_is_whole
def wholeB:D→Bool
 | .int _=>true
 | _=>false
def kindB:D→Bool
 | .mref _=>false
 | .dct _ _=>false
 | _=>true
theorem occ_of:∀ c:Nat,c<26→(Builtin.Str.occurrences (Str.ofString "abcdefghijklmnopqrstuvwxyz") ⟨#[97+c]⟩ 0 26 1).isEmpty=false:=by decide +kernel
section
variable{W:Nat}{Γ:String→Option Fn}(H:HasI Γ)
include H
theorem i_whole{d:D}(hk:kindB d=true)(n:Nat)(m:Mem):callI W Γ (n+1) "is_whole" [d] m=some (.bl (wholeB d),m):=by
 refine call_ret H.whole rfl rfl ?_
 cases d with
 | mref i=>cases hk
 | dct k v=>cases hk
 | int i=>
  have h1:b1D .isInt (.int i) m=some (.bl true,m):=rfl
  have h2:b1D .isBool (.int i) m=some (.bl false,m):=rfl
  simp[F_is_whole,b_is_whole,h1,h2,wholeB]
 | bl b=>
  have h1:b1D .isInt (.bl b) m=some (.bl true,m):=rfl
  have h2:b1D .isBool (.bl b) m=some (.bl true,m):=rfl
  simp[F_is_whole,b_is_whole,h1,h2,wholeB]
 | non=>
  have h1:b1D .isInt .non m=some (.bl false,m):=rfl
  simp[F_is_whole,b_is_whole,h1,wholeB]
 | str x=>
  have h1:b1D .isInt (.str x) m=some (.bl false,m):=rfl
  simp[F_is_whole,b_is_whole,h1,wholeB]
 | tup x=>
  have h1:b1D .isInt (.tup x) m=some (.bl false,m):=rfl
  simp[F_is_whole,b_is_whole,h1,wholeB]
 | lst x=>
  have h1:b1D .isInt (.lst x) m=some (.bl false,m):=rfl
  simp[F_is_whole,b_is_whole,h1,wholeB]
 | scr x=>
  have h1:b1D .isInt (.scr x) m=some (.bl false,m):=rfl
  simp[F_is_whole,b_is_whole,h1,wholeB]
def numB(k:Int):D→Bool
 | .int i=>decide (0≤i∧i<k)
 | _=>false
theorem i_number{d:D}(hk:kindB d=true)(n:Nat)(m:Mem):callI W Γ (n+2) "is_number" [d] m=some (.bl (numB 997 d),m):=by
 have hw:=i_whole (W:=W) H hk n m
 refine call_ret (n:=n+1) H.number rfl rfl ?_
 cases d with
 | int i=>
  simp only[wholeB]at hw
  by_cases h0:0≤i
  ·simp[F_is_number,b_is_number,hw,h0,g_NUMBERS,numB]
  ·simp[F_is_number,b_is_number,hw,h0,g_NUMBERS,numB]
 | mref i=>cases hk
 | dct k v=>cases hk
 | _=>
  simp only[wholeB]at hw
  simp[F_is_number,b_is_number,hw,numB]
theorem i_level{d:D}(hk:kindB d=true)(n:Nat)(m:Mem):callI W Γ (n+2) "is_level" [d] m=some (.bl (numB 3 d),m):=by
 have hw:=i_whole (W:=W) H hk n m
 refine call_ret (n:=n+1) H.level rfl rfl ?_
 cases d with
 | int i=>
  simp only[wholeB]at hw
  by_cases h0:0≤i
  ·simp[F_is_level,b_is_level,hw,h0,g_LEVELS,numB]
  ·simp[F_is_level,b_is_level,hw,h0,g_LEVELS,numB]
 | mref i=>cases hk
 | dct k v=>cases hk
 | _=>
  simp only[wholeB]at hw
  simp[F_is_level,b_is_level,hw,numB]
def letB(x:Str):Bool:=x.cps.toList.all fun c=>!(Builtin.Str.occurrences (Str.ofString "abcdefghijklmnopqrstuvwxyz") ⟨#[c]⟩ 0 (Str.ofString "abcdefghijklmnopqrstuvwxyz").length 1).isEmpty
theorem i_name{x:Str}(hl:x.length≤1000)(n:Nat)(m:Mem):callI W Γ (n+1) "is_name" [.str x] m=some (.bl (decide (1≤x.length∧x.length≤3)&&letB x),m):=by
 refine call_ret H.name rfl rfl ?_
 have h1:b1D .isStr (.str x) m=some (.bl true,m):=rfl
 have h2:=len_str (m:=m) hl
 by_cases h3:1≤x.length∧x.length≤3
 ·have comp:ev (callI W Γ n) (.comp false 1 (.nm 1) (.txt (.var 0)) .tt (.inTxt (.var 1) (.con g_LETTERS))) [some (.str x)] m=some (.lst (x.cps.toList.map fun c=>.bl (!(Builtin.Str.occurrences (Str.ofString "abcdefghijklmnopqrstuvwxyz") ⟨#[c]⟩ 0 (Str.ofString "abcdefghijklmnopqrstuvwxyz").length 1).isEmpty)),m):=by
   have hsz:x.cps.toList.length≤1000:=by simpa[Str.length] using hl
   rw[ev_compA (xs:=x.cps.toList) (dd:=fun(c:Nat)=>.str ⟨#[c]⟩) (h:=fun c=>some (.bl (!(Builtin.Str.occurrences (Str.ofString "abcdefghijklmnopqrstuvwxyz") ⟨#[c]⟩ 0 (Str.ofString "abcdefghijklmnopqrstuvwxyz").length 1).isEmpty))) (by simp) (by simp[hl]) hsz]
   ·rw[List.filterMap_eq_map']
   ·intro c _
    refine⟨[some (.str x),some (.str ⟨#[c]⟩)],true,by simp,by simp,?_⟩
    rw[if_pos rfl]
    exact⟨rfl,by simp[g_LETTERS]⟩
  have ha:=all_lst (fun c=>!(Builtin.Str.occurrences (Str.ofString "abcdefghijklmnopqrstuvwxyz") ⟨#[c]⟩ 0 (Str.ofString "abcdefghijklmnopqrstuvwxyz").length 1).isEmpty) x.cps.toList m
  have q1:(1:Int)≤(x.length:Int):=by omega
  have q2:(x.length:Int)≤3:=by omega
  simp[F_is_name,b_is_name,h1,h2,g_LONGEST_NAME,q1,q2,comp,ha,h3,letB]
 ·rw[decide_eq_false h3,Bool.false_and]
  by_cases q1:(1:Int)≤(x.length:Int)
  ·have q2:¬ (x.length:Int)≤3:=fun q=>h3 ⟨by omega,by omega⟩
   simp[F_is_name,b_is_name,h1,h2,g_LONGEST_NAME,q1,q2]
  ·simp[F_is_name,b_is_name,h1,h2,g_LONGEST_NAME,q1]
theorem i_name_no{d:D}(hk:kindB d=true)(hs:∀ x,d≠.str x)(n:Nat)(m:Mem):callI W Γ (n+1) "is_name" [d] m=some (.bl false,m):=by
 refine call_ret H.name rfl rfl ?_
 have h1:b1D .isStr d m=some (.bl false,m):=by
  cases d with
  | mref i=>cases hk
  | dct k v=>cases hk
  | str x=>exact absurd rfl (hs x)
  | _=>rfl
 simp[F_is_name,b_is_name,h1]
omit H in
theorem letB_of{x:Str}(h:∀ q∈x.cps.toList,97≤q∧q<123):letB x=true:=by
 unfold letB
 rw[List.all_eq_true]
 intro q hq
 obtain⟨h1,h2⟩:=h q hq
 have:=occ_of (q-97) (by omega)
 rw[show 97+(q-97)=q from by omega]at this
 rw[letters_len,this]
 rfl
theorem t_not{d:D}(hk:kindB d=true)(ht:∀ xs,d≠.tup xs)(n:Nat)(m:Mem):callI W Γ (n+1) "is_term" [d] m=some (.bl false,m):=by
 refine call_ret H.term rfl rfl ?_
 have h1:b1D .isTuple d m=some (.bl false,m):=by
  cases d with
  | mref i=>cases hk
  | dct k v=>cases hk
  | tup x=>exact absurd rfl (ht x)
  | _=>rfl
 simp[F_is_term,b_is_term,h1]
theorem t_len{xs:List D}(h2:xs.length≠2)(h3:xs.length≠3)(n:Nat)(m:Mem):callI W Γ (n+1) "is_term" [.tup xs] m=some (.bl false,m):=by
 refine call_ret H.term rfl rfl ?_
 have h1:b1D .isTuple (.tup xs) m=some (.bl true,m):=rfl
 have q2:¬ (xs.length:Int)=2:=by omega
 have q3:¬ (xs.length:Int)=3:=by omega
 simp[F_is_term,b_is_term,h1,len_tup,q2,q3]
theorem t_num{b:D}{v:Bool}(n:Nat)(m:Mem)(hb:callI W Γ n "is_number" [b] m=some (.bl v,m)):callI W Γ (n+1) "is_term" [.tup [.str (Str.ofString "number"),b]] m=some (.bl v,m):=by
 refine call_ret H.term rfl rfl ?_
 have h1:∀ xs,b1D .isTuple (.tup xs) m=some (.bl true,m):=fun _=>rfl
 simp[F_is_term,b_is_term,h1,len_tup,hb]
theorem t_nam{b:D}{v:Bool}(n:Nat)(m:Mem)(hb:callI W Γ n "is_name" [b] m=some (.bl v,m)):callI W Γ (n+1) "is_term" [.tup [.str (Str.ofString "name"),b]] m=some (.bl v,m):=by
 refine call_ret H.term rfl rfl ?_
 have h1:∀ xs,b1D .isTuple (.tup xs) m=some (.bl true,m):=fun _=>rfl
 simp[F_is_term,b_is_term,h1,len_tup,hb]
theorem t_two{a b:D}(e1:eqD a (.str (Str.ofString "number"))=some false)(e2:eqD a (.str (Str.ofString "name"))=some false)(n:Nat)(m:Mem):callI W Γ (n+1) "is_term" [.tup [a,b]] m=some (.bl false,m):=by
 refine call_ret H.term rfl rfl ?_
 have h1:∀ xs,b1D .isTuple (.tup xs) m=some (.bl true,m):=fun _=>rfl
 simp[F_is_term,b_is_term,h1,len_tup,e1,e2]
theorem t_bin{o:Op}{a b:D}{u v:Bool}(n:Nat)(m:Mem)(ha:callI W Γ n "is_term" [a] m=some (.bl u,m))(hb:callI W Γ n "is_term" [b] m=some (.bl v,m)):callI W Γ (n+1) "is_term" [.tup [.str (Str.ofString (opS o)),a,b]] m=some (.bl (u&&v),m):=by
 refine call_ret H.term rfl rfl ?_
 have h1:∀ xs,b1D .isTuple (.tup xs) m=some (.bl true,m):=fun _=>rfl
 have hin:cmpD .isin (.str (Str.ofString (opS o))) g_PAIRING=some true:=by
  unfold g_PAIRING
  rw[isin3]
  cases o<;>simp[opS]
 cases u<;>simp[F_is_term,b_is_term,h1,len_tup,hin,ha,hb]
theorem t_no3{a b:D}(n:Nat)(m:Mem):callI W Γ (n+1) "is_term" [.tup [.str (Str.ofString "minus"),a,b]] m=some (.bl false,m):=by
 refine call_ret H.term rfl rfl ?_
 have h1:∀ xs,b1D .isTuple (.tup xs) m=some (.bl true,m):=fun _=>rfl
 have hin:cmpD .isin (.str (Str.ofString "minus")) g_PAIRING=some false:=by
  unfold g_PAIRING
  rw[isin3]
  simp
 simp[F_is_term,b_is_term,h1,len_tup,hin]
def Good(nm:List Str):Prop:=∀ x∈nm,(1≤x.length∧x.length≤3)∧∀ q∈x.cps.toList,97≤q∧q<123
theorem i_good{nm:List Str}(hg:Good nm){x:Str}(hx:x∈nm)(n:Nat)(m:Mem):callI W Γ (n+1) "is_name" [.str x] m=some (.bl true,m):=by
 obtain⟨h1,h2⟩:=hg x hx
 have:=i_name (W:=W) H (x:=x) (by omega) n m
 rw[letB_of h2,decide_eq_true h1]at this
 exact this
theorem t_ok{nm:List Str}(hg:Good nm):∀ {t:Tm Str} {n:Nat} (m:Mem),t.Ok (·∈nm)→t.dep+3≤n→callI W Γ n "is_term" [dT t] m=some (.bl true,m)
 | .num k,n+1,m,ho,h=>by
  obtain⟨n,rfl⟩:∃ j,n=j+2:=⟨n-2,by omega⟩
  have:=i_number (W:=W) H (d:=.int k) rfl n m
  simp only[numB,decide_eq_true (show 0≤k∧k<997 from ho)]at this
  exact t_num H _ m this
 | .nam x,n+1,m,ho,h=>by
  obtain⟨n,rfl⟩:∃ j,n=j+1:=⟨n-1,by omega⟩
  exact t_nam H _ m (i_good H hg ho n m)
 | .bin o a b,n+1,m,ho,h=>by
  simp only[Tm.dep]at h
  have:=t_bin H (o:=o) n m (t_ok hg m ho.1 (by omega)) (t_ok hg m ho.2 (by omega))
  exact this
end
end T
end
section
namespace T
open PySem L2 WL WW
section
variable{W:Nat}{Γ:String→Option Fn}(H:HasI Γ)
include H
omit H in
theorem isT_tup(xs:List D)(m:Mem):b1D .isTuple (.tup xs) m=some (.bl true,m):=rfl
omit H in
theorem isT_no{d:D}(hk:kindB d=true)(ht:∀ xs,d≠.tup xs)(m:Mem):b1D .isTuple d m=some (.bl false,m):=by
 cases d with
 | mref i=>cases hk
 | dct k v=>cases hk
 | tup x=>exact absurd rfl (ht x)
 | _=>rfl
theorem k_not{d:D}(hk:kindB d=true)(ht:∀ xs,d≠.tup xs)(n:Nat)(m:Mem):callI W Γ (n+1) "is_block" [d] m=some (.bl false,m):=by
 refine call_ret H.block rfl rfl ?_
 simp[F_is_block,b_is_block,isT_no hk ht]
theorem k_of{xs:List D}(f:D→Bool)(hl:xs.length≤1000)(n:Nat)(m:Mem)(hf:∀ d∈xs,callI W Γ n "is_deed" [d] m=some (.bl (f d),m)):callI W Γ (n+1) "is_block" [.tup xs] m=some (.bl (xs.all f),m):=by
 refine call_ret H.block rfl rfl ?_
 have comp:ev (callI W Γ n) (.comp false 1 (.nm 1) (.seq (.var 0)) .tt (.call "is_deed" (.cons (.var 1) .nil))) [some (.tup xs)] m=some (.lst (xs.map fun d=>.bl (f d)),m):=by
  rw[ev_comp_map (xs:=xs) (fun d=>.bl (f d)) (by simp) (by simp[seqOf]) hl]
  intro d hd
  exact⟨[some (.tup xs),some d],by simp,by simp,by simp[hf d hd]⟩
 simp[F_is_block,b_is_block,isT_tup,comp,all_lst]
theorem d_not{d:D}(hk:kindB d=true)(ht:∀ xs,d≠.tup xs)(n:Nat)(m:Mem):callI W Γ (n+1) "is_deed" [d] m=some (.bl false,m):=by
 refine call_ret H.deed rfl rfl ?_
 simp[F_is_deed,b_is_deed,isT_no hk ht]
theorem d_short{xs:List D}(h:xs.length<3)(n:Nat)(m:Mem):callI W Γ (n+1) "is_deed" [.tup xs] m=some (.bl false,m):=by
 refine call_ret H.deed rfl rfl ?_
 have q:(xs.length:Int)<3:=by omega
 simp[F_is_deed,b_is_deed,isT_tup,len_tup,q]
theorem d_if{a b c:D}{u v w:Bool}(n:Nat)(m:Mem)(ha:callI W Γ n "is_term" [a] m=some (.bl u,m))(hb:callI W Γ n "is_block" [b] m=some (.bl v,m))(hc:callI W Γ n "is_block" [c] m=some (.bl w,m)):callI W Γ (n+1) "is_deed" [.tup [.str (Str.ofString "if"),a,b,c]] m=some (.bl (u&&(v&&w)),m):=by
 refine call_ret H.deed rfl rfl ?_
 cases u<;>cases v<;>simp[F_is_deed,b_is_deed,isT_tup,len_tup,ha,hb,hc]
theorem d_if3{a b:D}(n:Nat)(m:Mem):callI W Γ (n+1) "is_deed" [.tup [.str (Str.ofString "if"),a,b]] m=some (.bl false,m):=by
 refine call_ret H.deed rfl rfl ?_
 simp[F_is_deed,b_is_deed,isT_tup,len_tup]
theorem d_put{a b:D}{u v:Bool}(n:Nat)(m:Mem)(ha:callI W Γ n "is_name" [a] m=some (.bl u,m))(hb:callI W Γ n "is_term" [b] m=some (.bl v,m)):callI W Γ (n+1) "is_deed" [.tup [.str (Str.ofString "put"),a,b]] m=some (.bl (u&&v),m):=by
 refine call_ret H.deed rfl rfl ?_
 cases u<;>simp[F_is_deed,b_is_deed,isT_tup,len_tup,ha,hb]
theorem d_show{a b:D}{u v:Bool}(n:Nat)(m:Mem)(ha:callI W Γ n "is_level" [a] m=some (.bl u,m))(hb:callI W Γ n "is_term" [b] m=some (.bl v,m)):callI W Γ (n+1) "is_deed" [.tup [.str (Str.ofString "show"),a,b]] m=some (.bl (u&&v),m):=by
 refine call_ret H.deed rfl rfl ?_
 cases u<;>simp[F_is_deed,b_is_deed,isT_tup,len_tup,ha,hb]
theorem d_whl{a b:D}{u v:Bool}(n:Nat)(m:Mem)(ha:callI W Γ n "is_term" [a] m=some (.bl u,m))(hb:callI W Γ n "is_block" [b] m=some (.bl v,m)):callI W Γ (n+1) "is_deed" [.tup [.str (Str.ofString "while"),a,b]] m=some (.bl (u&&v),m):=by
 refine call_ret H.deed rfl rfl ?_
 cases u<;>simp[F_is_deed,b_is_deed,isT_tup,len_tup,ha,hb]
theorem k_ok{nm:List Str}(hg:Good nm):∀ (K:Nat) {n:Nat} (m:Mem),2*K+6≤n→(∀ d:Dd Str,d.Ok (·∈nm)→d.dep≤K→d.size≤1000→callI W Γ n "is_deed" [dD d] m=some (.bl true,m)):=by
 intro K
 have blk:∀ (K n:Nat) (m:Mem),(∀ d:Dd Str,d.Ok (·∈nm)→d.dep≤K→d.size≤1000→callI W Γ n "is_deed" [dD d] m=some (.bl true,m))→∀ b:Bl Str,b.Ok (·∈nm)→b.dep≤K→b.size≤1000→callI W Γ (n+1) "is_block" [.tup (dB b)] m=some (.bl true,m):=by
  intro K n m hd b ho hb hz
  have:=k_of (W:=W) H (xs:=dB b) (fun _=>true) (by rw[dB_map,List.length_map];exact Nat.le_trans (bl_len b) hz) n m (fun d h=>by
   rw[dB_map]at h
   obtain⟨e,he,rfl⟩:=List.mem_map.mp h
   exact hd e (ho.mem e he) (Nat.le_trans (Bl.dep_mem he) hb) (Nat.le_trans (bl_sz he) hz))
  rw[show (dB b).all (fun _=>true)=true from by rw[List.all_eq_true];exact fun _ _=>rfl]at this
  exact this
 have base:∀ (K n:Nat) (m:Mem),K+3≤n→(∀ b:Bl Str,b.Ok (·∈nm)→b.dep<K→b.size≤1000→callI W Γ n "is_block" [.tup (dB b)] m=some (.bl true,m))→∀ d:Dd Str,d.Ok (·∈nm)→d.dep≤K→d.size≤1000→callI W Γ (n+1) "is_deed" [dD d] m=some (.bl true,m):=by
  intro K n m hn ih d ho hd hz
  cases d with
  | put x e=>
   simp only[Dd.dep]at hd
   obtain⟨k,rfl⟩:∃ k,n=k+1:=⟨n-1,by omega⟩
   exact d_put H _ m (i_good H hg ho.1 k m) (t_ok H hg m ho.2 (by omega))
  | sho l e=>
   simp only[Dd.dep]at hd
   obtain⟨k,rfl⟩:∃ k,n=k+2:=⟨n-2,by omega⟩
   have:=i_level (W:=W) H (d:=.int l) rfl k m
   simp only[numB,decide_eq_true (show 0≤l∧l<3 from ho.1)]at this
   exact d_show H _ m this (t_ok H hg m ho.2 (by omega))
  | ite e b c=>
   simp only[Dd.dep]at hd
   simp only[Dd.size]at hz
   exact d_if H n m (t_ok H hg m ho.1 (by omega)) (ih b ho.2.1 (by omega) (by omega)) (ih c ho.2.2 (by omega) (by omega))
  | whl e b=>
   simp only[Dd.dep]at hd
   simp only[Dd.size]at hz
   exact d_whl H n m (t_ok H hg m ho.1 (by omega)) (ih b ho.2 (by omega) (by omega))
 induction K with
 | zero=>
  intro n m h
  obtain⟨n,rfl⟩:∃ k,n=k+1:=⟨n-1,by omega⟩
  exact base 0 n m (by omega) fun b _ h=>absurd h (Nat.not_lt_zero _)
 | succ K ih=>
  intro n m h
  obtain⟨n,rfl⟩:∃ k,n=k+2:=⟨n-2,by omega⟩
  exact base (K+1) (n+1) m (by omega) fun b ho hb hz=>blk K n m (ih m (by omega)) b ho (by omega) hz
end
end T
end
section
namespace T
open PySem L2 WL WW
def S(s:String):D:=.str (Str.ofString s)
def badT(t:D)(ts:List D):List D:=[.non,.int 7,S "name",.tup [],.tup [S "number"],.tup [S "number",.int 997],.tup [S "number",.int (-1)],.tup [S "number",.bl true],.tup [S "name",S ""],.tup [S "name",S "abcd"],.tup [S "name",.int 1],.tup [S "sum",t],.tup [S "sum",t,t,t],.tup [S "less",t,.non],.tup [S "minus",t,t],.tup [S "times",.tup [],t],.tup [S "number",S "1"],.tup [S "sum",.tup [S "name",S "a1"],t],.tup [S "name",S "A"],.lst ts,.tup [.lst [S "name"],S "a"]]
section
variable{W:Nat}{Γ:String→Option Fn}{n:Nat}
theorem c_bad_term(Hb:Γ "_law_bad_term" = some F_qbad_term){ts:List D}(hc:D.clean.cleans ts=true)(c:Int)(m:Mem):∃ d∈badT (.tup ts) ts,d.clean=true∧callI W Γ (n+1) "_law_bad_term" [.int c,.tup ts] m=some (d,m):=by
 obtain⟨d,hd,e⟩:=at_mem (l:=badT (.tup ts) ts) (i:=c % 21) (by omega) (by show c % 21<21;omega)
 have hcl:d.clean=true:=by
  have:∀ x∈badT (.tup ts) ts,x.clean=true:=by
   simp only[badT,List.forall_mem_cons,S]
   simp[hc]
  exact this d hd
 refine⟨d,hd,hcl,call_ret Hb rfl hcl ?_⟩
 have hl:∀ m,b1D (.list false) (.tup ts) m=some (.lst ts,m):=fun _=>rfl
 have hbody:F_qbad_term.body=b_qbad_term:=rfl
 have e1:exs (callI W Γ n) W b_qbad_term [some (.int c),some (.tup ts),none] m=exs (callI W Γ n) W (.cons (.ret (.ix (.var 2) (.bin .mod (.var 0) (.b1 .len (.var 2))))) .nil) [some (.int c),some (.tup ts),some (.lst (badT (.tup ts) ts))] m:=by
  rfl
 show exs (callI W Γ n) W b_qbad_term [some (.int c),some (.tup ts),none] m=_
 rw[e1]
 have h21:((badT (.tup ts) ts).length:Int)=21:=rfl
 simp[len_lst,h21,bin_mod,e]
theorem t_bad(H:HasI Γ){t:D}{ts:List D}{k:Nat}(m:Mem)(hk:∀ n,k≤n→callI W Γ n "is_term" [t] m=some (.bl true,m)):∀ d∈badT t ts,∀ n,k+4≤n→callI W Γ n "is_term" [d] m=some (.bl false,m):=by
 have nm:∀ (x:String) (n:Nat),(Str.ofString x).length≤1000→(decide (1≤(Str.ofString x).length∧(Str.ofString x).length≤3)&&letB (Str.ofString x))=false→callI W Γ (n+1) "is_name" [S x] m=some (.bl false,m):=fun x n h1 h2=>by
  have:=i_name (W:=W) H h1 n m
  rw[h2]at this
  exact this
 have nu:∀ (d:D) (n:Nat),kindB d=true→numB 997 d=false→callI W Γ (n+2) "is_number" [d] m=some (.bl false,m):=fun d n h1 h2=>by
  have:=i_number (W:=W) H h1 n m
  rw[h2]at this
  exact this
 have b3:∀ (o:Op) (a b:D) (n:Nat) (u v:Bool),callI W Γ n "is_term" [a] m=some (.bl u,m)→callI W Γ n "is_term" [b] m=some (.bl v,m)→(u&&v)=false→callI W Γ (n+1) "is_term" [.tup [S (opS o),a,b]] m=some (.bl false,m):=fun o a b n u v h1 h2 h3=>by
  have:=t_bin (W:=W) H (o:=o) n m h1 h2
  rw[h3]at this
  exact this
 simp only[badT,List.forall_mem_cons]
 refine⟨?_,?_,?_,?_,?_,?_,?_,?_,?_,?_,?_,?_,?_,?_,?_,?_,?_,?_,?_,?_,?_,by simp⟩<;>intro n hn<;>obtain⟨n,rfl⟩:∃ j,n=j+4:=⟨n-4,by omega⟩
 ·exact t_not H rfl (fun _ h=>by cases h) _ m
 ·exact t_not H rfl (fun _ h=>by cases h) _ m
 ·exact t_not H rfl (fun _ h=>by cases h) _ m
 ·exact t_len H (by simp) (by simp) _ m
 ·exact t_len H (by simp) (by simp) _ m
 ·exact t_num H _ m (nu _ _ rfl rfl)
 ·exact t_num H _ m (nu _ _ rfl rfl)
 ·exact t_num H _ m (nu _ _ rfl rfl)
 ·exact t_nam H _ m (nm _ _ (by decide +kernel) (by decide +kernel))
 ·exact t_nam H _ m (nm _ _ (by decide +kernel) (by decide +kernel))
 ·exact t_nam H _ m (i_name_no H rfl (fun _ h=>by cases h) _ m)
 ·exact t_two H (by simp[S]) (by simp[S]) _ m
 ·exact t_len H (by simp) (by simp) _ m
 ·exact b3 .less _ _ _ true false (hk _ (by omega)) (t_not H rfl (fun _ h=>by cases h) _ m) rfl
 ·exact t_no3 H _ m
 ·exact b3 .times _ _ _ false true (t_len H (by simp) (by simp) _ m) (hk _ (by omega)) rfl
 ·exact t_num H _ m (nu _ _ rfl rfl)
 ·exact b3 .sum _ _ _ false true (t_nam H _ m (nm _ _ (by decide +kernel) (by decide +kernel))) (hk _ (by omega)) rfl
 ·exact t_nam H _ m (nm _ _ (by decide +kernel) (by decide +kernel))
 ·exact t_not H rfl (fun _ h=>by cases h) _ m
 ·exact t_two H (by decide +kernel) (by decide +kernel) _ m
def badD(t x:D)(b:D):List D:=[.tup [S "put",x,b],.tup [S "show",.int 1,b],.tup [S "if",b,.tup [],.tup []],.tup [S "while",b,.tup []],.tup [S "put",S "",t],.tup [S "show",.int 3,t],.tup [S "show",.bl true,t],.tup [S "if",t,.tup []],.tup [S "if",t,.tup [],.non],.tup [S "say",t],.non,.tup [S "while",t],.tup [S "show",.int (-1),t],.lst [S "put",x,t],.tup [S "put",x],.tup [S "while",t,.lst []]]
theorem c_bad_deed(Ht:Γ "_law_bad_term" = some F_qbad_term)(Hb:Γ "_law_bad_deed" = some F_qbad_deed){ts:List D}(hc:D.clean.cleans ts=true)(c:Int)(x:Str)(m:Mem):∃ b∈badT (.tup ts) ts,∃ d∈badD (.tup ts) (.str x) b,d.clean=true∧callI W Γ (n+2) "_law_bad_deed" [.int c,.tup ts,.str x] m=some (d,m):=by
 obtain⟨b,hb,hbc,eb⟩:=c_bad_term (W:=W) (n:=n) Ht hc (c / 16) m
 obtain⟨d,hd,e⟩:=at_mem (l:=badD (.tup ts) (.str x) b) (i:=c % 16) (by omega) (by show c % 16<16;omega)
 have hcl:d.clean=true:=by
  have:∀ y∈badD (.tup ts) (.str x) b,y.clean=true:=by
   simp only[badD,List.forall_mem_cons,S]
   simp[hc,hbc]
  exact this d hd
 refine⟨b,hb,d,hd,hcl,call_ret (n:=n+1) Hb rfl hcl ?_⟩
 have e1:exs (callI W Γ (n+1)) W b_qbad_deed [some (.int c),some (.tup ts),some (.str x),none,none] m=exs (callI W Γ (n+1)) W (.cons (.ret (.ix (.var 4) (.bin .mod (.var 0) (.con (.int 16))))) .nil) [some (.int c),some (.tup ts),some (.str x),some b,some (.lst (badD (.tup ts) (.str x) b))] m:=by
  exact xs_set (ev_call eb rfl) rfl
 show exs (callI W Γ (n+1)) W b_qbad_deed [some (.int c),some (.tup ts),some (.str x),none,none] m=_
 rw[e1]
 simp[bin_mod,e]
theorem d_bad(H:HasI Γ){t b x:D}{k:Nat}(m:Mem)(hk:∀ n,k≤n→callI W Γ n "is_term" [t] m=some (.bl true,m))(hx:∀ n,k≤n→callI W Γ n "is_name" [x] m=some (.bl true,m))(hb:∀ n,k+4≤n→callI W Γ n "is_term" [b] m=some (.bl false,m)):∀ d∈badD t x b,∀ n,k+5≤n→callI W Γ n "is_deed" [d] m=some (.bl false,m):=by
 have le:∀ (d:D) (n:Nat),kindB d=true→callI W Γ (n+2) "is_level" [d] m=some (.bl (numB 3 d),m):=fun d n h1=>i_level (W:=W) H h1 n m
 have e0:∀ n,callI W Γ (n+1) "is_block" [.tup []] m=some (.bl true,m):=fun n=>k_of (W:=W) H (xs:=[]) (fun _=>true) (by simp) n m (by simp)
 have nm:∀ n,callI W Γ (n+1) "is_name" [S ""] m=some (.bl false,m):=fun n=>by
  have:=i_name (W:=W) H (x:=Str.ofString "") (by decide +kernel) n m
  rw[show (decide (1≤(Str.ofString "").length∧(Str.ofString "").length≤3)&&letB (Str.ofString ""))=false from by decide +kernel]at this
  exact this
 simp only[badD,List.forall_mem_cons]
 refine⟨?_,?_,?_,?_,?_,?_,?_,?_,?_,?_,?_,?_,?_,?_,?_,?_,by simp⟩<;>intro n hn<;>obtain⟨n,rfl⟩:∃ j,n=j+5:=⟨n-5,by omega⟩
 ·exact d_put H (u:=true) (v:=false) _ m (hx _ (by omega)) (hb _ (by omega))
 ·exact d_show H (u:=true) (v:=false) _ m (le _ _ rfl) (hb _ (by omega))
 ·exact d_if H (u:=false) (v:=true) (w:=true) _ m (hb _ (by omega)) (e0 _) (e0 _)
 ·exact d_whl H (u:=false) (v:=true) _ m (hb _ (by omega)) (e0 _)
 ·exact d_put H (u:=false) (v:=true) _ m (nm _) (hk _ (by omega))
 ·exact d_show H (u:=false) (v:=true) _ m (le _ _ rfl) (hk _ (by omega))
 ·exact d_show H (u:=false) (v:=true) _ m (le _ _ rfl) (hk _ (by omega))
 ·exact d_if3 H _ m
 ·exact d_if H (u:=true) (v:=true) (w:=false) _ m (hk _ (by omega)) (e0 _) (k_not H rfl (fun _ h=>by cases h) _ m)
 ·exact d_short H (by simp) _ m
 ·exact d_not H rfl (fun _ h=>by cases h) _ m
 ·exact d_short H (by simp) _ m
 ·exact d_show H (u:=false) (v:=true) _ m (le _ _ rfl) (hk _ (by omega))
 ·exact d_not H rfl (fun _ h=>by cases h) _ m
 ·exact d_short H (by simp) _ m
 ·exact d_whl H (u:=true) (v:=false) _ m (hk _ (by omega)) (k_not H rfl (fun _ h=>by cases h) _ m)
end
end T
end
section
namespace T
open PySem L2 WL WW
theorem sort_perm{l l':List Str}(h:l.Perm l'):sortStr l=sortStr l':=
 List.Perm.eq_of_pairwise (le:=fun a b=>strLe a b=true) (fun a b _ _ h1 h2=>T.strLe_anti h1 h2) (sort_sorted l) (sort_sorted l') (((List.mergeSort_perm l strLe).trans h).trans (List.mergeSort_perm l' strLe).symm)
theorem uq_mem{x:Str}:∀ {l:List Str},x∈uniq l↔x∈l
 | []=>by simp[uniq]
 | y::r=>by
  rw[uniq]
  by_cases h:y∈r
  ·rw[if_pos h,uq_mem,List.mem_cons]
   exact⟨.inr,fun q=>q.elim (fun e=>e▸h) id⟩
  ·rw[if_neg h,List.mem_cons,List.mem_cons,uq_mem]
theorem uq_nd:∀ l:List Str,(uniq l).Nodup
 | []=>List.nodup_nil
 | y::r=>by
  rw[uniq]
  by_cases h:y∈r
  ·rw[if_pos h];exact uq_nd r
  ·rw[if_neg h];exact List.nodup_cons.mpr ⟨fun q=>h (uq_mem.mp q),uq_nd r⟩
theorem eq_lstS{l:List Str}(h:∀ x∈l,(PyData.str x).canLay0=true):eqD (.lst (l.map .str)) (.lst (l.map .str))=some true:=by
 have key:∀ l:List Str,(∀ x∈l,(PyData.str x).canLay0=true)→pyDs (l.map .str)=some (l.map PyData.str)∧PyData.canLayAll0 (l.map PyData.str)=true∧PyData.depthAll (l.map PyData.str)≤0:=by
  intro l
  induction l with
  | nil=>exact fun _=>⟨rfl,rfl,Nat.le_refl _⟩
  | cons a r ih=>
   intro h
   obtain⟨h1,h2,h3⟩:=ih fun x hx=>h x (List.mem_cons_of_mem _ hx)
   have ha:=h a List.mem_cons_self
   refine⟨by simp[pyDs,pyD,h1],by simp[PyData.canLayAll0,ha,h2],?_⟩
   simp only[List.map_cons,PyData.depthAll]
   have:(PyData.str a).depth=0:=rfl
   omega
 obtain⟨h1,h2,h3⟩:=key l h
 show eqDeep (.lst (l.map .str)) (.lst (l.map .str))=some true
 have e5:pyD (.lst (l.map .str))=some (.list (l.map PyData.str)):=by simp only[pyD,h1,Option.map_some]
 have l2:(PyData.list (l.map PyData.str)).canLay0=true:=by simpa[PyData.canLay0] using h2
 have l3:(PyData.list (l.map PyData.str)).depth≤60:=by simp only[PyData.depth];omega
 unfold eqDeep
 rw[e5,Option.bind_some,Option.bind_some,if_pos (by simp[l2];omega),SeqAt.eqv_refl _ l2]
theorem uq_of:∀ {l:List Str},l.Nodup→uniq l=l
 | [],_=>rfl
 | y::r,h=>by
  have h:=List.nodup_cons.mp h
  rw[uniq,if_neg h.1,uq_of h.2]
theorem sort_of{l:List Str}(h:l.Pairwise (fun a b=>strLe a b=true)):sortStr l=l:=
 List.Perm.eq_of_pairwise (le:=fun a b=>strLe a b=true) (fun a b _ _ h1 h2=>T.strLe_anti h1 h2) (sort_sorted l) h (List.mergeSort_perm l strLe)
def Rise(l:List Str):Prop:=l.Nodup∧l.Pairwise (fun a b=>strLe a b=true)
theorem sset_of{l:List Str}(hl:l.length≤4)(m:Mem):b1D (.sortedSet false) (.lst (l.map .str)) m=some (.lst ((sortStr (uniq l)).map .str),m):=by
 have hu:(uniq l).length≤l.length:=(uq_nd l).length_le_of_subset fun x hx=>uq_mem.mp hx
 show ((strsOf (l.map D.str)).bind fun ss=>if ss.length≤4000∧(uniq ss).length<64 then some (mkL false ((sortStr (uniq ss)).map .str) m) else none)=_
 rw[strs_of,Option.bind_some,if_pos ⟨by omega,by omega⟩]
 rfl
def prD(p:D×D):D:=.tup [p.1,p.2]
section
variable{W:Nat}{Γ:String→Option Fn}(H:HasI Γ)
include H
theorem n_not{d:D}(hk:kindB d=true)(ht:∀ xs,d≠.tup xs)(n:Nat)(m:Mem):callI W Γ (n+1) "is_named" [d] m=some (.bl false,m):=by
 refine call_ret H.named rfl rfl ?_
 simp[F_is_named,b_is_named,isT_no hk ht]
theorem n_len{xs:List D}(h:xs.length≠2)(n:Nat)(m:Mem):callI W Γ (n+1) "is_named" [.tup xs] m=some (.bl false,m):=by
 refine call_ret H.named rfl rfl ?_
 have q:¬ (xs.length:Int)=2:=by omega
 simp[F_is_named,b_is_named,isT_tup,len_tup,q]
theorem n_two{p:D×D}{u:Bool}(n:Nat)(m:Mem)(h:callI W Γ n "is_name" [p.1] m=some (.bl u,m)):callI W Γ (n+1) "is_named" [prD p] m=some (.bl u,m):=by
 refine call_ret H.named rfl rfl ?_
 simp[F_is_named,b_is_named,isT_tup,len_tup,prD,h]
theorem h_not{d:D}(hk:kindB d=true)(ht:∀ xs,d≠.tup xs)(n:Nat)(m:Mem):callI W Γ (n+1) "has_rising_names" [d] m=some (.bl false,m):=by
 refine call_ret H.rising rfl rfl ?_
 simp[F_has_rising_names,b_has_rising_names,isT_no hk ht]
theorem h_no{xs:List D}(f:D→Bool)(hl:xs.length≤1000)(n:Nat)(m:Mem)(hf:∀ d∈xs,callI W Γ n "is_named" [d] m=some (.bl (f d),m))(ha:xs.all f=false):callI W Γ (n+1) "has_rising_names" [.tup xs] m=some (.bl false,m):=by
 refine call_ret H.rising rfl rfl ?_
 have comp:ev (callI W Γ n) (.comp false 1 (.nm 2) (.seq (.var 0)) .tt (.call "is_named" (.cons (.var 2) .nil))) [some (.tup xs),none] m=some (.lst (xs.map fun d=>.bl (f d)),m):=by
  rw[ev_comp_map (xs:=xs) (fun d=>.bl (f d)) (by simp) (by simp[seqOf]) hl]
  intro d hd
  exact⟨[some (.tup xs),none,some d],by simp,by simp,by simp[hf d hd]⟩
 simp[F_has_rising_names,b_has_rising_names,isT_tup,comp,all_lst,ha]
theorem h_of{ps:List (Str×D)}{v:Bool}(hl:ps.length≤4)(n:Nat)(m:Mem)(hf:∀ p∈ps,callI W Γ n "is_name" [.str p.1] m=some (.bl true,m))(he:eqD (.lst ((ps.map (·.1)).map .str)) (.lst ((sortStr (uniq (ps.map (·.1)))).map .str))=some v):callI W Γ (n+2) "has_rising_names" [.tup (ps.map fun p=>prD (.str p.1,p.2))] m=some (.bl v,m):=by
 refine call_ret (n:=n+1) H.rising rfl rfl ?_
 have comp:ev (callI W Γ (n+1)) (.comp false 1 (.nm 2) (.seq (.var 0)) .tt (.call "is_named" (.cons (.var 2) .nil))) [some (.tup (ps.map fun p=>prD (.str p.1,p.2))),none] m=some (.lst (ps.map fun _=>.bl true),m):=by
  rw[ev_compA (xs:=ps) (dd:=fun p=>prD (.str p.1,p.2)) (h:=fun _=>some (.bl true)) (by simp) (by simp[seqOf]) (by omega)]
  ·rw[List.filterMap_eq_map']
  ·intro p hp
   refine⟨[some (.tup (ps.map fun p=>prD (.str p.1,p.2))),none,some (prD (.str p.1,p.2))],true,by simp,by simp,?_⟩
   rw[if_pos rfl]
   exact⟨rfl,by simp[n_two H (p:=(.str p.1,p.2)) n m (hf p hp)]⟩
 have ha:=all_lst (fun _=>true) ps m
 have hb:ps.all (fun _=>true)=true:=by rw[List.all_eq_true];exact fun _ _=>rfl
 rw[hb]at ha
 have com2:ev (callI W Γ (n+1)) (.comp false 1 (.nm 2) (.seq (.var 0)) .tt (.ix (.var 2) (.con (.int 0)))) [some (.tup (ps.map fun p=>prD (.str p.1,p.2))),none] m=some (.lst ((ps.map (·.1)).map .str),m):=by
  rw[ev_compA (xs:=ps) (dd:=fun p=>prD (.str p.1,p.2)) (h:=fun p=>some (.str p.1)) (by simp) (by simp[seqOf]) (by omega)]
  ·rw[List.filterMap_eq_map',List.map_map];rfl
  ·intro p hp
   refine⟨[some (.tup (ps.map fun p=>prD (.str p.1,p.2))),none,some (prD (.str p.1,p.2))],true,by simp,by simp,?_⟩
   rw[if_pos rfl]
   exact⟨rfl,by simp[prD]⟩
 have hs:=sset_of (l:=ps.map (·.1)) (by simpa using hl) m
 have e1:exs (callI W Γ (n+1)) W b_has_rising_names [some (.tup (ps.map fun p=>prD (.str p.1,p.2))),none] m=exs (callI W Γ (n+1)) W (.cons (.ret (.cmp .eq (.var 1) (.b1 (.sortedSet false) (.var 1)))) .nil) [some (.tup (ps.map fun p=>prD (.str p.1,p.2))),some (.lst ((ps.map (·.1)).map .str))] m:=by
  generalize (ps.map (·.1)).map D.str=ls at com2
  simp[b_has_rising_names,isT_tup,comp,ha,com2]
 show exs (callI W Γ (n+1)) W b_has_rising_names [some (.tup (ps.map fun p=>prD (.str p.1,p.2))),none] m=_
 rw[e1]
 generalize (ps.map (·.1)).map D.str=ls at hs he
 generalize (sortStr (uniq (ps.map (·.1)))).map D.str=lt at hs he
 simp[hs,he]
theorem o_no{d:D}(n:Nat)(m:Mem)(h:callI W Γ n "has_rising_names" [d] m=some (.bl false,m)):callI W Γ (n+1) "is_house" [d] m=some (.bl false,m)∧callI W Γ (n+1) "is_store" [d] m=some (.bl false,m):=
 ⟨call_ret H.house rfl rfl (by simp[F_is_house,b_is_house,h]),call_ret H.store rfl rfl (by simp[F_is_store,b_is_store,h])⟩
theorem o_of{ps:List (D×D)}(hl:ps.length≤4)(n:Nat)(m:Mem)(h:callI W Γ (n+2) "has_rising_names" [.tup (ps.map prD)] m=some (.bl true,m))(hk:∀ p∈ps,kindB p.2=true):callI W Γ (n+3) "is_house" [.tup (ps.map prD)] m=some (.bl (ps.all fun p=>numB 3 p.2),m)∧callI W Γ (n+3) "is_store" [.tup (ps.map prD)] m=some (.bl (ps.all fun p=>numB 997 p.2),m):=by
 have comp:∀ (f:String) (k:Int),(∀ d,kindB d=true→callI W Γ (n+2) f [d] m=some (.bl (numB k d),m))→ev (callI W Γ (n+2)) (.comp false 1 (.nm 1) (.seq (.var 0)) .tt (.call f (.cons (.ix (.var 1) (.con (.int 1))) .nil))) [some (.tup (ps.map prD))] m=some (.lst (ps.map fun p=>.bl (numB k p.2)),m):=by
  intro f k hf
  rw[ev_compA (xs:=ps) (dd:=prD) (h:=fun p=>some (.bl (numB k p.2))) (by simp) (by simp[seqOf]) (by omega)]
  ·rw[List.filterMap_eq_map']
  ·intro p hp
   refine⟨[some (.tup (ps.map prD)),some (prD p)],true,by simp,by simp,?_⟩
   rw[if_pos rfl]
   refine⟨rfl,?_⟩
   have:=hf p.2 (hk p hp)
   simp[prD,this]
 have c1:=comp "is_level" 3 fun d hd=>i_level (W:=W) H hd n m
 have c2:=comp "is_number" 997 fun d hd=>i_number (W:=W) H hd n m
 have a1:=all_lst (fun p:D×D=>numB 3 p.2) ps m
 have a2:=all_lst (fun p:D×D=>numB 997 p.2) ps m
 exact⟨call_ret H.house rfl rfl (by simp[F_is_house,b_is_house,h,c1,a1]),call_ret H.store rfl rfl (by simp[F_is_store,b_is_store,h,c2,a2])⟩
end
end T
end
section
namespace T
open PySem L2 WL WW
theorem sortSI_rise(ps:List (Str×Int)):((sortSI ps).map (·.1)).Pairwise (fun a b=>strLe a b=true):=by
 rw[List.pairwise_map]
 exact List.pairwise_mergeSort (le:=fun p q:Str×Int=>strLe p.1 q.1) (fun a b c h h'=>strLe_tr h h') (fun a b=>strLe_tot a.1 b.1) ps
theorem house_ofR{nm:List Str}{ps:List (Str×Int)}(hn:(ps.map (·.1)).Nodup)(hs:∀ p∈ps,p.1∈nm)(h4:ps.length≤4)(hl:∀ p∈ps,0≤p.2∧p.2≤2){xs:List D}(hx:xs=ps.map unSI)(m:Mem):∃ (hk:List Str) (g:Str→Int),Rise hk∧Stand nm hk g∧(∀ x,0≤g x∧g x≤2)∧b1D (.sorted false) (.lst xs) m=some (.lst (pairsD hk g),m):=by
 have hp:(sortSI ps).Perm ps:=List.mergeSort_perm ps _
 have hn':((sortSI ps).map (·.1)).Nodup:=(hp.map (·.1)).nodup_iff.mpr hn
 refine⟨(sortSI ps).map (·.1),lkp (sortSI ps),⟨hn',sortSI_rise ps⟩,⟨hn',fun x hx=>?_,fun x hx=>lkp_no hx⟩,lkp_r (P:=fun i=>0≤i∧i≤2) (by omega) hn' (fun p q=>hl p (hp.mem_iff.mp q)),?_⟩
 ·obtain⟨p,q,rfl⟩:=List.mem_map.mp hx
  exact hs p (hp.mem_iff.mp q)
 ·have e1:∀ qs:List (Str×Int),pairSIs (qs.map unSI)=some qs:=fun qs=>by
   induction qs with
   | nil=>rfl
   | cons a r ih=>simp only[List.map_cons,unSI,pairSIs]at ih ⊢;rw[show pairSIs (r.map unSI)=some r from ih];rfl
  have e2:(sortSI ps).map unSI=pairsD ((sortSI ps).map (·.1)) (lkp (sortSI ps)):=by
   unfold pairsD
   rw[List.map_map]
   exact List.map_congr_left fun p q=>by
    show unSI p=D.tup [.str p.1,.int (lkp (sortSI ps) p.1)]
    rw[lkp_of hn' p q];rfl
  subst hx
  show ((pairSIs (ps.map unSI)).bind fun qs=>if (ps.map unSI).length≤4∧(qs.map (·.1)).Nodup then some (mkL false ((sortSI qs).map unSI) m) else none)=_
  rw[e1,Option.bind_some,if_pos ⟨by simpa using h4,hn⟩,e2]
  rfl
section
variable{W:Nat}{Γ:String→Option Fn}{n:Nat}
theorem zip_SI:∀ (a:List Str) (b:List Int),zipD (a.map .str) (b.map .int)=(a.zip b).map unSI
 | [],_=>by simp[zipD]
 | _::_,[]=>by simp[zipD]
 | x::a,y::b=>by simp[zipD,zip_SI a b,unSI]
theorem c_house(H:HasP Γ)(Hh:Γ "_law_house" = some F_qhouse){ns:List Int}(m:Mem):∃ (hk:List Str) (g:Str→Int),Rise hk∧Stand (namesL (cellv ns 0)) hk g∧(∀ x,0≤g x∧g x≤2)∧callI W Γ (n+10) "_law_house" [.scr ns] m=some (.tup (pairsD hk g),m):=by
 have hc:=c_cell (W:=W) (n:=n+8) (m:=m) H.cell (ns:=ns) (k:=1)
 have hn:=c_names (W:=W) (n:=n+6) (m:=m) H.mix H.cell H.name H.names (ns:=ns)
 have hl:=c_levels (W:=W) (n:=n+7) (m:=m) H.mix H.cell H.levels (ns:=ns)
 have hnd:=names_nodup (cellv ns 0)
 have hlr:=levels_r (cellv ns 1)
 have hnl:(namesL (cellv ns 0)).length=4:=rfl
 have hll:(levelsL (cellv ns 1)).length=4:=rfl
 generalize namesL (cellv ns 0)=nm at *
 generalize levelsL (cellv ns 1)=lv at *
 generalize cellv ns 1=c at *
 have hz:=zip_SI nm lv
 have hzl:(nm.zip lv).length=4:=by rw[List.length_zip];omega
 have hkeys:(nm.zip lv).map (·.1)=nm:=List.map_fst_zip (by omega)
 obtain⟨ps,hps,hsub⟩:∃ ps:List (Str×Int),ps=(if c % 3=0 then (nm.zip lv).filter (fun p=>decide (0<p.2)) else nm.zip lv)∧ps.Sublist (nm.zip lv):=by
  refine⟨_,rfl,?_⟩
  split
  ·exact List.filter_sublist
  ·exact List.Sublist.refl _
 have hmem:∀ p∈ps,p∈nm.zip lv:=fun p hp=>hsub.subset hp
 obtain⟨hk,g,hR,hS,hr,hs⟩:=house_ofR (nm:=nm) (ps:=ps) ((hsub.map (·.1)).nodup (by rw[hkeys];exact hnd)) (fun p hp=>by
   rw[← hkeys];exact List.mem_map_of_mem (hmem p hp)) (by have:=hsub.length_le;omega) (fun p hp=>by
   have:=hlr p.2 (List.of_mem_zip (hmem p hp)).2
   omega) rfl m
 refine⟨hk,g,hR,hS,hr,?_⟩
 have hcl:=cleans_store hk g
 refine call_ret (n:=n+9) Hh rfl (by exact hcl) ?_
 have comp:ev (callI W Γ (n+9)) (.comp false 1 (.nm 2) (.seq (.var 1)) (.val (.cmp .gt (.ix (.var 2) (.con (.int 1))) (.con (.int 0)))) (.var 2)) [some (.scr ns),some (.lst ((nm.zip lv).map unSI))] m=some (.lst (((nm.zip lv).filter (fun p=>decide (0<p.2))).map unSI),m):=by
  rw[ev_compA (xs:=nm.zip lv) (dd:=unSI) (h:=fun p=>if 0<p.2 then some (unSI p) else none) (by simp) (by simp[seqOf]) (by omega)]
  ·congr 2
   rw[← List.filterMap_eq_map',List.filterMap_filter]
   simp only[decide_eq_true_eq]
  ·intro p _
   refine⟨[some (.scr ns),some (.lst ((nm.zip lv).map unSI)),some (unSI p)],decide (0<p.2),by simp,by simp[unSI],?_⟩
   by_cases h:0<p.2<;>simp[h]
 have hlen:nm.length≤1000:=by omega
 have hmk:∀ xs:List D,mkL false xs m=(.lst xs,m):=fun _=>rfl
 simp at hc
 by_cases h3:c % 3=0
 ·rw[if_pos h3]at hps
  subst hps
  simp[F_qhouse,b_qhouse,hn,hl,hz,hlen,hmk,hc,bin_mod,h3,comp,hs,tuple_lst]
 ·rw[if_neg h3]at hps
  subst hps
  simp[F_qhouse,b_qhouse,hn,hl,hz,hlen,hmk,hc,bin_mod,h3,hs,tuple_lst]
theorem pairs_pr(hk:List Str)(g:Str→Int):pairsD hk g=(hk.map fun x=>(D.str x,D.int (g x))).map prD:=by
 unfold pairsD
 rw[List.map_map]
 rfl
theorem o_good(H:HasI Γ){nm hk:List Str}{g:Str→Int}(hg:Good nm)(hlay:∀ x∈nm,(PyData.str x).canLay0=true)(hR:Rise hk)(hs:∀ x∈hk,x∈nm)(h4:hk.length≤4)(n:Nat)(m:Mem):callI W Γ (n+4) "is_house" [.tup (pairsD hk g)] m=some (.bl (hk.all fun x=>decide (0≤g x∧g x<3)),m)∧callI W Γ (n+4) "is_store" [.tup (pairsD hk g)] m=some (.bl (hk.all fun x=>decide (0≤g x∧g x<997)),m):=by
 have e1:=h_of (W:=W) H (ps:=hk.map fun x=>(x,D.int (g x))) (v:=true) (by simpa using h4) (n+1) m (fun p hp=>by
  obtain⟨x,hx,rfl⟩:=List.mem_map.mp hp
  exact i_good H hg (hs x hx) _ m) (by
  have:(hk.map fun x=>(x,D.int (g x))).map (·.1)=hk:=by rw[List.map_map];exact List.map_id' hk
  rw[this,uq_of hR.1,sort_of hR.2]
  exact eq_lstS fun x hx=>hlay x (hs x hx))
 have e2:(hk.map fun x=>(x,D.int (g x))).map (fun p=>prD (.str p.1,p.2))=(hk.map fun x=>(D.str x,D.int (g x))).map prD:=by rw[List.map_map,List.map_map];rfl
 rw[e2]at e1
 obtain⟨q1,q2⟩:=o_of (W:=W) H (ps:=hk.map fun x=>(D.str x,D.int (g x))) (by simpa using h4) (n+1) m e1 (fun p hp=>by
  obtain⟨x,hx,rfl⟩:=List.mem_map.mp hp
  rfl)
 rw[List.all_map]at q1 q2
 rw[pairs_pr]
 exact⟨q1,q2⟩
def badP(prs:List D)(k:Int):List D:=[.lst prs,.tup [.tup [S "b",.int 1],.tup [S "a",.int 1]],.tup [.tup [S "a",.int 1],.tup [S "a",.int 1]],.tup [.tup [S "a"]],.tup [.tup [S "a",.int (k+1)]],.tup [.tup [S "a",.int (-1)]],.tup [.tup [S "a",.bl true]],.tup [.tup [S "A",.int 1]],.tup [.tup [S "abcd",.int 1]],.non,.tup [.lst [S "a",.int 1]],.tup [.tup [S "a",S "1"]],.tup [S "a",.int 1]]
theorem c_bad_pairs(Hb:Γ "_law_bad_pairs" = some F_qbad_pairs){ts:List D}(hc:D.clean.cleans ts=true)(k c:Int)(m:Mem):∃ d∈badP ts k,d.clean=true∧callI W Γ (n+1) "_law_bad_pairs" [.tup ts,.int k,.int c] m=some (d,m):=by
 obtain⟨d,hd,e⟩:=at_mem (l:=badP ts k) (i:=c % 13) (by omega) (by show c % 13<13;omega)
 have hcl:d.clean=true:=by
  have:∀ x∈badP ts k,x.clean=true:=by
   simp only[badP,List.forall_mem_cons,S]
   simp[hc]
  exact this d hd
 refine⟨d,hd,hcl,call_ret Hb rfl hcl ?_⟩
 have hl:∀ m,b1D (.list false) (.tup ts) m=some (.lst ts,m):=fun _=>rfl
 have e1:exs (callI W Γ n) W b_qbad_pairs [some (.tup ts),some (.int k),some (.int c),none] m=exs (callI W Γ n) W (.cons (.ret (.ix (.var 3) (.bin .mod (.var 2) (.b1 .len (.var 3))))) .nil) [some (.tup ts),some (.int k),some (.int c),some (.lst (badP ts k))] m:=by
  simp[b_qbad_pairs,mkL,hl,len_lst,badP,S]
 show exs (callI W Γ n) W b_qbad_pairs [some (.tup ts),some (.int k),some (.int c),none] m=_
 rw[e1]
 have h13:((badP ts k).length:Int)=13:=rfl
 simp[len_lst,h13,bin_mod,e]
theorem o_bad(H:HasI Γ){ts:List D}(m:Mem)(n:Nat):(∀ d∈badP ts 2,callI W Γ (n+5) "is_house" [d] m=some (.bl false,m))∧(∀ d∈badP ts 996,callI W Γ (n+5) "is_store" [d] m=some (.bl false,m)):=by
 have nm:∀ (x:String) (v:Bool) (n:Nat),(Str.ofString x).length≤1000→(decide (1≤(Str.ofString x).length∧(Str.ofString x).length≤3)&&letB (Str.ofString x))=v→callI W Γ (n+1) "is_name" [S x] m=some (.bl v,m):=fun x v n h1 h2=>by
  have:=i_name (W:=W) H h1 n m
  rw[h2]at this
  exact this
 have na:=fun n=>nm "a" true n (by decide +kernel) (by decide +kernel)
 have nb:=fun n=>nm "b" true n (by decide +kernel) (by decide +kernel)
 have nA:=fun n=>nm "A" false n (by decide +kernel) (by decide +kernel)
 have nq:=fun n=>nm "abcd" false n (by decide +kernel) (by decide +kernel)
 have one:∀ (d:D) (v:Bool),callI W Γ (n+3) "is_named" [d] m=some (.bl v,m)→v=false→callI W Γ (n+4) "has_rising_names" [.tup [d]] m=some (.bl false,m):=fun d v h hv=>h_no (W:=W) H (xs:=[d]) (fun _=>v) (by simp) (n+3) m (fun e he=>by rw[List.mem_singleton.mp he];exact h) (by simp[hv])
 have r0:callI W Γ (n+4) "has_rising_names" [.lst ts] m=some (.bl false,m):=h_not H rfl (fun _ h=>by cases h) _ m
 have r9:callI W Γ (n+4) "has_rising_names" [.non] m=some (.bl false,m):=h_not H rfl (fun _ h=>by cases h) _ m
 have r1:callI W Γ (n+4) "has_rising_names" [.tup [.tup [S "b",.int 1],.tup [S "a",.int 1]]] m=some (.bl false,m):=h_of (W:=W) H (ps:=[(Str.ofString "b",.int 1),(Str.ofString "a",.int 1)]) (v:=false) (by simp) (n+2) m (by
  intro p hp
  simp only[List.mem_cons,List.not_mem_nil,or_false]at hp
  rcases hp with rfl | rfl
  ·exact nb _
  ·exact na _) (by
  have h1:uniq [Str.ofString "b",Str.ofString "a"]=[Str.ofString "b",Str.ofString "a"]:=uq_of (by decide +kernel)
  have h2:sortStr [Str.ofString "b",Str.ofString "a"]=[Str.ofString "a",Str.ofString "b"]:=by
   rw[sort_perm (List.Perm.swap (Str.ofString "a") (Str.ofString "b") []),sort_of (by decide +kernel)]
  show eqD _ (.lst ((sortStr (uniq [Str.ofString "b",Str.ofString "a"])).map .str))=_
  rw[h1,h2]
  decide +kernel)
 have r2:callI W Γ (n+4) "has_rising_names" [.tup [.tup [S "a",.int 1],.tup [S "a",.int 1]]] m=some (.bl false,m):=h_of (W:=W) H (ps:=[(Str.ofString "a",.int 1),(Str.ofString "a",.int 1)]) (v:=false) (by simp) (n+2) m (by
  intro p hp
  simp only[List.mem_cons,List.not_mem_nil,or_false]at hp
  rcases hp with rfl | rfl
  ·exact na _
  ·exact na _) (by
  have h1:uniq [Str.ofString "a",Str.ofString "a"]=[Str.ofString "a"]:=by decide +kernel
  have h2:sortStr [Str.ofString "a"]=[Str.ofString "a"]:=sort_of (by decide +kernel)
  show eqD _ (.lst ((sortStr (uniq [Str.ofString "a",Str.ofString "a"])).map .str))=_
  rw[h1,h2]
  decide +kernel)
 have r3:=one (.tup [S "a"]) false (n_len H (by simp) _ m) rfl
 have r7:=one (.tup [S "A",.int 1]) false (n_two H (p:=(S "A",.int 1)) _ m (nA _)) rfl
 have r8:=one (.tup [S "abcd",.int 1]) false (n_two H (p:=(S "abcd",.int 1)) _ m (nq _)) rfl
 have r10:=one (.lst [S "a",.int 1]) false (n_not H rfl (fun _ h=>by cases h) _ m) rfl
 have r12:callI W Γ (n+4) "has_rising_names" [.tup [S "a",.int 1]] m=some (.bl false,m):=h_no (W:=W) H (xs:=[S "a",.int 1]) (fun _=>false) (by simp) (n+3) m (by
  intro e he
  simp only[List.mem_cons,List.not_mem_nil,or_false]at he
  rcases he with rfl | rfl
  ·exact n_not H rfl (fun _ h=>by cases h) _ m
  ·exact n_not H rfl (fun _ h=>by cases h) _ m) (by simp)
 have ra:∀ d,callI W Γ (n+4) "has_rising_names" [.tup [.tup [S "a",d]]] m=some (.bl true,m):=fun d=>h_of (W:=W) H (ps:=[(Str.ofString "a",d)]) (v:=true) (by simp) (n+2) m (by
  intro p hp
  rw[List.mem_singleton.mp hp]
  exact na _) (by
  have h2:sortStr [Str.ofString "a"]=[Str.ofString "a"]:=sort_of (by decide +kernel)
  show eqD (.lst [.str (Str.ofString "a")]) (.lst ((sortStr (uniq [Str.ofString "a"])).map .str))=_
  rw[uq_of (by decide +kernel),h2]
  decide +kernel)
 have rb:∀ d,kindB d=true→callI W Γ (n+5) "is_house" [.tup [.tup [S "a",d]]] m=some (.bl (numB 3 d),m)∧callI W Γ (n+5) "is_store" [.tup [.tup [S "a",d]]] m=some (.bl (numB 997 d),m):=fun d hd=>by
  have:=o_of (W:=W) H (ps:=[(S "a",d)]) (by simp) (n+2) m (ra d) (fun p hp=>by rw[List.mem_singleton.mp hp];exact hd)
  simpa[prD] using this
 have o:=fun {d:D} (h:callI W Γ (n+4) "has_rising_names" [d] m=some (.bl false,m))=>o_no (W:=W) H (n+4) m h
 simp only[badP,List.forall_mem_cons]
 exact⟨⟨(o r0).1,(o r1).1,(o r2).1,(o r3).1,(rb _ rfl).1,(rb _ rfl).1,(rb _ rfl).1,(o r7).1,(o r8).1,(o r9).1,(o r10).1,(rb _ rfl).1,(o r12).1,by simp⟩,⟨(o r0).2,(o r1).2,(o r2).2,(o r3).2,(rb _ rfl).2,(rb _ rfl).2,(rb _ rfl).2,(o r7).2,(o r8).2,(o r9).2,(o r10).2,(rb _ rfl).2,(o r12).2,by simp⟩⟩
end
end T
end
section
namespace T
open PySem L2 WL WW
section
variable{W:Nat}{Γ:String→Option Fn}{n:Nat}
theorem k_ofA(H:HasI Γ){ps:List (D×Bool)}(hl:ps.length≤1000)(n:Nat)(m:Mem)(hf:∀ p∈ps,callI W Γ n "is_deed" [p.1] m=some (.bl p.2,m)):callI W Γ (n+1) "is_block" [.tup (ps.map (·.1))] m=some (.bl (ps.all (·.2)),m):=by
 refine call_ret H.block rfl rfl ?_
 have comp:ev (callI W Γ n) (.comp false 1 (.nm 1) (.seq (.var 0)) .tt (.call "is_deed" (.cons (.var 1) .nil))) [some (.tup (ps.map (·.1)))] m=some (.lst (ps.map fun p=>.bl p.2),m):=by
  rw[ev_compA (xs:=ps) (dd:=fun p=>p.1) (h:=fun p=>some (.bl p.2)) (by simp) (by simp[seqOf]) hl]
  ·rw[List.filterMap_eq_map']
  ·intro p hp
   refine⟨[some (.tup (ps.map (·.1))),some p.1],true,by simp,by simp,?_⟩
   rw[if_pos rfl]
   exact⟨rfl,by simp[hf p hp]⟩
 have ha:=all_lst (fun p:D×Bool=>p.2) ps m
 simp[F_is_block,b_is_block,isT_tup,comp,ha]
theorem k_bad(H:HasI Γ){xs ys:List D}{d:D}(hl:xs.length+ys.length≤999)(n:Nat)(m:Mem)(hx:∀ e∈xs,callI W Γ n "is_deed" [e] m=some (.bl true,m))(hy:∀ e∈ys,callI W Γ n "is_deed" [e] m=some (.bl true,m))(hd:callI W Γ n "is_deed" [d] m=some (.bl false,m)):callI W Γ (n+1) "is_block" [.tup (xs++d::ys)] m=some (.bl false,m):=by
 have:=k_ofA (W:=W) H (ps:=xs.map (fun e=>(e,true))++(d,false)::ys.map (fun e=>(e,true))) (by simp;omega) n m (by
  intro p hp
  rcases List.mem_append.mp hp with hp | hp
  ·obtain⟨e,he,rfl⟩:=List.mem_map.mp hp
   exact hx e he
  ·rcases List.mem_cons.mp hp with rfl | hp
   ·exact hd
   ·obtain⟨e,he,rfl⟩:=List.mem_map.mp hp
    exact hy e he)
 have e1:(xs.map (fun e=>(e,true))++(d,false)::ys.map (fun e=>(e,true))).map (fun x:D×Bool=>x.1)=xs++d::ys:=by simp[Function.comp_def]
 have e2:(xs.map (fun e=>(e,true))++(d,false)::ys.map (fun e=>(e,true))).all (fun x:D×Bool=>x.2)=false:=by simp
 rw[e1,e2]at this
 exact this
theorem p_of(H:HasI Γ){d:D}{v:Bool}(n:Nat)(m:Mem)(h:callI W Γ n "is_block" [d] m=some (.bl v,m)):callI W Γ (n+1) "is_program" [d] m=some (.bl v,m):=by
 refine call_ret H.program rfl rfl ?_
 simp[F_is_program,b_is_program,h]
def around(t b:D)(p:List D):List D:=[.tup (b::p),.tup (p++[b]),.tup [.tup [S "if",t,.tup p,.tup [b]]],.tup [.tup [S "while",t,.tup (b::p)]]]
theorem p_bad(H:HasI Γ){t b:D}{p:List D}(hl:p.length≤900)(m:Mem)(ht:∀ n,4≤n→callI W Γ n "is_term" [t] m=some (.bl true,m))(hp:∀ n,14≤n→∀ e∈p,callI W Γ n "is_deed" [e] m=some (.bl true,m))(hb:∀ n,9≤n→callI W Γ n "is_deed" [b] m=some (.bl false,m)):∀ d∈around t b p,callI W Γ (n+19) "is_program" [d] m=some (.bl false,m):=by
 have k1:∀ n,14≤n→callI W Γ (n+1) "is_block" [.tup (b::p)] m=some (.bl false,m):=fun n hn=>k_bad (W:=W) H (xs:=[]) (by simp;omega) n m (by simp) (hp n hn) (hb n (by omega))
 have k2:∀ n,14≤n→callI W Γ (n+1) "is_block" [.tup (p++[b])] m=some (.bl false,m):=fun n hn=>k_bad (W:=W) H (ys:=[]) (by simp;omega) n m (hp n hn) (by simp) (hb n (by omega))
 have k3:∀ n,9≤n→callI W Γ (n+1) "is_block" [.tup [b]] m=some (.bl false,m):=fun n hn=>k_bad (W:=W) H (xs:=[]) (ys:=[]) (by simp) n m (by simp) (by simp) (hb n (by omega))
 have k4:∀ n,14≤n→callI W Γ (n+1) "is_block" [.tup p] m=some (.bl true,m):=fun n hn=>by
  have:=k_of (W:=W) H (xs:=p) (fun _=>true) (by omega) n m (hp n hn)
  rw[show p.all (fun _=>true)=true from by rw[List.all_eq_true];exact fun _ _=>rfl]at this
  exact this
 have sg:∀ d n,callI W Γ n "is_deed" [d] m=some (.bl false,m)→callI W Γ (n+1) "is_block" [.tup [d]] m=some (.bl false,m):=fun d n h=>k_bad (W:=W) H (xs:=[]) (ys:=[]) (by simp) n m (by simp) (by simp) h
 simp only[around,List.forall_mem_cons]
 refine⟨p_of H _ m (k1 _ (by omega)),p_of H _ m (k2 _ (by omega)),p_of H _ m (sg _ _ ?_),p_of H _ m (sg _ _ ?_),by simp⟩
 ·exact d_if H (u:=true) (v:=true) (w:=false) (n+16) m (ht _ (by omega)) (k4 (n+15) (by omega)) (k3 (n+15) (by omega))
 ·exact d_whl H (u:=true) (v:=false) (n+16) m (ht _ (by omega)) (k1 (n+15) (by omega))
structure HasB(Γ:String→Option Fn):Prop where
 term:Γ "_law_bad_term" = some F_qbad_term
 deed:Γ "_law_bad_deed" = some F_qbad_deed
 pairs:Γ "_law_bad_pairs" = some F_qbad_pairs
def bodyL:Sms:=frS (restS 5 b_law)
def sQ(ns:List Int)(nd:D)(p hs st:List D)(x5 x6 x7 x8:Option D):DS:=[some (.scr ns),some nd,some (.tup p),some (.tup hs),some (.tup st),x5,x6,x7,x8]
theorem law_step(HG:HasG Γ)(H:HasI Γ)(HB:HasB Γ){nm:List Str}(h4:nm.length=4)(hg:Good nm){x0:Str}(hx0:x0∈nm)(hat:atI (nm.map D.str) 0=some (.str x0)){p:List D}(hl:p.length≤900)(hpc:D.clean.cleans p=true)(hp:∀ m n,14≤n→∀ e∈p,callI W Γ n "is_deed" [e] m=some (.bl true,m)){hs st:List D}(hhc:D.clean.cleans hs=true)(hsc:D.clean.cleans st=true){ns:List Int}{c:Int}{x6 x7 x8:Option D}(m:Mem):∃ y6 y7 y8 o,exs (callI W Γ (n+19)) W bodyL (sQ ns (.lst (nm.map .str)) p hs st (some (.int c)) x6 x7 x8) m=some (.nx (sQ ns (.lst (nm.map .str)) p hs st (some (.int c)) y6 y7 y8),m++[o]):=by
 obtain⟨t,to,td,te⟩:=c_term (W:=W) HG.mix HG.term h4 1 c
 have e1:=te (n+16) m
 obtain⟨ts,hts⟩:∃ ts,dT t=.tup ts:=by cases t<;>exact⟨_,rfl⟩
 have htc:=clean_T t
 have htk:∀ m n,4≤n→callI W Γ n "is_term" [dT t] m=some (.bl true,m):=fun m n h=>t_ok H hg m to (by omega)
 rw[hts]at e1 htc htk
 rw[clean_tup]at htc
 obtain⟨bt,hbt,b,hb,hbc,e2⟩:=c_bad_deed (W:=W) (n:=n+17) HB.term HB.deed htc (c / 4) x0 m
 have hbt':=fun m=>t_bad (W:=W) H m (htk m) bt hbt
 have hxn:∀ m n,4≤n→callI W Γ n "is_name" [.str x0] m=some (.bl true,m):=fun m n h=>by
  obtain⟨n,rfl⟩:∃ j,n=j+1:=⟨n-1,by omega⟩
  exact i_good H hg hx0 n m
 have hbd:=fun m=>d_bad (W:=W) H m (htk m) (hxn m) (hbt' m) b hb
 let A:=around (.tup ts) b p
 let m':=m++[MO.lst A]
 obtain⟨d,hd,hat2⟩:=at_mem (l:=A) (i:=c % 4) (by omega) (by show c % 4<4;omega)
 have e3:=p_bad (W:=W) (n:=n) H hl m' (htk m') (hp m') (hbd m') d hd
 have e4:=p_of (W:=W) H (n+18) m' (k_not H (d:=.lst p) rfl (fun _ h=>by cases h) (n+17) m')
 obtain⟨d1,hd1,_,e5⟩:=c_bad_pairs (W:=W) (n:=n+18) HB.pairs hhc 2 c m'
 obtain⟨d2,hd2,_,e6⟩:=c_bad_pairs (W:=W) (n:=n+18) HB.pairs hsc 996 c m'
 have e7:=(o_bad (W:=W) (ts:=hs) H m' (n+14)).1 d1 hd1
 have e8:=(o_bad (W:=W) (ts:=st) H m' (n+14)).2 d2 hd2
 refine⟨some (.tup ts),some b,some (.mref m.length),.lst A,?_⟩
 have hlist:∀ m,b1D (.list false) (.tup p) m=some (.lst p,m):=fun _=>rfl
 have hix:ixD (.mref m.length) (.int (c % 4)) m'=some d:=by
  show (match m'[m.length]? with | some (.lst xs)=>atI xs (c % 4) | _=>none)=_
  rw[show m'[m.length]?=some (.lst A) from by simp[m']]
  exact hat2
 have q1:1+p.length≤10000:=by omega
 have q2:p.length+1≤10000:=by omega
 have hA:A.length=4:=rfl
 have s1:∀ (x6 x7 x8:Option D),ex (callI W Γ (n+19)) W (.set 8 (.lst true (.cons (.bin .add (.tup (.cons (.var 7) .nil)) (.var 2)) (.cons (.bin .add (.var 2) (.tup (.cons (.var 7) .nil))) (.cons (.tup (.cons (.tup (.cons (.con (.str (Str.ofString "if"))) (.cons (.var 6) (.cons (.var 2) (.cons (.tup (.cons (.var 7) .nil)) .nil))))) .nil)) .nil))))) (sQ ns (.lst (nm.map .str)) p hs st (some (.int c)) (some (.tup ts)) (some b) x8) m=some (.nx (sQ ns (.lst (nm.map .str)) p hs st (some (.int c)) (some (.tup ts)) (some b) (some (.mref m.length))),m++[.lst (A.take 3)]):=by
  intro x6 x7 x8
  simp[sQ,bin_tup,q1,q2,mkL,A,around,S,htc,hbc,hpc]
 have s2:ex (callI W Γ (n+19)) W (.drop (.app (.var 8) (.tup (.cons (.tup (.cons (.con (.str (Str.ofString "while"))) (.cons (.var 6) (.cons (.bin .add (.tup (.cons (.var 7) .nil)) (.var 2)) .nil)))) .nil)))) (sQ ns (.lst (nm.map .str)) p hs st (some (.int c)) (some (.tup ts)) (some b) (some (.mref m.length))) (m++[.lst (A.take 3)])=some (.nx (sQ ns (.lst (nm.map .str)) p hs st (some (.int c)) (some (.tup ts)) (some b) (some (.mref m.length))),m'):=by
  simp[sQ,bin_tup,q1,q2,lstOf,A,around,S,htc,hbc,hpc,m']
 have s3:exs (callI W Γ (n+19)) W (restS 4 bodyL) (sQ ns (.lst (nm.map .str)) p hs st (some (.int c)) (some (.tup ts)) (some b) (some (.mref m.length))) m'=some (.nx (sQ ns (.lst (nm.map .str)) p hs st (some (.int c)) (some (.tup ts)) (some b) (some (.mref m.length))),m'):=by
  generalize m'=m' at *
  simp[bodyL,frS,restS,b_law,sQ,bin_mod,hix,hlist,e3,e4,e5,e6,e7,e8]
 have hbody:bodyL=.cons (.set 6 (.call "_law_term" (.cons (.var 1) (.cons (.var 5) (.cons (.con (.int 1)) .nil))))) (.cons (.set 7 (.call "_law_bad_deed" (.cons (.bin .fdiv (.var 5) (.con (.int 4))) (.cons (.var 6) (.cons (.ix (.var 1) (.con (.int 0))) .nil))))) (.cons (.set 8 (.lst true (.cons (.bin .add (.tup (.cons (.var 7) .nil)) (.var 2)) (.cons (.bin .add (.var 2) (.tup (.cons (.var 7) .nil))) (.cons (.tup (.cons (.tup (.cons (.con (.str (Str.ofString "if"))) (.cons (.var 6) (.cons (.var 2) (.cons (.tup (.cons (.var 7) .nil)) .nil))))) .nil)) .nil))))) (.cons (.drop (.app (.var 8) (.tup (.cons (.tup (.cons (.con (.str (Str.ofString "while"))) (.cons (.var 6) (.cons (.bin .add (.tup (.cons (.var 7) .nil)) (.var 2)) .nil)))) .nil)))) (restS 4 bodyL)))):=rfl
 have t1:ex (callI W Γ (n+19)) W (.set 6 (.call "_law_term" (.cons (.var 1) (.cons (.var 5) (.cons (.con (.int 1)) .nil))))) (sQ ns (.lst (nm.map .str)) p hs st (some (.int c)) x6 x7 x8) m=some (.nx (sQ ns (.lst (nm.map .str)) p hs st (some (.int c)) (some (.tup ts)) x7 x8),m):=by
  have e1':callI W Γ (n+19) "_law_term" [.lst (nm.map .str),.int c,.int 1] m=some (.tup ts,m):=e1
  simp[sQ,e1']
 have t2:ex (callI W Γ (n+19)) W (.set 7 (.call "_law_bad_deed" (.cons (.bin .fdiv (.var 5) (.con (.int 4))) (.cons (.var 6) (.cons (.ix (.var 1) (.con (.int 0))) .nil))))) (sQ ns (.lst (nm.map .str)) p hs st (some (.int c)) (some (.tup ts)) x7 x8) m=some (.nx (sQ ns (.lst (nm.map .str)) p hs st (some (.int c)) (some (.tup ts)) (some b) x8),m):=by
  simp[sQ,bin_fdiv,hat,e2]
 rw[hbody,sexs_2,t1,Option.bind_some]
 simp only
 rw[sexs_2,t2,Option.bind_some]
 simp only
 rw[sexs_2,s1 none none,Option.bind_some]
 simp only
 rw[sexs_2,s2,Option.bind_some]
 exact s3
theorem law_list(HG:HasG Γ)(H:HasI Γ)(HB:HasB Γ){nm:List Str}(h4:nm.length=4)(hg:Good nm){x0:Str}(hx0:x0∈nm)(hat:atI (nm.map D.str) 0=some (.str x0)){p:List D}(hl:p.length≤900)(hpc:D.clean.cleans p=true)(hp:∀ m n,14≤n→∀ e∈p,callI W Γ n "is_deed" [e] m=some (.bl true,m)){hs st:List D}(hhc:D.clean.cleans hs=true)(hsc:D.clean.cleans st=true){ns:List Int}{ys:List D}:∀ (cs:List Int) (x5 x6 x7 x8:Option D) (m:Mem),∃ y5 y6 y7 y8 m',forL ⟨ys,none⟩ (.nm 5) (fun σ m=>exs (callI W Γ (n+19)) W bodyL σ m) (cs.map .int) (sQ ns (.lst (nm.map .str)) p hs st x5 x6 x7 x8) m=some (.nx (sQ ns (.lst (nm.map .str)) p hs st y5 y6 y7 y8),m')
 | [],x5,x6,x7,x8,m=>⟨x5,x6,x7,x8,m,by simp[forL,Walk.ok]⟩
 | c::r,x5,x6,x7,x8,m=>by
  obtain⟨z6,z7,z8,o,e1⟩:=law_step (W:=W) (n:=n) HG H HB h4 hg hx0 hat hl hpc hp hhc hsc (ns:=ns) (c:=c) (x6:=x6) (x7:=x7) (x8:=x8) m
  obtain⟨y5,y6,y7,y8,m',e2⟩:=law_list HG H HB h4 hg hx0 hat hl hpc hp hhc hsc (ns:=ns) (ys:=ys) r (some (.int c)) z6 z7 z8 (m++[o])
  refine⟨y5,y6,y7,y8,m',?_⟩
  have hb:bindT (.nm 5) (.int c) (sQ ns (.lst (nm.map .str)) p hs st x5 x6 x7 x8)=some (sQ ns (.lst (nm.map .str)) p hs st (some (.int c)) x6 x7 x8):=by simp[sQ]
  rw[List.map_cons,forL,if_pos (show Walk.ok ⟨ys,none⟩ m=true from rfl),hb,Option.bind_some,e1,Option.bind_some]
  exact e2
theorem good_names(q:Int):Good (namesL q):=fun x hx=>by
 have key:∀ k,(1≤(nameL q k).length∧(nameL q k).length≤3)∧∀ a∈(nameL q k).cps.toList,97≤a∧a<123:=fun k=>by
  refine⟨?_,name_ok q k⟩
  have:=tail_len q
  simp only[nameL,Str.length]
  simp
  omega
 simp only[namesL,List.mem_cons,List.not_mem_nil,or_false]at hx
 rcases hx with rfl | rfl | rfl | rfl<;>exact key _
theorem law_all(HG:HasG Γ)(H:HasI Γ)(HB:HasB Γ)(Hh:Γ "_law_house" = some F_qhouse)(HW:Γ "law" = some F_law)(hW:0≤W){ns:List Int}:callI W Γ (n+20) "law" [.scr ns] []=some (.bl true,[]):=by
 obtain⟨p,ho,hd,hz,e1⟩:=c_program (W:=W) HG.toHasP (ns:=ns) (k:=2)
 have e1:=e1 (n+9) []
 have en:=c_names (W:=W) (n:=n+16) (m:=[]) HG.mix HG.cell HG.name HG.names (ns:=ns)
 have es:=c_store (W:=W) (n:=n+9) HG (ns:=ns) (k:=5)
 obtain⟨hk,g,hR,hS,hr,eh⟩:=c_house (W:=W) (n:=n+9) HG.toHasP Hh (ns:=ns) []
 have hg:=good_names (cellv ns 0)
 have hlay:∀ x∈namesL (cellv ns 0),(PyData.str x).canLay0=true:=fun x this=>by
  simp only[namesL,List.mem_cons,List.not_mem_nil,or_false]at this
  rcases this with rfl | rfl | rfl | rfl<;>exact lay_name _ _
 generalize hq:cellv ns 0=q at *
 generalize cellv ns 5=c at *
 have hnl:(namesL q).length=4:=rfl
 have h4:hk.length≤4:=by
  have:=hS.nd.length_le_of_subset fun x hx=>hS.sub x hx
  omega
 have hp:=sn_perm q c
 have hsR:Rise (snL q c):=⟨hp.nodup_iff.mpr (names_nodup q),sortSI_rise _⟩
 have hs4:(snL q c).length≤4:=by rw[hp.length_eq];omega
 have i1:=(o_good (W:=W) (g:=g) H hg hlay hR (fun x hx=>hS.sub x hx) h4 (n+15) []).1
 have i2:=(o_good (W:=W) (g:=gL q c) H hg hlay hsR (fun x hx=>hp.mem_iff.mp hx) hs4 (n+15) []).2
 rw[show (hk.all fun x=>decide (0≤g x∧g x<3))=true from List.all_eq_true.mpr fun x _=>decide_eq_true (by have:=hr x;omega)]at i1
 rw[show ((snL q c).all fun x=>decide (0≤gL q c x∧gL q c x<997))=true from List.all_eq_true.mpr fun x _=>decide_eq_true (gL_r q c x)]at i2
 have hpd:∀ m n,14≤n→∀ e∈dB p,callI W Γ n "is_deed" [e] m=some (.bl true,m):=fun m n h e he=>by
  rw[dB_map]at he
  obtain⟨d,hd',rfl⟩:=List.mem_map.mp he
  exact k_ok H hg 4 m (by omega) d (ho.mem d hd') (Nat.le_trans (Bl.dep_mem hd') hd) (by have:=bl_sz hd';omega)
 have hpl:(dB p).length≤900:=by
  rw[dB_map,List.length_map]
  have:=bl_len p
  omega
 have i0:callI W Γ (n+19) "is_program" [.tup (dB p)] []=some (.bl true,[]):=by
  have:=k_of (W:=W) H (xs:=dB p) (fun _=>true) (by omega) (n+17) [] (hpd [] _ (by omega))
  rw[show (dB p).all (fun _=>true)=true from by rw[List.all_eq_true];exact fun _ _=>rfl]at this
  exact p_of H _ [] this
 obtain⟨y5,y6,y7,y8,m',lf⟩:=law_list (W:=W) (n:=n) HG H HB hnl hg (x0:=nameL q 0) (by simp[namesL]) (by simp[namesL]) hpl (clean_B p) hpd (cleans_store hk g) (cleans_store (snL q c) (gL q c)) (ns:=ns) (ys:=(cutI ns (some 5) (some 12)).map .int) (cutI ns (some 5) (some 12)) none none none none []
 have z0:callI W Γ (n+19) "is_program" [.tup []] m'=some (.bl true,m'):=p_of H (n+18) m' (k_of (W:=W) H (xs:=[]) (fun _=>true) (by simp) (n+17) m' (by simp))
 have z1:=o_good (W:=W) (nm:=namesL q) (hk:=[]) (g:=fun _=>0) H hg hlay ⟨List.nodup_nil,List.Pairwise.nil⟩ (by simp) (by simp) (n+15) m'
 simp only[pairsD,List.map_nil,List.all_nil]at z1
 obtain⟨z1,z2⟩:=z1
 have hsl:slD (.scr ns) (some 5) (some 12)=some (.lst ((cutI ns (some 5) (some 12)).map .int)):=by
  show some (D.lst (cutD (ns.map .int) _ _))=_
  rw[cut_map]
 rw[call_step (n:=n+19) HW rfl]
 have hfr:ex (callI W Γ (n+19)) W (.fr (.nm 5) (.seq (.sl (.var 0) (.pt (.con (.int 5))) (.pt (.con (.int 12))))) bodyL) (sQ ns (.lst ((namesL q).map .str)) (dB p) (pairsD hk g) (pairsD (snL q c) (gL q c)) none none none none) []=some (.nx (sQ ns (.lst ((namesL q).map .str)) (dB p) (pairsD hk g) (pairsD (snL q c) (gL q c)) y5 y6 y7 y8),m'):=by
  rw[sex_8]
  have he:ei (callI W Γ (n+19)) (.seq (.sl (.var 0) (.pt (.con (.int 5))) (.pt (.con (.int 12))))) (sQ ns (.lst ((namesL q).map .str)) (dB p) (pairsD hk g) (pairsD (snL q c) (gL q c)) none none none none) []=some (⟨(cutI ns (some 5) (some 12)).map .int,none⟩,[]):=by
   simp[sQ,hsl,seqOf]
  rw[he,Option.bind_some]
  exact lf
 have hbody:F_law.body=.cons (.set 1 (.call "_law_names" (.cons (.var 0) .nil))) (.cons (.set 2 (.call "_law_program" (.cons (.var 0) (.cons (.con (.int 2)) .nil)))) (.cons (.set 3 (.call "_law_house" (.cons (.var 0) .nil))) (.cons (.set 4 (.call "_law_store" (.cons (.var 0) (.cons (.con (.int 5)) .nil)))) (.cons (.ite (.or (.val (.cmp .isnot (.call "is_program" (.cons (.var 2) .nil)) (.con (.bl true)))) (.or (.val (.cmp .isnot (.call "is_house" (.cons (.var 3) .nil)) (.con (.bl true)))) (.val (.cmp .isnot (.call "is_store" (.cons (.var 4) .nil)) (.con (.bl true)))))) (.cons (.ret (.con (.bl false))) .nil) .nil) (.cons (.fr (.nm 5) (.seq (.sl (.var 0) (.pt (.con (.int 5))) (.pt (.con (.int 12))))) bodyL) (.cons (.ret (.andv (.cmp .is (.call "is_program" (.cons (.tup .nil) .nil)) (.con (.bl true))) (.andv (.cmp .is (.call "is_house" (.cons (.tup .nil) .nil)) (.con (.bl true))) (.cmp .is (.call "is_store" (.cons (.tup .nil) .nil)) (.con (.bl true)))))) .nil)))))):=rfl
 have hns:F_law.ns-F_law.ps=8:=rfl
 simp only[sQ]at hfr
 simp at e1 en es
 generalize pairsD hk g=hsd at *
 generalize pairsD (snL q c) (gL q c)=std at *
 rw[hbody,hns]
 simp[e1,en,es,eh,i0,i1,i2,hfr,z0,z1,z2,outD]
end
end T
end
section
namespace T
open PySem L2 WL PySem.Spec PyProof.Rows
theorem law_true:∀ ns:List Int,ns.length≤63→callI 100000 Γ 60 "law" [.scr ns] []=some (.bl true,[]):=fun ns _=>law_all (n:=40) ⟨⟨rfl,rfl,rfl,rfl,rfl,rfl,rfl,rfl,rfl,rfl⟩,rfl⟩ ⟨rfl,rfl,rfl,rfl,rfl,rfl,rfl,rfl,rfl,rfl,rfl,rfl⟩ ⟨rfl,rfl,rfl⟩ rfl rfl (by omega)
section
variable{P:Program}{w:World}{K:PySem.W.Frag}{mg:Str→Option Value}{base:Heap}{W:Nat}
theorem len0{l:List Value}(h:l.length=0):l=[]:=List.length_eq_zero_iff.mp h
theorem lenS{n:Nat}{l:List Value}(h:l.length=n+1):∃ a r,l=a::r∧r.length=n:=by cases l with
 | nil=>cases h
 | cons a r=>exact⟨a,r,rfl,Nat.succ.inj h⟩
theorem len1{l:List Value}(h:l.length=1):∃ a,l=[a]:=by obtain⟨a,r,rfl,k⟩:=lenS h;exact⟨a,by rw[len0 k]⟩
theorem len2{l:List Value}(h:l.length=2):∃ a b,l=[a,b]:=by obtain⟨a,r,rfl,k⟩:=lenS h;obtain⟨b,rfl⟩:=len1 k;exact⟨a,b,rfl⟩
theorem len3{l:List Value}(h:l.length=3):∃ a b c,l=[a,b,c]:=by obtain⟨a,r,rfl,k⟩:=lenS h;obtain⟨b,c,rfl⟩:=len2 k;exact⟨a,b,c,rfl⟩
theorem len4{l:List Value}(h:l.length=4):∃ a b c d,l=[a,b,c,d]:=by obtain⟨a,r,rfl,k⟩:=lenS h;obtain⟨b,c,d,rfl⟩:=len3 k;exact⟨a,b,c,d,rfl⟩
structure Th(K:PySem.W.Frag)(mg:Str→Option Value):Prop where
 t_is_program:∃ fa fd,There K mg "is_program" s_is_program ["thing"] fa fd
 t_is_house:∃ fa fd,There K mg "is_house" s_is_house ["thing"] fa fd
 t_is_store:∃ fa fd,There K mg "is_store" s_is_store ["thing"] fa fd
 t_is_block:∃ fa fd,There K mg "is_block" s_is_block ["thing"] fa fd
 t_is_deed:∃ fa fd,There K mg "is_deed" s_is_deed ["thing"] fa fd
 t_is_term:∃ fa fd,There K mg "is_term" s_is_term ["thing"] fa fd
 t_has_rising_names:∃ fa fd,There K mg "has_rising_names" s_has_rising_names ["thing"] fa fd
 t_is_named:∃ fa fd,There K mg "is_named" s_is_named ["thing"] fa fd
 t_is_name:∃ fa fd,There K mg "is_name" s_is_name ["thing"] fa fd
 t_is_number:∃ fa fd,There K mg "is_number" s_is_number ["thing"] fa fd
 t_is_level:∃ fa fd,There K mg "is_level" s_is_level ["thing"] fa fd
 t_is_whole:∃ fa fd,There K mg "is_whole" s_is_whole ["thing"] fa fd
 t_qcell:∃ fa fd,There K mg "_law_cell" s_qcell ["_law_script","_law_k"] fa fd
 t_qmix:∃ fa fd,There K mg "_law_mix" s_qmix ["_law_cell_here","_law_prime","_law_many"] fa fd
 t_qname:∃ fa fd,There K mg "_law_name" s_qname ["_law_script","_law_k"] fa fd
 t_qnames:∃ fa fd,There K mg "_law_names" s_qnames ["_law_script"] fa fd
 t_qlevels:∃ fa fd,There K mg "_law_levels" s_qlevels ["_law_script"] fa fd
 t_qhouse:∃ fa fd,There K mg "_law_house" s_qhouse ["_law_script"] fa fd
 t_qterm:∃ fa fd,There K mg "_law_term" s_qterm ["_law_names_here","_law_seed","_law_left"] fa fd
 t_qnames_in:∃ fa fd,There K mg "_law_names_in" s_qnames_in ["_law_term_here"] fa fd
 t_qdeed:∃ fa fd,There K mg "_law_deed" s_qdeed ["_law_plan","_law_cell_here","_law_deep","_law_need"] fa fd
 t_qblock:∃ fa fd,There K mg "_law_block" s_qblock ["_law_plan","_law_cell_here","_law_deep","_law_need"] fa fd
 t_qprogram:∃ fa fd,There K mg "_law_program" s_qprogram ["_law_script","_law_k"] fa fd
 t_qstore:∃ fa fd,There K mg "_law_store" s_qstore ["_law_script","_law_k"] fa fd
 t_qbad_term:∃ fa fd,There K mg "_law_bad_term" s_qbad_term ["_law_cell_here","_law_term_here"] fa fd
 t_qbad_deed:∃ fa fd,There K mg "_law_bad_deed" s_qbad_deed ["_law_cell_here","_law_term_here","_law_name_here"] fa fd
 t_qbad_pairs:∃ fa fd,There K mg "_law_bad_pairs" s_qbad_pairs ["_law_pairs","_law_most","_law_cell_here"] fa fd
 t_law:∃ fa fd,There K mg "law" s_law ["_law_script"] fa fd
theorem ds(T:Tp K mg)(H:Th K mg):∀ n,Ds P w K mg base W n
 | 0=>fun f hf=>by
  simp only[List.mem_cons,List.not_mem_nil,or_false]at hf
  rcases hf with rfl | rfl | rfl | rfl | rfl | rfl | rfl | rfl | rfl | rfl | rfl | rfl | rfl | rfl | rfl | rfl | rfl | rfl | rfl | rfl | rfl | rfl | rfl | rfl | rfl | rfl | rfl | rfl
  ·obtain⟨fa,fd,t⟩:=H.t_is_program;exact t.zero
  ·obtain⟨fa,fd,t⟩:=H.t_is_house;exact t.zero
  ·obtain⟨fa,fd,t⟩:=H.t_is_store;exact t.zero
  ·obtain⟨fa,fd,t⟩:=H.t_is_block;exact t.zero
  ·obtain⟨fa,fd,t⟩:=H.t_is_deed;exact t.zero
  ·obtain⟨fa,fd,t⟩:=H.t_is_term;exact t.zero
  ·obtain⟨fa,fd,t⟩:=H.t_has_rising_names;exact t.zero
  ·obtain⟨fa,fd,t⟩:=H.t_is_named;exact t.zero
  ·obtain⟨fa,fd,t⟩:=H.t_is_name;exact t.zero
  ·obtain⟨fa,fd,t⟩:=H.t_is_number;exact t.zero
  ·obtain⟨fa,fd,t⟩:=H.t_is_level;exact t.zero
  ·obtain⟨fa,fd,t⟩:=H.t_is_whole;exact t.zero
  ·obtain⟨fa,fd,t⟩:=H.t_qcell;exact t.zero
  ·obtain⟨fa,fd,t⟩:=H.t_qmix;exact t.zero
  ·obtain⟨fa,fd,t⟩:=H.t_qname;exact t.zero
  ·obtain⟨fa,fd,t⟩:=H.t_qnames;exact t.zero
  ·obtain⟨fa,fd,t⟩:=H.t_qlevels;exact t.zero
  ·obtain⟨fa,fd,t⟩:=H.t_qhouse;exact t.zero
  ·obtain⟨fa,fd,t⟩:=H.t_qterm;exact t.zero
  ·obtain⟨fa,fd,t⟩:=H.t_qnames_in;exact t.zero
  ·obtain⟨fa,fd,t⟩:=H.t_qdeed;exact t.zero
  ·obtain⟨fa,fd,t⟩:=H.t_qblock;exact t.zero
  ·obtain⟨fa,fd,t⟩:=H.t_qprogram;exact t.zero
  ·obtain⟨fa,fd,t⟩:=H.t_qstore;exact t.zero
  ·obtain⟨fa,fd,t⟩:=H.t_qbad_term;exact t.zero
  ·obtain⟨fa,fd,t⟩:=H.t_qbad_deed;exact t.zero
  ·obtain⟨fa,fd,t⟩:=H.t_qbad_pairs;exact t.zero
  ·obtain⟨fa,fd,t⟩:=H.t_law;exact t.zero
 | n+1=>fun f hf=>by
  have D:=ds T H n
  simp only[List.mem_cons,List.not_mem_nil,or_false]at hf
  rcases hf with rfl | rfl | rfl | rfl | rfl | rfl | rfl | rfl | rfl | rfl | rfl | rfl | rfl | rfl | rfl | rfl | rfl | rfl | rfl | rfl | rfl | rfl | rfl | rfl | rfl | rfl | rfl | rfl
  ·obtain⟨fa,fd,t⟩:=H.t_is_program;exact⟨fa,fd,_,fn_sound t.1 sc_is_program (F:=F_is_program) rfl rfl rfl (fun cdv A outer s H E hr=>ok_is_program T D hr),t.2.2,t.1.kp,t.2.1⟩
  ·obtain⟨fa,fd,t⟩:=H.t_is_house;exact⟨fa,fd,_,fn_sound t.1 sc_is_house (F:=F_is_house) rfl rfl rfl (fun cdv A outer s H E hr=>ok_is_house T D hr),t.2.2,t.1.kp,t.2.1⟩
  ·obtain⟨fa,fd,t⟩:=H.t_is_store;exact⟨fa,fd,_,fn_sound t.1 sc_is_store (F:=F_is_store) rfl rfl rfl (fun cdv A outer s H E hr=>ok_is_store T D hr),t.2.2,t.1.kp,t.2.1⟩
  ·obtain⟨fa,fd,t⟩:=H.t_is_block;exact⟨fa,fd,_,fn_sound t.1 sc_is_block (F:=F_is_block) rfl rfl rfl (fun cdv A outer s H E hr=>ok_is_block T D hr),t.2.2,t.1.kp,t.2.1⟩
  ·obtain⟨fa,fd,t⟩:=H.t_is_deed;exact⟨fa,fd,_,fn_sound t.1 sc_is_deed (F:=F_is_deed) rfl rfl rfl (fun cdv A outer s H E hr=>ok_is_deed T D hr),t.2.2,t.1.kp,t.2.1⟩
  ·obtain⟨fa,fd,t⟩:=H.t_is_term;exact⟨fa,fd,_,fn_sound t.1 sc_is_term (F:=F_is_term) rfl rfl rfl (fun cdv A outer s H E hr=>ok_is_term T D hr),t.2.2,t.1.kp,t.2.1⟩
  ·obtain⟨fa,fd,t⟩:=H.t_has_rising_names;exact⟨fa,fd,_,fn_sound t.1 sc_has_rising_names (F:=F_has_rising_names) rfl rfl rfl (fun cdv A outer s H E hr=>ok_has_rising_names T D hr),t.2.2,t.1.kp,t.2.1⟩
  ·obtain⟨fa,fd,t⟩:=H.t_is_named;exact⟨fa,fd,_,fn_sound t.1 sc_is_named (F:=F_is_named) rfl rfl rfl (fun cdv A outer s H E hr=>ok_is_named T D hr),t.2.2,t.1.kp,t.2.1⟩
  ·obtain⟨fa,fd,t⟩:=H.t_is_name;exact⟨fa,fd,_,fn_sound t.1 sc_is_name (F:=F_is_name) rfl rfl rfl (fun cdv A outer s H E hr=>ok_is_name T D hr),t.2.2,t.1.kp,t.2.1⟩
  ·obtain⟨fa,fd,t⟩:=H.t_is_number;exact⟨fa,fd,_,fn_sound t.1 sc_is_number (F:=F_is_number) rfl rfl rfl (fun cdv A outer s H E hr=>ok_is_number T D hr),t.2.2,t.1.kp,t.2.1⟩
  ·obtain⟨fa,fd,t⟩:=H.t_is_level;exact⟨fa,fd,_,fn_sound t.1 sc_is_level (F:=F_is_level) rfl rfl rfl (fun cdv A outer s H E hr=>ok_is_level T D hr),t.2.2,t.1.kp,t.2.1⟩
  ·obtain⟨fa,fd,t⟩:=H.t_is_whole;exact⟨fa,fd,_,fn_sound t.1 sc_is_whole (F:=F_is_whole) rfl rfl rfl (fun cdv A outer s H E hr=>ok_is_whole T D hr),t.2.2,t.1.kp,t.2.1⟩
  ·obtain⟨fa,fd,t⟩:=H.t_qcell;exact⟨fa,fd,_,fn_sound t.1 sc_qcell (F:=F_qcell) rfl rfl rfl (fun cdv A outer s H E hr=>ok_qcell T D hr),t.2.2,t.1.kp,t.2.1⟩
  ·obtain⟨fa,fd,t⟩:=H.t_qmix;exact⟨fa,fd,_,fn_sound t.1 sc_qmix (F:=F_qmix) rfl rfl rfl (fun cdv A outer s H E hr=>ok_qmix T D hr),t.2.2,t.1.kp,t.2.1⟩
  ·obtain⟨fa,fd,t⟩:=H.t_qname;exact⟨fa,fd,_,fn_sound t.1 sc_qname (F:=F_qname) rfl rfl rfl (fun cdv A outer s H E hr=>ok_qname T D hr),t.2.2,t.1.kp,t.2.1⟩
  ·obtain⟨fa,fd,t⟩:=H.t_qnames;exact⟨fa,fd,_,fn_sound t.1 sc_qnames (F:=F_qnames) rfl rfl rfl (fun cdv A outer s H E hr=>ok_qnames T D hr),t.2.2,t.1.kp,t.2.1⟩
  ·obtain⟨fa,fd,t⟩:=H.t_qlevels;exact⟨fa,fd,_,fn_sound t.1 sc_qlevels (F:=F_qlevels) rfl rfl rfl (fun cdv A outer s H E hr=>ok_qlevels T D hr),t.2.2,t.1.kp,t.2.1⟩
  ·obtain⟨fa,fd,t⟩:=H.t_qhouse;exact⟨fa,fd,_,fn_sound t.1 sc_qhouse (F:=F_qhouse) rfl rfl rfl (fun cdv A outer s H E hr=>ok_qhouse T D hr),t.2.2,t.1.kp,t.2.1⟩
  ·obtain⟨fa,fd,t⟩:=H.t_qterm;exact⟨fa,fd,_,fn_sound t.1 sc_qterm (F:=F_qterm) rfl rfl rfl (fun cdv A outer s H E hr=>ok_qterm T D hr),t.2.2,t.1.kp,t.2.1⟩
  ·obtain⟨fa,fd,t⟩:=H.t_qnames_in;exact⟨fa,fd,_,fn_sound t.1 sc_qnames_in (F:=F_qnames_in) rfl rfl rfl (fun cdv A outer s H E hr=>ok_qnames_in T D hr),t.2.2,t.1.kp,t.2.1⟩
  ·obtain⟨fa,fd,t⟩:=H.t_qdeed;exact⟨fa,fd,_,fn_sound t.1 sc_qdeed (F:=F_qdeed) rfl rfl rfl (fun cdv A outer s H E hr=>ok_qdeed T D hr),t.2.2,t.1.kp,t.2.1⟩
  ·obtain⟨fa,fd,t⟩:=H.t_qblock;exact⟨fa,fd,_,fn_sound t.1 sc_qblock (F:=F_qblock) rfl rfl rfl (fun cdv A outer s H E hr=>ok_qblock T D hr),t.2.2,t.1.kp,t.2.1⟩
  ·obtain⟨fa,fd,t⟩:=H.t_qprogram;exact⟨fa,fd,_,fn_sound t.1 sc_qprogram (F:=F_qprogram) rfl rfl rfl (fun cdv A outer s H E hr=>ok_qprogram T D hr),t.2.2,t.1.kp,t.2.1⟩
  ·obtain⟨fa,fd,t⟩:=H.t_qstore;exact⟨fa,fd,_,fn_sound t.1 sc_qstore (F:=F_qstore) rfl rfl rfl (fun cdv A outer s H E hr=>ok_qstore T D hr),t.2.2,t.1.kp,t.2.1⟩
  ·obtain⟨fa,fd,t⟩:=H.t_qbad_term;refine⟨fa,fd,_,fn_sound t.1 sc_qbad_term (F:=F_qbad_term) rfl rfl rfl ?_,t.2.2,t.1.kp,t.2.1⟩;intro cdv A outer s H E hr;exact @ok_qbad_term _ _ _ _ _ _ _ T D _ _ _ _ _ _ _ hr
  ·obtain⟨fa,fd,t⟩:=H.t_qbad_deed;exact⟨fa,fd,_,fn_sound t.1 sc_qbad_deed (F:=F_qbad_deed) rfl rfl rfl (fun cdv A outer s H E hr=>ok_qbad_deed T D hr),t.2.2,t.1.kp,t.2.1⟩
  ·obtain⟨fa,fd,t⟩:=H.t_qbad_pairs;refine⟨fa,fd,_,fn_sound t.1 sc_qbad_pairs (F:=F_qbad_pairs) rfl rfl rfl ?_,t.2.2,t.1.kp,t.2.1⟩;intro cdv A outer s H E hr;exact @ok_qbad_pairs _ _ _ _ _ _ _ T D _ _ _ _ _ _ _ hr
  ·obtain⟨fa,fd,t⟩:=H.t_law;exact⟨fa,fd,_,fn_sound t.1 sc_law (F:=F_law) rfl rfl rfl (fun cdv A outer s H E hr=>ok_law T D hr),t.2.2,t.1.kp,t.2.1⟩
end
set_option maxHeartbeats 0 in
theorem all_mk{l:PySem.W.OpenLaw}{w:World}{K:PySem.W.Frag}{h:Heap}{mg:Str→Option Value}{fa:Addr}(hlaw:∀ ns:List Int,ns.length≤63→callI 100000 Γ 60 "law" [.scr ns] []=some (.bl true,[]))(X:K.In h)(G:h.Ns mainGlobals mg)(hfa:mg "law" = some (.ref fa))
  {x0:Addr} {od0 an0:Option Addr} {sl0:Array (Option Value)} {oc0 kV0 dc0 pm0 cd0 ct0:Value}
  {x1:Addr} {od1 an1:Option Addr} {sl1:Array (Option Value)} {oc1 kV1 dc1 pm1 cd1 ct1:Value}
  {x2:Addr} {od2 an2:Option Addr} {sl2:Array (Option Value)} {oc2 kV2 dc2 pm2 cd2 ct2:Value}
  {x3:Addr} {od3 an3:Option Addr} {sl3:Array (Option Value)} {oc3 kV3 dc3 pm3 cd3 ct3:Value}
  {x4:Addr} {od4 an4:Option Addr} {sl4:Array (Option Value)} {oc4 kV4 dc4 pm4 cd4 ct4:Value}
  {x5:Addr} {od5 an5:Option Addr} {sl5:Array (Option Value)} {oc5 kV5 dc5 pm5 cd5 ct5:Value}
  {x6:Addr} {od6 an6:Option Addr} {sl6:Array (Option Value)} {oc6 kV6 dc6 pm6 cd6 ct6:Value}
  {x7:Addr} {od7 an7:Option Addr} {sl7:Array (Option Value)} {oc7 kV7 dc7 pm7 cd7 ct7:Value}
  {x8:Addr} {od8 an8:Option Addr} {sl8:Array (Option Value)} {oc8 kV8 dc8 pm8 cd8 ct8:Value}
  {x9:Addr} {od9 an9:Option Addr} {sl9:Array (Option Value)} {oc9 kV9 dc9 pm9 cd9 ct9:Value}
  {x10:Addr} {od10 an10:Option Addr} {sl10:Array (Option Value)} {oc10 kV10 dc10 pm10 cd10 ct10:Value}
  {x11:Addr} {od11 an11:Option Addr} {sl11:Array (Option Value)} {oc11 kV11 dc11 pm11 cd11 ct11:Value}
  {x12:Addr} {od12 an12:Option Addr} {sl12:Array (Option Value)} {oc12 kV12 dc12 pm12 cd12 ct12:Value}
  {x13:Addr} {od13 an13:Option Addr} {sl13:Array (Option Value)} {oc13 kV13 dc13 pm13 cd13 ct13:Value}
  {x14:Addr} {od14 an14:Option Addr} {sl14:Array (Option Value)} {oc14 kV14 dc14 pm14 cd14 ct14:Value}
  {x15:Addr} {od15 an15:Option Addr} {sl15:Array (Option Value)} {oc15 kV15 dc15 pm15 cd15 ct15:Value}
  {x16:Addr} {od16 an16:Option Addr} {sl16:Array (Option Value)} {oc16 kV16 dc16 pm16 cd16 ct16:Value}
  {x17:Addr} {od17 an17:Option Addr} {sl17:Array (Option Value)} {oc17 kV17 dc17 pm17 cd17 ct17:Value}
  {x18:Addr} {od18 an18:Option Addr} {sl18:Array (Option Value)} {oc18 kV18 dc18 pm18 cd18 ct18:Value}
  {x19:Addr} {od19 an19:Option Addr} {sl19:Array (Option Value)} {oc19 kV19 dc19 pm19 cd19 ct19:Value}
  {x20:Addr} {od20 an20:Option Addr} {sl20:Array (Option Value)} {oc20 kV20 dc20 pm20 cd20 ct20:Value}
  {x21:Addr} {od21 an21:Option Addr} {sl21:Array (Option Value)} {oc21 kV21 dc21 pm21 cd21 ct21:Value}
  {x22:Addr} {od22 an22:Option Addr} {sl22:Array (Option Value)} {oc22 kV22 dc22 pm22 cd22 ct22:Value}
  {x23:Addr} {od23 an23:Option Addr} {sl23:Array (Option Value)} {oc23 kV23 dc23 pm23 cd23 ct23:Value}
  {x24:Addr} {od24 an24:Option Addr} {sl24:Array (Option Value)} {oc24 kV24 dc24 pm24 cd24 ct24:Value}
  {x25:Addr} {od25 an25:Option Addr} {sl25:Array (Option Value)} {oc25 kV25 dc25 pm25 cd25 ct25:Value}
  {x26:Addr} {od26 an26:Option Addr} {sl26:Array (Option Value)} {oc26 kV26 dc26 pm26 cd26 ct26:Value}
  {x27:Addr} {od27 an27:Option Addr} {sl27:Array (Option Value)} {oc27 kV27 dc27 pm27 cd27 ct27:Value}
  {tk0:Tok}
  {tk1:Tok}
  {tk2:Tok}
  {tk3:Tok}
  {ga4:Addr} {gn4:Nat} {gt4_0:Tok} {gt4_1:Tok} {gt4_2:Tok}
  (a0:PySem.W.nsIn K mainGlobals "is_program" = some (some (.ref x0))) (l0:K.lookup x0=some ⟨oc0,od0,.func (PySem.W.fnOf "is_program" "is_program" (defArgs s_is_program) (defBody s_is_program) (defScope s_is_program) .none kV0 dc0 pm0 an0 cd0 ct0),sl0⟩) (c0:PySem.W.codeIn K cd0 "is_program" = true) (k0:PySem.W.keepIn K (.ref x0)=true)
  (a1:PySem.W.nsIn K mainGlobals "is_house" = some (some (.ref x1))) (l1:K.lookup x1=some ⟨oc1,od1,.func (PySem.W.fnOf "is_house" "is_house" (defArgs s_is_house) (defBody s_is_house) (defScope s_is_house) .none kV1 dc1 pm1 an1 cd1 ct1),sl1⟩) (c1:PySem.W.codeIn K cd1 "is_house" = true) (k1:PySem.W.keepIn K (.ref x1)=true)
  (a2:PySem.W.nsIn K mainGlobals "is_store" = some (some (.ref x2))) (l2:K.lookup x2=some ⟨oc2,od2,.func (PySem.W.fnOf "is_store" "is_store" (defArgs s_is_store) (defBody s_is_store) (defScope s_is_store) .none kV2 dc2 pm2 an2 cd2 ct2),sl2⟩) (c2:PySem.W.codeIn K cd2 "is_store" = true) (k2:PySem.W.keepIn K (.ref x2)=true)
  (a3:PySem.W.nsIn K mainGlobals "is_block" = some (some (.ref x3))) (l3:K.lookup x3=some ⟨oc3,od3,.func (PySem.W.fnOf "is_block" "is_block" (defArgs s_is_block) (defBody s_is_block) (defScope s_is_block) .none kV3 dc3 pm3 an3 cd3 ct3),sl3⟩) (c3:PySem.W.codeIn K cd3 "is_block" = true) (k3:PySem.W.keepIn K (.ref x3)=true)
  (a4:PySem.W.nsIn K mainGlobals "is_deed" = some (some (.ref x4))) (l4:K.lookup x4=some ⟨oc4,od4,.func (PySem.W.fnOf "is_deed" "is_deed" (defArgs s_is_deed) (defBody s_is_deed) (defScope s_is_deed) .none kV4 dc4 pm4 an4 cd4 ct4),sl4⟩) (c4:PySem.W.codeIn K cd4 "is_deed" = true) (k4:PySem.W.keepIn K (.ref x4)=true)
  (a5:PySem.W.nsIn K mainGlobals "is_term" = some (some (.ref x5))) (l5:K.lookup x5=some ⟨oc5,od5,.func (PySem.W.fnOf "is_term" "is_term" (defArgs s_is_term) (defBody s_is_term) (defScope s_is_term) .none kV5 dc5 pm5 an5 cd5 ct5),sl5⟩) (c5:PySem.W.codeIn K cd5 "is_term" = true) (k5:PySem.W.keepIn K (.ref x5)=true)
  (a6:PySem.W.nsIn K mainGlobals "has_rising_names" = some (some (.ref x6))) (l6:K.lookup x6=some ⟨oc6,od6,.func (PySem.W.fnOf "has_rising_names" "has_rising_names" (defArgs s_has_rising_names) (defBody s_has_rising_names) (defScope s_has_rising_names) .none kV6 dc6 pm6 an6 cd6 ct6),sl6⟩) (c6:PySem.W.codeIn K cd6 "has_rising_names" = true) (k6:PySem.W.keepIn K (.ref x6)=true)
  (a7:PySem.W.nsIn K mainGlobals "is_named" = some (some (.ref x7))) (l7:K.lookup x7=some ⟨oc7,od7,.func (PySem.W.fnOf "is_named" "is_named" (defArgs s_is_named) (defBody s_is_named) (defScope s_is_named) .none kV7 dc7 pm7 an7 cd7 ct7),sl7⟩) (c7:PySem.W.codeIn K cd7 "is_named" = true) (k7:PySem.W.keepIn K (.ref x7)=true)
  (a8:PySem.W.nsIn K mainGlobals "is_name" = some (some (.ref x8))) (l8:K.lookup x8=some ⟨oc8,od8,.func (PySem.W.fnOf "is_name" "is_name" (defArgs s_is_name) (defBody s_is_name) (defScope s_is_name) .none kV8 dc8 pm8 an8 cd8 ct8),sl8⟩) (c8:PySem.W.codeIn K cd8 "is_name" = true) (k8:PySem.W.keepIn K (.ref x8)=true)
  (a9:PySem.W.nsIn K mainGlobals "is_number" = some (some (.ref x9))) (l9:K.lookup x9=some ⟨oc9,od9,.func (PySem.W.fnOf "is_number" "is_number" (defArgs s_is_number) (defBody s_is_number) (defScope s_is_number) .none kV9 dc9 pm9 an9 cd9 ct9),sl9⟩) (c9:PySem.W.codeIn K cd9 "is_number" = true) (k9:PySem.W.keepIn K (.ref x9)=true)
  (a10:PySem.W.nsIn K mainGlobals "is_level" = some (some (.ref x10))) (l10:K.lookup x10=some ⟨oc10,od10,.func (PySem.W.fnOf "is_level" "is_level" (defArgs s_is_level) (defBody s_is_level) (defScope s_is_level) .none kV10 dc10 pm10 an10 cd10 ct10),sl10⟩) (c10:PySem.W.codeIn K cd10 "is_level" = true) (k10:PySem.W.keepIn K (.ref x10)=true)
  (a11:PySem.W.nsIn K mainGlobals "is_whole" = some (some (.ref x11))) (l11:K.lookup x11=some ⟨oc11,od11,.func (PySem.W.fnOf "is_whole" "is_whole" (defArgs s_is_whole) (defBody s_is_whole) (defScope s_is_whole) .none kV11 dc11 pm11 an11 cd11 ct11),sl11⟩) (c11:PySem.W.codeIn K cd11 "is_whole" = true) (k11:PySem.W.keepIn K (.ref x11)=true)
  (a12:PySem.W.nsIn K mainGlobals "_law_cell" = some (some (.ref x12))) (l12:K.lookup x12=some ⟨oc12,od12,.func (PySem.W.fnOf "_law_cell" "_law_cell" (defArgs s_qcell) (defBody s_qcell) (defScope s_qcell) .none kV12 dc12 pm12 an12 cd12 ct12),sl12⟩) (c12:PySem.W.codeIn K cd12 "_law_cell" = true) (k12:PySem.W.keepIn K (.ref x12)=true)
  (a13:PySem.W.nsIn K mainGlobals "_law_mix" = some (some (.ref x13))) (l13:K.lookup x13=some ⟨oc13,od13,.func (PySem.W.fnOf "_law_mix" "_law_mix" (defArgs s_qmix) (defBody s_qmix) (defScope s_qmix) .none kV13 dc13 pm13 an13 cd13 ct13),sl13⟩) (c13:PySem.W.codeIn K cd13 "_law_mix" = true) (k13:PySem.W.keepIn K (.ref x13)=true)
  (a14:PySem.W.nsIn K mainGlobals "_law_name" = some (some (.ref x14))) (l14:K.lookup x14=some ⟨oc14,od14,.func (PySem.W.fnOf "_law_name" "_law_name" (defArgs s_qname) (defBody s_qname) (defScope s_qname) .none kV14 dc14 pm14 an14 cd14 ct14),sl14⟩) (c14:PySem.W.codeIn K cd14 "_law_name" = true) (k14:PySem.W.keepIn K (.ref x14)=true)
  (a15:PySem.W.nsIn K mainGlobals "_law_names" = some (some (.ref x15))) (l15:K.lookup x15=some ⟨oc15,od15,.func (PySem.W.fnOf "_law_names" "_law_names" (defArgs s_qnames) (defBody s_qnames) (defScope s_qnames) .none kV15 dc15 pm15 an15 cd15 ct15),sl15⟩) (c15:PySem.W.codeIn K cd15 "_law_names" = true) (k15:PySem.W.keepIn K (.ref x15)=true)
  (a16:PySem.W.nsIn K mainGlobals "_law_levels" = some (some (.ref x16))) (l16:K.lookup x16=some ⟨oc16,od16,.func (PySem.W.fnOf "_law_levels" "_law_levels" (defArgs s_qlevels) (defBody s_qlevels) (defScope s_qlevels) .none kV16 dc16 pm16 an16 cd16 ct16),sl16⟩) (c16:PySem.W.codeIn K cd16 "_law_levels" = true) (k16:PySem.W.keepIn K (.ref x16)=true)
  (a17:PySem.W.nsIn K mainGlobals "_law_house" = some (some (.ref x17))) (l17:K.lookup x17=some ⟨oc17,od17,.func (PySem.W.fnOf "_law_house" "_law_house" (defArgs s_qhouse) (defBody s_qhouse) (defScope s_qhouse) .none kV17 dc17 pm17 an17 cd17 ct17),sl17⟩) (c17:PySem.W.codeIn K cd17 "_law_house" = true) (k17:PySem.W.keepIn K (.ref x17)=true)
  (a18:PySem.W.nsIn K mainGlobals "_law_term" = some (some (.ref x18))) (l18:K.lookup x18=some ⟨oc18,od18,.func (PySem.W.fnOf "_law_term" "_law_term" (defArgs s_qterm) (defBody s_qterm) (defScope s_qterm) .none kV18 dc18 pm18 an18 cd18 ct18),sl18⟩) (c18:PySem.W.codeIn K cd18 "_law_term" = true) (k18:PySem.W.keepIn K (.ref x18)=true)
  (a19:PySem.W.nsIn K mainGlobals "_law_names_in" = some (some (.ref x19))) (l19:K.lookup x19=some ⟨oc19,od19,.func (PySem.W.fnOf "_law_names_in" "_law_names_in" (defArgs s_qnames_in) (defBody s_qnames_in) (defScope s_qnames_in) .none kV19 dc19 pm19 an19 cd19 ct19),sl19⟩) (c19:PySem.W.codeIn K cd19 "_law_names_in" = true) (k19:PySem.W.keepIn K (.ref x19)=true)
  (a20:PySem.W.nsIn K mainGlobals "_law_deed" = some (some (.ref x20))) (l20:K.lookup x20=some ⟨oc20,od20,.func (PySem.W.fnOf "_law_deed" "_law_deed" (defArgs s_qdeed) (defBody s_qdeed) (defScope s_qdeed) .none kV20 dc20 pm20 an20 cd20 ct20),sl20⟩) (c20:PySem.W.codeIn K cd20 "_law_deed" = true) (k20:PySem.W.keepIn K (.ref x20)=true)
  (a21:PySem.W.nsIn K mainGlobals "_law_block" = some (some (.ref x21))) (l21:K.lookup x21=some ⟨oc21,od21,.func (PySem.W.fnOf "_law_block" "_law_block" (defArgs s_qblock) (defBody s_qblock) (defScope s_qblock) .none kV21 dc21 pm21 an21 cd21 ct21),sl21⟩) (c21:PySem.W.codeIn K cd21 "_law_block" = true) (k21:PySem.W.keepIn K (.ref x21)=true)
  (a22:PySem.W.nsIn K mainGlobals "_law_program" = some (some (.ref x22))) (l22:K.lookup x22=some ⟨oc22,od22,.func (PySem.W.fnOf "_law_program" "_law_program" (defArgs s_qprogram) (defBody s_qprogram) (defScope s_qprogram) .none kV22 dc22 pm22 an22 cd22 ct22),sl22⟩) (c22:PySem.W.codeIn K cd22 "_law_program" = true) (k22:PySem.W.keepIn K (.ref x22)=true)
  (a23:PySem.W.nsIn K mainGlobals "_law_store" = some (some (.ref x23))) (l23:K.lookup x23=some ⟨oc23,od23,.func (PySem.W.fnOf "_law_store" "_law_store" (defArgs s_qstore) (defBody s_qstore) (defScope s_qstore) .none kV23 dc23 pm23 an23 cd23 ct23),sl23⟩) (c23:PySem.W.codeIn K cd23 "_law_store" = true) (k23:PySem.W.keepIn K (.ref x23)=true)
  (a24:PySem.W.nsIn K mainGlobals "_law_bad_term" = some (some (.ref x24))) (l24:K.lookup x24=some ⟨oc24,od24,.func (PySem.W.fnOf "_law_bad_term" "_law_bad_term" (defArgs s_qbad_term) (defBody s_qbad_term) (defScope s_qbad_term) .none kV24 dc24 pm24 an24 cd24 ct24),sl24⟩) (c24:PySem.W.codeIn K cd24 "_law_bad_term" = true) (k24:PySem.W.keepIn K (.ref x24)=true)
  (a25:PySem.W.nsIn K mainGlobals "_law_bad_deed" = some (some (.ref x25))) (l25:K.lookup x25=some ⟨oc25,od25,.func (PySem.W.fnOf "_law_bad_deed" "_law_bad_deed" (defArgs s_qbad_deed) (defBody s_qbad_deed) (defScope s_qbad_deed) .none kV25 dc25 pm25 an25 cd25 ct25),sl25⟩) (c25:PySem.W.codeIn K cd25 "_law_bad_deed" = true) (k25:PySem.W.keepIn K (.ref x25)=true)
  (a26:PySem.W.nsIn K mainGlobals "_law_bad_pairs" = some (some (.ref x26))) (l26:K.lookup x26=some ⟨oc26,od26,.func (PySem.W.fnOf "_law_bad_pairs" "_law_bad_pairs" (defArgs s_qbad_pairs) (defBody s_qbad_pairs) (defScope s_qbad_pairs) .none kV26 dc26 pm26 an26 cd26 ct26),sl26⟩) (c26:PySem.W.codeIn K cd26 "_law_bad_pairs" = true) (k26:PySem.W.keepIn K (.ref x26)=true)
  (a27:PySem.W.nsIn K mainGlobals "law" = some (some (.ref x27))) (l27:K.lookup x27=some ⟨oc27,od27,.func (PySem.W.fnOf "law" "law" (defArgs s_law) (defBody s_law) (defScope s_law) .none kV27 dc27 pm27 an27 cd27 ct27),sl27⟩) (c27:PySem.W.codeIn K cd27 "law" = true) (k27:PySem.W.keepIn K (.ref x27)=true)
  (z0:PySem.W.nsIn K mainGlobals "all" = some none)
  (z1:PySem.W.nsIn K mainGlobals "bool" = some none)
  (z2:PySem.W.nsIn K mainGlobals "enumerate" = some none)
  (z3:PySem.W.nsIn K mainGlobals "int" = some none)
  (z4:PySem.W.nsIn K mainGlobals "isinstance" = some none)
  (z5:PySem.W.nsIn K mainGlobals "len" = some none)
  (z6:PySem.W.nsIn K mainGlobals "list" = some none)
  (z7:PySem.W.nsIn K mainGlobals "max" = some none)
  (z8:PySem.W.nsIn K mainGlobals "range" = some none)
  (z9:PySem.W.nsIn K mainGlobals "set" = some none)
  (z10:PySem.W.nsIn K mainGlobals "sorted" = some none)
  (z11:PySem.W.nsIn K mainGlobals "str" = some none)
  (z12:PySem.W.nsIn K mainGlobals "tuple" = some none)
  (z13:PySem.W.nsIn K mainGlobals "zip" = some none)
  (gc0:PySem.W.nsIn K mainGlobals "NUMBERS" = some (some (.int 997 tk0)))
  (gc1:PySem.W.nsIn K mainGlobals "LEVELS" = some (some (.int 3 tk1)))
  (gc2:PySem.W.nsIn K mainGlobals "LETTERS" = some (some (.str (Str.ofString "abcdefghijklmnopqrstuvwxyz") tk2)))
  (gc3:PySem.W.nsIn K mainGlobals "LONGEST_NAME" = some (some (.int 3 tk3)))
  (gc4:PySem.W.nsIn K mainGlobals "PAIRING" = some (some (.ref ga4))) (gl4:K.lookup ga4=some { cls:=.type "tuple",data:=.seq #[.str (Str.ofString "sum") gt4_0,.str (Str.ofString "times") gt4_1,.str (Str.ofString "less") gt4_2] gn4 })
  : ∃ fd:FuncData,(∀ (s:Shared) (v:Value),BindsTo s fd ⟨[v],[]⟩ [("_law_script",v)])∧∀ base:Heap,K.In base→base.Ns mainGlobals mg→FnOk l.prog w K mg base CX0 60 fa fd ["_law_script"] (spLaw K):=by
 have e:=hfa.symm.trans (PySem.W.mg_of X G a27)
 cases e
 have F0:=fun_mk (st:=s_is_program) l0 c0 k0
 have B0:=F0.binds (ps:=["thing"]) fun _ _ _ _ _ _ us hl=>by obtain⟨_,rfl⟩:=len1 hl;rfl
 have F1:=fun_mk (st:=s_is_house) l1 c1 k1
 have B1:=F1.binds (ps:=["thing"]) fun _ _ _ _ _ _ us hl=>by obtain⟨_,rfl⟩:=len1 hl;rfl
 have F2:=fun_mk (st:=s_is_store) l2 c2 k2
 have B2:=F2.binds (ps:=["thing"]) fun _ _ _ _ _ _ us hl=>by obtain⟨_,rfl⟩:=len1 hl;rfl
 have F3:=fun_mk (st:=s_is_block) l3 c3 k3
 have B3:=F3.binds (ps:=["thing"]) fun _ _ _ _ _ _ us hl=>by obtain⟨_,rfl⟩:=len1 hl;rfl
 have F4:=fun_mk (st:=s_is_deed) l4 c4 k4
 have B4:=F4.binds (ps:=["thing"]) fun _ _ _ _ _ _ us hl=>by obtain⟨_,rfl⟩:=len1 hl;rfl
 have F5:=fun_mk (st:=s_is_term) l5 c5 k5
 have B5:=F5.binds (ps:=["thing"]) fun _ _ _ _ _ _ us hl=>by obtain⟨_,rfl⟩:=len1 hl;rfl
 have F6:=fun_mk (st:=s_has_rising_names) l6 c6 k6
 have B6:=F6.binds (ps:=["thing"]) fun _ _ _ _ _ _ us hl=>by obtain⟨_,rfl⟩:=len1 hl;rfl
 have F7:=fun_mk (st:=s_is_named) l7 c7 k7
 have B7:=F7.binds (ps:=["thing"]) fun _ _ _ _ _ _ us hl=>by obtain⟨_,rfl⟩:=len1 hl;rfl
 have F8:=fun_mk (st:=s_is_name) l8 c8 k8
 have B8:=F8.binds (ps:=["thing"]) fun _ _ _ _ _ _ us hl=>by obtain⟨_,rfl⟩:=len1 hl;rfl
 have F9:=fun_mk (st:=s_is_number) l9 c9 k9
 have B9:=F9.binds (ps:=["thing"]) fun _ _ _ _ _ _ us hl=>by obtain⟨_,rfl⟩:=len1 hl;rfl
 have F10:=fun_mk (st:=s_is_level) l10 c10 k10
 have B10:=F10.binds (ps:=["thing"]) fun _ _ _ _ _ _ us hl=>by obtain⟨_,rfl⟩:=len1 hl;rfl
 have F11:=fun_mk (st:=s_is_whole) l11 c11 k11
 have B11:=F11.binds (ps:=["thing"]) fun _ _ _ _ _ _ us hl=>by obtain⟨_,rfl⟩:=len1 hl;rfl
 have F12:=fun_mk (st:=s_qcell) l12 c12 k12
 have B12:=F12.binds (ps:=["_law_script","_law_k"]) fun _ _ _ _ _ _ us hl=>by obtain⟨_,_,rfl⟩:=len2 hl;rfl
 have F13:=fun_mk (st:=s_qmix) l13 c13 k13
 have B13:=F13.binds (ps:=["_law_cell_here","_law_prime","_law_many"]) fun _ _ _ _ _ _ us hl=>by obtain⟨_,_,_,rfl⟩:=len3 hl;rfl
 have F14:=fun_mk (st:=s_qname) l14 c14 k14
 have B14:=F14.binds (ps:=["_law_script","_law_k"]) fun _ _ _ _ _ _ us hl=>by obtain⟨_,_,rfl⟩:=len2 hl;rfl
 have F15:=fun_mk (st:=s_qnames) l15 c15 k15
 have B15:=F15.binds (ps:=["_law_script"]) fun _ _ _ _ _ _ us hl=>by obtain⟨_,rfl⟩:=len1 hl;rfl
 have F16:=fun_mk (st:=s_qlevels) l16 c16 k16
 have B16:=F16.binds (ps:=["_law_script"]) fun _ _ _ _ _ _ us hl=>by obtain⟨_,rfl⟩:=len1 hl;rfl
 have F17:=fun_mk (st:=s_qhouse) l17 c17 k17
 have B17:=F17.binds (ps:=["_law_script"]) fun _ _ _ _ _ _ us hl=>by obtain⟨_,rfl⟩:=len1 hl;rfl
 have F18:=fun_mk (st:=s_qterm) l18 c18 k18
 have B18:=F18.binds (ps:=["_law_names_here","_law_seed","_law_left"]) fun _ _ _ _ _ _ us hl=>by obtain⟨_,_,_,rfl⟩:=len3 hl;rfl
 have F19:=fun_mk (st:=s_qnames_in) l19 c19 k19
 have B19:=F19.binds (ps:=["_law_term_here"]) fun _ _ _ _ _ _ us hl=>by obtain⟨_,rfl⟩:=len1 hl;rfl
 have F20:=fun_mk (st:=s_qdeed) l20 c20 k20
 have B20:=F20.binds (ps:=["_law_plan","_law_cell_here","_law_deep","_law_need"]) fun _ _ _ _ _ _ us hl=>by obtain⟨_,_,_,_,rfl⟩:=len4 hl;rfl
 have F21:=fun_mk (st:=s_qblock) l21 c21 k21
 have B21:=F21.binds (ps:=["_law_plan","_law_cell_here","_law_deep","_law_need"]) fun _ _ _ _ _ _ us hl=>by obtain⟨_,_,_,_,rfl⟩:=len4 hl;rfl
 have F22:=fun_mk (st:=s_qprogram) l22 c22 k22
 have B22:=F22.binds (ps:=["_law_script","_law_k"]) fun _ _ _ _ _ _ us hl=>by obtain⟨_,_,rfl⟩:=len2 hl;rfl
 have F23:=fun_mk (st:=s_qstore) l23 c23 k23
 have B23:=F23.binds (ps:=["_law_script","_law_k"]) fun _ _ _ _ _ _ us hl=>by obtain⟨_,_,rfl⟩:=len2 hl;rfl
 have F24:=fun_mk (st:=s_qbad_term) l24 c24 k24
 have B24:=F24.binds (ps:=["_law_cell_here","_law_term_here"]) fun _ _ _ _ _ _ us hl=>by obtain⟨_,_,rfl⟩:=len2 hl;rfl
 have F25:=fun_mk (st:=s_qbad_deed) l25 c25 k25
 have B25:=F25.binds (ps:=["_law_cell_here","_law_term_here","_law_name_here"]) fun _ _ _ _ _ _ us hl=>by obtain⟨_,_,_,rfl⟩:=len3 hl;rfl
 have F26:=fun_mk (st:=s_qbad_pairs) l26 c26 k26
 have B26:=F26.binds (ps:=["_law_pairs","_law_most","_law_cell_here"]) fun _ _ _ _ _ _ us hl=>by obtain⟨_,_,_,rfl⟩:=len3 hl;rfl
 have F27:=fun_mk (st:=s_law) l27 c27 k27
 have B27:=F27.binds (ps:=["_law_script"]) fun _ _ _ _ _ _ us hl=>by obtain⟨_,rfl⟩:=len1 hl;rfl
 have T:Tp K mg:=⟨PySem.W.mg_none_of X G z0,PySem.W.mg_none_of X G z1,PySem.W.mg_none_of X G z2,PySem.W.mg_none_of X G z3,PySem.W.mg_none_of X G z4,PySem.W.mg_none_of X G z5,PySem.W.mg_none_of X G z6,PySem.W.mg_none_of X G z7,PySem.W.mg_none_of X G z8,PySem.W.mg_none_of X G z9,PySem.W.mg_none_of X G z10,PySem.W.mg_none_of X G z11,PySem.W.mg_none_of X G z12,PySem.W.mg_none_of X G z13,.int (PySem.W.mg_of X G gc0),.int (PySem.W.mg_of X G gc1),.str (PySem.W.mg_of X G gc2),.int (PySem.W.mg_of X G gc3),GlAt.strs (PySem.W.mg_of X G gc4) gl4 rfl⟩
 have H:Th K mg:=⟨⟨_,_,F0,B0,PySem.W.mg_of X G a0⟩,⟨_,_,F1,B1,PySem.W.mg_of X G a1⟩,⟨_,_,F2,B2,PySem.W.mg_of X G a2⟩,⟨_,_,F3,B3,PySem.W.mg_of X G a3⟩,⟨_,_,F4,B4,PySem.W.mg_of X G a4⟩,⟨_,_,F5,B5,PySem.W.mg_of X G a5⟩,⟨_,_,F6,B6,PySem.W.mg_of X G a6⟩,⟨_,_,F7,B7,PySem.W.mg_of X G a7⟩,⟨_,_,F8,B8,PySem.W.mg_of X G a8⟩,⟨_,_,F9,B9,PySem.W.mg_of X G a9⟩,⟨_,_,F10,B10,PySem.W.mg_of X G a10⟩,⟨_,_,F11,B11,PySem.W.mg_of X G a11⟩,⟨_,_,F12,B12,PySem.W.mg_of X G a12⟩,⟨_,_,F13,B13,PySem.W.mg_of X G a13⟩,⟨_,_,F14,B14,PySem.W.mg_of X G a14⟩,⟨_,_,F15,B15,PySem.W.mg_of X G a15⟩,⟨_,_,F16,B16,PySem.W.mg_of X G a16⟩,⟨_,_,F17,B17,PySem.W.mg_of X G a17⟩,⟨_,_,F18,B18,PySem.W.mg_of X G a18⟩,⟨_,_,F19,B19,PySem.W.mg_of X G a19⟩,⟨_,_,F20,B20,PySem.W.mg_of X G a20⟩,⟨_,_,F21,B21,PySem.W.mg_of X G a21⟩,⟨_,_,F22,B22,PySem.W.mg_of X G a22⟩,⟨_,_,F23,B23,PySem.W.mg_of X G a23⟩,⟨_,_,F24,B24,PySem.W.mg_of X G a24⟩,⟨_,_,F25,B25,PySem.W.mg_of X G a25⟩,⟨_,_,F26,B26,PySem.W.mg_of X G a26⟩,⟨_,_,F27,B27,PySem.W.mg_of X G a27⟩⟩
 refine⟨PySem.W.fnOf "law" "law" (defArgs s_law) (defBody s_law) (defScope s_law) .none kV27 dc27 pm27 an27 cd27 ct27,fun s v=>.of_eq rfl,fun base _ _=>?_⟩
 refine law_imp (fn_sound F27 sc_law (F:=F_law) rfl rfl rfl (fun cdv A outer s Hh E hr=>ok_law T (ds (P:=l.prog) (w:=w) (base:=base) (W:=100000) T H 59) hr)) hlaw
end T
open PySem PySem.W PyProof.Rows
set_option maxRecDepth 100000 in
set_option maxHeartbeats 0 in
theorem PySem.Challenge.cw_whisperwall_k01_programs_holds : PySem.Challenge.rw_whisperwall_k01_programs.Holds := by
 w_on;o_law;k_head;(case hw=>w_witness2)
 k_fill
 refine WL.walk_law (l:=PySem.Challenge.rw_whisperwall_k01_programs) rfl rfl (fun w h Y=>PySem.W.kIn_of Y) ?F
 case F=>
  intro w mg fa h KX G hmg
  refine' T.all_mk T.law_true KX G hmg ?a0 ?l0 ?c0 ?k0 ?a1 ?l1 ?c1 ?k1 ?a2 ?l2 ?c2 ?k2 ?a3 ?l3 ?c3 ?k3 ?a4 ?l4 ?c4 ?k4 ?a5 ?l5 ?c5 ?k5 ?a6 ?l6 ?c6 ?k6 ?a7 ?l7 ?c7 ?k7 ?a8 ?l8 ?c8 ?k8 ?a9 ?l9 ?c9 ?k9 ?a10 ?l10 ?c10 ?k10 ?a11 ?l11 ?c11 ?k11 ?a12 ?l12 ?c12 ?k12 ?a13 ?l13 ?c13 ?k13 ?a14 ?l14 ?c14 ?k14 ?a15 ?l15 ?c15 ?k15 ?a16 ?l16 ?c16 ?k16 ?a17 ?l17 ?c17 ?k17 ?a18 ?l18 ?c18 ?k18 ?a19 ?l19 ?c19 ?k19 ?a20 ?l20 ?c20 ?k20 ?a21 ?l21 ?c21 ?k21 ?a22 ?l22 ?c22 ?k22 ?a23 ?l23 ?c23 ?k23 ?a24 ?l24 ?c24 ?k24 ?a25 ?l25 ?c25 ?k25 ?a26 ?l26 ?c26 ?k26 ?a27 ?l27 ?c27 ?k27 ?z0 ?z1 ?z2 ?z3 ?z4 ?z5 ?z6 ?z7 ?z8 ?z9 ?z10 ?z11 ?z12 ?z13 ?gc0 ?gc1 ?gc2 ?gc3 ?gc4 ?gl4
  (case a0=>k_is)
  (case l0=>k_is)
  (case c0=>k_is)
  (case k0=>k_is)
  (case a1=>k_is)
  (case l1=>k_is)
  (case c1=>k_is)
  (case k1=>k_is)
  (case a2=>k_is)
  (case l2=>k_is)
  (case c2=>k_is)
  (case k2=>k_is)
  (case a3=>k_is)
  (case l3=>k_is)
  (case c3=>k_is)
  (case k3=>k_is)
  (case a4=>k_is)
  (case l4=>k_is)
  (case c4=>k_is)
  (case k4=>k_is)
  (case a5=>k_is)
  (case l5=>k_is)
  (case c5=>k_is)
  (case k5=>k_is)
  (case a6=>k_is)
  (case l6=>k_is)
  (case c6=>k_is)
  (case k6=>k_is)
  (case a7=>k_is)
  (case l7=>k_is)
  (case c7=>k_is)
  (case k7=>k_is)
  (case a8=>k_is)
  (case l8=>k_is)
  (case c8=>k_is)
  (case k8=>k_is)
  (case a9=>k_is)
  (case l9=>k_is)
  (case c9=>k_is)
  (case k9=>k_is)
  (case a10=>k_is)
  (case l10=>k_is)
  (case c10=>k_is)
  (case k10=>k_is)
  (case a11=>k_is)
  (case l11=>k_is)
  (case c11=>k_is)
  (case k11=>k_is)
  (case a12=>k_is)
  (case l12=>k_is)
  (case c12=>k_is)
  (case k12=>k_is)
  (case a13=>k_is)
  (case l13=>k_is)
  (case c13=>k_is)
  (case k13=>k_is)
  (case a14=>k_is)
  (case l14=>k_is)
  (case c14=>k_is)
  (case k14=>k_is)
  (case a15=>k_is)
  (case l15=>k_is)
  (case c15=>k_is)
  (case k15=>k_is)
  (case a16=>k_is)
  (case l16=>k_is)
  (case c16=>k_is)
  (case k16=>k_is)
  (case a17=>k_is)
  (case l17=>k_is)
  (case c17=>k_is)
  (case k17=>k_is)
  (case a18=>k_is)
  (case l18=>k_is)
  (case c18=>k_is)
  (case k18=>k_is)
  (case a19=>k_is)
  (case l19=>k_is)
  (case c19=>k_is)
  (case k19=>k_is)
  (case a20=>k_is)
  (case l20=>k_is)
  (case c20=>k_is)
  (case k20=>k_is)
  (case a21=>k_is)
  (case l21=>k_is)
  (case c21=>k_is)
  (case k21=>k_is)
  (case a22=>k_is)
  (case l22=>k_is)
  (case c22=>k_is)
  (case k22=>k_is)
  (case a23=>k_is)
  (case l23=>k_is)
  (case c23=>k_is)
  (case k23=>k_is)
  (case a24=>k_is)
  (case l24=>k_is)
  (case c24=>k_is)
  (case k24=>k_is)
  (case a25=>k_is)
  (case l25=>k_is)
  (case c25=>k_is)
  (case k25=>k_is)
  (case a26=>k_is)
  (case l26=>k_is)
  (case c26=>k_is)
  (case k26=>k_is)
  (case a27=>k_is)
  (case l27=>k_is)
  (case c27=>k_is)
  (case k27=>k_is)
  (case z0=>k_is)
  (case z1=>k_is)
  (case z2=>k_is)
  (case z3=>k_is)
  (case z4=>k_is)
  (case z5=>k_is)
  (case z6=>k_is)
  (case z7=>k_is)
  (case z8=>k_is)
  (case z9=>k_is)
  (case z10=>k_is)
  (case z11=>k_is)
  (case z12=>k_is)
  (case z13=>k_is)
  (case gc0=>k_is)
  (case gc1=>k_is)
  (case gc2=>k_is)
  (case gc3=>k_is)
  (case gc4=>k_is)
  (case gl4=>k_is)
end
