import PyProof.Rows.All
import Wide.All
import OpenK.AllK
import Wide.FinOn
import Lean
import PyProof.EqAt
import PyProof.EqKinds
import PyProof.TupleCall
import KE.KIsAll
import KE.KItem
import KE.KxBytes
import KE.KRevIter
import PyProof.LongRange
import KE.KDictOf
import PyProof.ReprRoads
import PyProof.ListRange
import PyProof.ReprLen
import KE.KTurnsDict
import KE.KPairComp
import PyProof.Rows.SortShell
import KE.KDictList
import PyProof.AttrMissSeq
import PyProof.DictUpdate
import PyProof.WalksS
import KE.KEqDict
import PyProof.SumWalkG
import PyProof.StationsW
import PyProof.Rows.TopTwo
import OpenK.KOwn
import PyProof.RulesDel
import PyProof.Rows.CatchOwn
import PyProof.RulesAs
import PyProof.ExcArgs
import PySem.Challenge.RW_likehalves_k34_what_a_keeper_refuses
set_option linter.defProp false
noncomputable section
def ZV:=@PySem.Heap.get?_push_of_some
def ZW:=@List.length_map
def ZX:=@List.getElem?_eq_some_iff
def ZY:=@PySem.Heap.lt_size
def ZZ:=@List.mem_cons
def Z0:=@Nat.le_refl
def Z1:=@List.mem_of_getElem?
def Z2:=@List.getElem?_map
def Z3:=@PySem.Heap.get?_push_size
def Z4:=@List.size_toArray
def Z5:=@List.mem_cons_of_mem
def Z6:=@Option.some.inj
def Z7:=@Nat.lt_of_lt_of_le
def Z8:=@List.take_add_one
def Z9:=@Nat.le_trans
def a0a:=@List.mem_map
def a0b:=@Bool.false_ne_true
def a0c:=@Nat.ne_of_lt
def a0d:=@List.foldl_cons
def a0e:=@List.take_length
def a0f:=@List.map_cons
def a0g:=@List.length_take
def a0h:=@List.mem_singleton
def a0i:=@List.getElem?_append_left
def a0j:=@List.length_append
def a0k:=@List.length_cons
def a0l:=@List.not_mem_nil
def a0m:=@List.mem_append_right
def a0n:=@List.nodup_cons
def a0o:=@Nat.mul_le_mul_right
def a0p:=@List.map_append
def a0q:=@List.getElem?_append_right
def a0r:=@List.sum_cons
def a0s:=@List.mem_append
def a0t:=@List.mem_cons_self
def a0u:=@List.take_append_drop
def a0v:=@List.take_of_length_le
def a0w:=@Nat.zero_le
def a0x:=@PySem.Heap.size_push
def a0y:=@Array.toList_append
def a0z:=@PySem.Heap.get?_update_other
def a0A:=@List.getElem?_eq_getElem
def a0B:=@List.length_drop
def a0C:=@List.append_assoc
def a0D:=@PySem.W.mg_of
def a0E:=@List.replicate_succ
def a0F:=@List.append_nil
def a0G:=@Nat.lt_irrefl
def a0H:=@Nat.mul_comm
def a0I:=@Nat.lt_succ_self
def a0J:=@Bool.and_eq_true
def a0K:=@Nat.add_mul
def a0L:=@Int.le_refl
def a0M:=@Nat.ne_of_gt
def a0N:=@List.mem_append_left
def a0O:=@Bool.false_eq_true
def a0P:=@List.getElem?_of_mem
def a0Q:=@Nat.pow_add
def a0R:=@Array.getElem?_eq_some_iff
def a0S:=@PySem.W.kia_one
def a0T:=@List.sum_append
def a0U:=@Nat.div_div_eq_div_mul
def a0V:=@List.map_congr_left
def a0W:=@List.length_singleton
def a0X:=@Bool.and_self
def a0Y:=@Nat.mul_assoc
def a0Z:=@List.find?_cons
def a1a:=@List.mem_of_mem_take
def a1b:=@Nat.le_add_right
def a1c:=@Nat.lt_succ_of_lt
def a1d:=@List.length_pos_of_mem
def a1e:=@Array.toList_push
def a1f:=@List.mem_of_find?_eq_some
def a1g:=@List.lookup_cons
def a1h:=@List.all_eq_true
def a1i:=@Array.getElem?_setIfInBounds_self_of_lt
def a1j:=@List.getElem?_set_ne
def a1k:=@List.eq_nil_of_length_eq_zero
def a1l:=@List.flatten_cons
def a1m:=@List.getElem?_cons_succ
def a1n:=@Nat.min_eq_left
def a1o:=@List.dropLast_concat_getLast
def a1p:=@List.getElem?_set_self
def a1q:=@Nat.pow_succ
def a1r:=@Nat.add_zero
def a1s:=@Nat.sub_zero
def a1t:=@Int.zero_add
def a1u:=@Nat.pow_pos
def a1v:=@Nat.lt_of_le_of_lt
def a1w:=@PySem.W.methodCall_KW
def a1x:=@PySem.Heap.get?_update_self
def a1y:=@List.getElem?_eq_none
def a1z:=@List.perm_append_comm
def a1A:=@List.mem_of_mem_drop
def a1B:=@List.map_map
def a1C:=@List.foldl_append
def a1D:=@Nat.sub_self
def a1E:=@Nat.add_assoc
def a1F:=@Nat.add_sub_cancel_left
def a1G:=@Int.one_mul
def a1H:=@PySem.W.callWith_K
def a1I:=@Nat.pow_zero
def a1J:=@Nat.zero_mul
def a1K:=@PySem.W.mg_none_of
def a1L:=@Bool.and_eq_false_iff
def a1M:=@Array.perm_iff_toList_perm
def a1N:=@Array.toList_reverse
def a1O:=@Nat.le_of_lt
def a1P:=@Int.le_trans
def a1Q:=@Nat.div_eq_of_lt
def a1R:=@List.filterMap_cons
def a1S:=@Array.length_toList
def a1T:=@List.zipWith_append
def a1U:=@List.map_take
def a1V:=@Int.mul_assoc
def a1W:=@Nat.div_add_mod
def a1X:=@Int.emod_lt_of_pos
def a1Y:=@Nat.le_succ
def a1Z:=@List.getElem?_replicate
def a2a:=@Nat.one_mul
def a2b:=@Bool.false_and
def a2c:=@Bool.and_false
def a2d:=@List.map_nil
def a2e:=@List.drop_drop
def a2f:=@List.drop_of_length_le
def a2g:=@List.reverse_perm
def a2h:=@Array.getElem?_setIfInBounds_ne
def a2i:=@List.length_replicate
def a2j:=@Nat.mod_lt
def a2k:=@Option.getD_some
def a2l:=@Nat.min_eq_right
def a2m:=@List.all_cons
def a2n:=@Nat.pow_succ'
def a2o:=@Int.mul_le_mul_of_nonneg_left
def a2p:=@Bool.eq_iff_iff
def a2q:=@List.length_set
def a2r:=@List.range_succ
def a2s:=@Int.emod_nonneg
def a2t:=@PySem.W.plainGet_of
def a2u:=@List.getElem?_range
def a2v:=@Nat.le_total
def a2w:=@Nat.zero_add
def a2x:=@Int.zero_mul
def a2y:=@Int.mul_comm
def a2z:=@List.mem_range
def a2A:=@List.drop_zero
def a2B:=@List.filter_append
def a2C:=@List.nodup_nil
def a2D:=@List.getElem?_eq_none_iff
def a2E:=@List.extract_eq_take_drop
def a2F:=@Int.add_mul
def a2G:=@List.ext_getElem?
def a2H:=@Nat.div_one
def a2I:=@List.any_cons
def a2J:=@List.map_drop
def a2K:=@List.zipIdx_cons
def a2L:=@List.cons_append
def a2M:=@PySem.W.kdl_dict
def a2N:=@List.mem_filter
def a2O:=@List.of_mem_zip
def a2P:=@List.forIn_cons
def a2Q:=@List.length_nil
def a2R:=@Array.Perm.refl
def a2S:=@List.find?_some
def a2T:=@Nat.mul_add_div
def a2U:=@Int.mul_add
def a2V:=@List.take_take
set_option compiler.extract_closed false
set_option genSizeOf false
set_option Elab.async false
set_option linter.all false
set_option maxRecDepth 100000
namespace L2
open PySem PySem.Spec PyProof.Rows
abbrev aE:=Sum Int Str
def jq:aE->Value->Bool
 | .inl k,v=>Value.isInt k v
 | .inr x,v=>Value.isStrOf x v
def LH(w:World):aE->Int
 | .inl k=>hashInt k
 | .inr x=>hashStr w x
theorem H_:∀ {k:aE} {v:Value},jq k v=true->(∃i t,k=Sum.inl i/\v=Value.int i t)\/(∃x t,k=Sum.inr x/\v=Value.str x t)
 | .inl i,v,h=>by
  obtain⟨t,e⟩:=Value.isInt_shape (k:=i) (v:=v) h
  exact .inl ⟨i,t,rfl,e⟩
 | .inr x,v,h=>by
  obtain⟨t,e⟩:=Value.isStrOf_shape (x:=x) (v:=v) h
  exact .inr ⟨x,t,rfl,e⟩
theorem LJ(i:Int)(t:Tok):jq (.inl i) (.int i t)=true:=by simp[jq,Value.isInt]
theorem LK(x:Str)(t:Tok):jq (.inr x) (.str x t)=true:=by simp[jq,Value.isStrOf]
theorem LL(a b:Int):decide ((Sum.inl a:aE)=Sum.inl b)=(a==b):=by
 by_cases e:a=b
 ·subst e;simp
 ·have h:¬ (Sum.inl a:aE)=Sum.inl b:=λq=>e (Sum.inl.inj q)
  rw[decide_eq_false h]
  exact(beq_eq_false_iff_ne.mpr e).symm
theorem LM(a b:Str):decide ((Sum.inr a:aE)=Sum.inr b)=decide (a=b):=by
 by_cases e:a=b
 ·subst e;simp
 ·have h:¬ (Sum.inr a:aE)=Sum.inr b:=λq=>e (Sum.inr.inj q)
  rw[decide_eq_false h,decide_eq_false e]
theorem LN(a:Int)(b:Str):decide ((Sum.inl a:aE)=Sum.inr b)=false:=decide_eq_false (λq=>nomatch q)
theorem LO(a:Str)(b:Int):decide ((Sum.inr a:aE)=Sum.inl b)=false:=decide_eq_false (λq=>nomatch q)
def y_(prog:Program)(w:World):PySem.KeyKind prog w aE where
 is:=jq
 hash:=LH w
 inj:=λv a b ha hb=>by
  rcases H_ ha with⟨i,t,rfl,rfl⟩ | ⟨x,t,rfl,rfl⟩
  ·rcases H_ hb with⟨j,u,rfl,e⟩ | ⟨y,u,rfl,e⟩
   ·injection e with e1 _;rw[e1]
   ·exact nomatch e
  ·rcases H_ hb with⟨j,u,rfl,e⟩ | ⟨y,u,rfl,e⟩
   ·exact nomatch e
   ·injection e with e1 _;rw[e1]
 byValue:=λk v h=>by
  rcases H_ h with⟨i,t,rfl,rfl⟩ | ⟨x,t,rfl,rfl⟩ <;> rfl
 pyHash:=λhv h=>by
  rcases H_ hv with⟨i,t,rfl,rfl⟩ | ⟨x,t,rfl,rfl⟩
  ·exact wpAny_pyHash_int h
  ·exact wpAny_pyHash_str h
 eqBool:=λhu hv h=>by
  rcases H_ hu with⟨i,t,rfl,rfl⟩ | ⟨x,t,rfl,rfl⟩
  ·rcases H_ hv with⟨j,u,rfl,rfl⟩ | ⟨y,u,rfl,rfl⟩
   ·rw[LL] at h;exact wpAny_eqBool_int h
   ·rw[LN] at h;exact SeqAt.EqAt.int_str i t y u _ _ _ _ h
  ·rcases H_ hv with⟨j,u,rfl,rfl⟩ | ⟨y,u,rfl,rfl⟩
   ·rw[LO] at h;exact SeqAt.EqAt.str_int x t j u _ _ _ _ h
   ·rw[LM] at h;exact wpAny_eqBool_str h
 «strs»:=λk x t v h=>by
  rcases H_ h with⟨i,u,rfl,e⟩ | ⟨y,u,rfl,e⟩
  ·exact nomatch e
  ·injection e with e1 _
   subst e1
   cases v <;> rfl
theorem LP(prog:Program)(w:World)(i:Int)(t:Tok):(y_ prog w).is (.inl i) (.int i t)=true:=LJ i t
theorem LQ(prog:Program)(w:World)(x:Str)(t:Tok):(y_ prog w).is (.inr x) (.str x t)=true:=LK x t
inductive V where
 | aw | bl (b:Bool) | int (i:Int) | str (x:Str) | gI (b:Array UInt8) | lB (b:UInt64) | ref (a:Addr) | ty (n:String)
 deriving DecidableEq
def RelV:V->Value->Prop
 | .aw,u=>u=Value.none
 | .bl b,u=>u=Value.bool b
 | .int i,u=>∃t,u=Value.int i t
 | .str x,u=>∃t,u=Value.str x t
 | .gI b,u=>∃t,u=Value.bytes b t
 | .lB b,u=>∃t,u=Value.float b t
 | .ref a,u=>u=Value.ref a
 | .ty n,u=>u=Value.type n
abbrev aB:List V->List Value->Prop:=Paired RelV
theorem aB.length{xs:List V}{us:List Value}(r:aB xs us):xs.length=us.length:=Paired.length r
theorem aB.get:∀ {xs:List V} {us:List Value} {i:Nat} {x:V},aB xs us->xs[i]?=some x->∃u,us[i]?=some u/\RelV x u
 | _,_,_,_,.nil,e=>by simp at e
 | _,_,0,_,.cons r _,e=>by simp at e;subst e;exact⟨_,rfl,r⟩
 | _,_,i+1,x,.cons _ t,e=>by
  obtain⟨u,h1,h2⟩:=aB.get (i:=i) (x:=x) t (by simpa using e)
  exact⟨u,by simpa using h1,h2⟩
theorem aB.set{x:V}{u:Value}(r:RelV x u):∀ {xs:List V} {us:List Value} (i:Nat),aB xs us->aB (xs.set i x) (us.set i u)
 | _,_,_,.nil=>.nil
 | _,_,0,.cons _ t=>.cons r t
 | _,_,i+1,.cons q t=>.cons q (aB.set r i t)
theorem aB.append{xs ys:List V}{us ws:List Value}(a:aB xs us)(b:aB ys ws):aB (xs++ys) (us++ws):=by
 induction a with
 | nil=>exact b
 | cons r _ ih=>exact .cons r ih
theorem aB.take:∀ {xs:List V} {us:List Value} (n:Nat),aB xs us->aB (xs.take n) (us.take n)
 | _,_,0,_=>.nil
 | _,_,_+1,.nil=>.nil
 | _,_,n+1,.cons r t=>.cons r (aB.take n t)
theorem aB.drop:∀ {xs:List V} {us:List Value} (n:Nat),aB xs us->aB (xs.drop n) (us.drop n)
 | _,_,0,r=>r
 | _,_,_+1,.nil=>.nil
 | _,_,n+1,.cons _ t=>aB.drop n t
theorem aB.none_of:∀ {xs:List V} {us:List Value} {i:Nat},aB xs us->xs[i]?=none->us[i]?=none:=λ{xs us i} r e=>by
 have h1:=r.length
 have h2:xs.length<=i:=a2D.mp e
 exact a2D.mpr (by omega)
def dO:Option V->Option Value->Prop
 | some v,some u=>RelV v u
 | none,none=>True
 | _,_=>False
def KV{κ:Type}:List (κ×V)->List (κ×Value)->Prop:=Paired λ(p:κ×V) (q:κ×Value)=>p.1=q.1/\RelV p.2 q.2
def kV:aE->V
 | .inl i=>.int i
 | .inr x=>.str x
inductive HO where
 | lst (xs:List V)
 | tup (xs:List V)
 | dK (kvs:List (aE×V)) | dT (kvs:List (List aE×V))
 | set (S:Int->Bool) (n:Nat)
 | ins (C dx:Addr) (fs:List (Str×V))
 | own (x:Addr)
 | xd (fs:List (Str×V))
 | met (f x:Addr)
 | sg (lo hi:Int)
 | ce (o:Obj) (u:HO)
 | j6 (ps:Array Value)
 | ext (φ:Heap->Prop)
abbrev Hp:=Addr->Option HO
def upd(H:Hp)(a:Addr)(o:HO):Hp:=λb=>if b=a then some o else H b
theorem d_{H:Hp}{a:Addr}{o:HO}:upd H a o a=some o:=by unfold upd;rw[if_pos rfl]
theorem i_{H:Hp}{a b:Addr}{o:HO}(h:b≠a):upd H a o b=H b:=by unfold upd;rw[if_neg h]
theorem wX{H:Hp}{a b:Addr}{o u:HO}(h:H a=some o)(h':H b=some u)(d:o≠u):a≠b:=by
 intro e;subst e;rw[h] at h';exact d (Z6 h')
theorem l_{H:Hp}{a b:Addr}{o:HO}(h:H a=some o)(h':H b=none):a≠b:=by
 intro e;subst e;rw[h] at h';cases h'
section
variable(P:Program)(w:World)
def b8(H:Hp)(h:Heap)(a:Addr):HO->Prop
 | .lst xs=>xs.length<=sizeLine/\∃(ad:List Value) (n:Nat),aB xs ad/\h.get? a=some {cls:=.type "list",data:=.seq ad.toArray n}
 | .tup xs=>xs.length<=sizeLine/\∃ad:List Value,aB xs ad/\IsTup h a ad.toArray
 | .dK kvs=>kvs.length<=sizeLine/\(a==sysModules)=false/\∃vs,KV kvs vs/\h.DictOf (y_ P w) a vs
 | .dT kvs=>kvs.length<=sizeLine/\(a==sysModules)=false/\∃xs:List (List aE×Addr×Value),
   Paired (λ(p:List aE×V) (q:List aE×Addr×Value)=>p.1=q.1/\H q.2.1=some (.tup (p.1.map kV))/\RelV p.2 q.2.2) kvs xs/\
   ∃o es ep,h.get? a=some o/\o.ExactDict/\o.data=.dict es ep/\es.toList=xs.map (entryOfKey (tupleKind (y_ P w)))/\(xs.map (·.1)).Nodup
 | .set S n=>h.SetOf (intKind P w) a S n
 | .ins C dx fs=>H dx=some (.own a)/\fs.length<=1000/\dx≠a/\h.get? a=some (PySem.W.instObj C dx)/\
   ∃mA,h.Ns1 dx mA/\(∀f,dO (fs.lookup f) (mA f))/\PySem.Within mA (fs.map (·.1))
 | .own _=>∃o,h.get? a=some o
 | .xd fs=>∃mA,h.Ns1 a mA/\∀f,dO (fs.lookup f) (mA f)
 | .sg lo hi=>∃t u v,h.get? a=some {cls:=.type "range",data:=.fields #[.int lo t,.int hi u,.int 1 v]}
 | .ce o u=>h.get? a=some o/\b8 H h a u
 | .j6 ps=>h.get? a=some {cls:=.none,data:=.fields ps}
 | .met f x=>h.get? a=some (PySem.W.methodObj (.ref f) (.ref x))
 | .ext φ=>φ h/\(∃o,h.get? a=some o)/\∀h1 h2:Heap,φ h1->(∀o,h1.get? a=some o->h2.get? a=some o)->φ h2
def bC(H:Hp)(h:Heap):Prop:=∀a o,H a=some o->b8 P w H h a o
end
section
variable{P:Program}{w:World}{H H':Hp}{h h':Heap}{a:Addr}{o:HO}
theorem b8.lt(x:b8 P w H h a o):a<h.objs.size:=by
 cases o with
 | lst xs=>obtain⟨_,_,_,_,e⟩:=x;exact ZY e
 | tup xs=>obtain⟨_,_,_,p⟩:=x;exact p.lt
 | dK kvs=>obtain⟨_,_,_,_,o,_,_,e,_⟩:=x;exact ZY e
 | dT kvs=>obtain⟨_,_,_,_,o,_,_,e,_⟩:=x;exact ZY e
 | set S n=>obtain⟨o,_,_,_,e,_⟩:=x;exact ZY e
 | ins C dx fs=>obtain⟨_,_,_,e,_⟩:=x;exact ZY e
 | own y=>obtain⟨_,e⟩:=x;exact ZY e
 | xd fs=>obtain⟨_,⟨_,_,_,e,_⟩,_⟩:=x;exact ZY e
 | sg lo hi=>obtain⟨_,_,_,e⟩:=x;exact ZY e
 | ce ob u=>obtain⟨e,_⟩:=x;exact ZY e
 | j6 ps=>exact ZY (show h.get? a=some _ from x)
 | met f y=>exact ZY (show h.get? a=some _ from x)
 | ext φ=>obtain⟨_,⟨_,e⟩,_⟩:=x;exact ZY e
theorem Paired.iM{α β:Type}{F G:α->β->Prop}{Dp:List α}{Dq:List β}(h:Paired F Dp Dq)(f:∀a b,F a b->G a b):Paired G Dp Dq:=by
 induction h with
 | nil=>exact .nil
 | cons r _ ih=>exact .cons (f _ _ r) ih
theorem b8.cE(x:b8 P w H h a o)(k:∀b u,(b=a\/H b=some (.own a))->h.get? b=some u->h'.get? b=some u)
  (ho:∀b,H b=some (.own a)->H' b=some (.own a)) (ht:∀b xs,H b=some (.tup xs)->H' b=some (.tup xs)):b8 P w H' h' a o:=by
 induction o with
 | lst xs=>obtain⟨z,ad,n,r,e⟩:=x;exact⟨z,ad,n,r,k _ _ (.inl rfl) e⟩
 | tup xs=>obtain⟨z,ad,r,ob,e,c⟩:=x;exact⟨z,ad,r,ob,k _ _ (.inl rfl) e,c⟩
 | dK kvs=>obtain⟨z,y,vs,r,ob,es,ep,e,c⟩:=x;exact⟨z,y,vs,r,ob,es,ep,k _ _ (.inl rfl) e,c⟩
 | dT kvs =>
  obtain⟨z,y,xs,r,ob,es,ep,e,c⟩:=x
  exact⟨z,y,xs,Paired.iM r λp q z=>⟨z.1,ht _ _ z.2.1,z.2.2⟩,ob,es,ep,k _ _ (.inl rfl) e,c⟩
 | set S n=>obtain⟨ob,es,ep,t,e,c⟩:=x;exact⟨ob,es,ep,t,k _ _ (.inl rfl) e,c⟩
 | ins C dx fs =>
  obtain⟨d,z,ne,e,mA,⟨od,es,ep,e2,c⟩,r⟩:=x
  exact⟨ho _ d,z,ne,k _ _ (.inl rfl) e,mA,⟨od,es,ep,k _ _ (.inr d) e2,c⟩,r⟩
 | own y=>obtain⟨ob,e⟩:=x;exact⟨ob,k _ _ (.inl rfl) e⟩
 | xd fs=>obtain⟨mA,⟨od,es,ep,e,c⟩,r⟩:=x;exact⟨mA,⟨od,es,ep,k _ _ (.inl rfl) e,c⟩,r⟩
 | sg lo hi=>obtain⟨t,u,v,e⟩:=x;exact⟨t,u,v,k _ _ (.inl rfl) e⟩
 | ce ob u ih=>obtain⟨e,q⟩:=x;exact⟨k _ _ (.inl rfl) e,ih q⟩
 | j6 ps =>
  have e:h.get? a=some {cls:=.none,data:=.fields ps}:=x
  show h'.get? a=some {cls:=.none,data:=.fields ps}
  exact k a _ (.inl rfl) e
 | met f y =>
  have e:h.get? a=some (PySem.W.methodObj (.ref f) (.ref y)):=x
  show h'.get? a=some (PySem.W.methodObj (.ref f) (.ref y))
  exact k a _ (.inl rfl) e
 | ext φ=>obtain⟨p,⟨o,e⟩,st⟩:=x;exact⟨st _ _ p λo q=>k _ _ (.inl rfl) q,⟨o,k _ _ (.inl rfl) e⟩,st⟩
theorem bC.lt(x:bC P w H h)(e:H a=some o):a<h.objs.size:=(x a o e).lt
theorem bC.fresh(x:bC P w H h)(e:h.objs.size<=a):H a=none:=by
 cases q:H a with
 | none=>rfl
 | some u=>exact absurd (Z7 (x.lt q) e) (a0G _)
theorem bC.kept(x:bC P w H h)(k:∀b u,h.get? b=some u->h'.get? b=some u):bC P w H h':=λa o e =>
 (x a o e).cE (λb u _ q=>k b u q) (λ_ q=>q) λ_ _ q=>q
theorem bC.laid(x:bC P w H h)(k:∀b u,h.get? b=some u->h'.get? b=some u)(hp:h.objs.size<=a)(new:b8 P w (upd H a o) h' a o):bC P w (upd H a o) h':=λb u e=>by
 have hn:=x.fresh hp
 by_cases hb:b=a
 ·subst hb;rw[d_] at e;cases e;exact new
 ·rw[i_ hb] at e
  exact(x b u e).cE (λc v _ q=>k c v q) (λc q=>by rw[i_ (l_ q hn)];exact q) λc xs q=>by rw[i_ (l_ q hn)];exact q
end
def Rd(H:Hp)(a:Addr)(u:HO):Prop:=H a=some u\/∃o,H a=some (.ce o u)
theorem Rd.ok{P:Program}{w:World}{H:Hp}{h:Heap}{a:Addr}{u:HO}(r:Rd H a u)(x:bC P w H h):b8 P w H h a u:=by
 rcases r with r | ⟨o,r⟩
 ·exact x a u r
 ·obtain⟨_,q⟩:=x a _ r
  exact q
def pT:Option HO->Prop
 | some (.lst _)=>True
 | some (.dK _)=>True
 | some (.dT _)=>True
 | some (.set _ _)=>True
 | some (.ins _ _ _)=>True
 | some (.ext _)=>True
 | _=>False
section
variable{P:Program}{w:World}{H:Hp}{h h':Heap}{x e:Addr}{o':HO}
theorem bC.write(ok:bC P w H h)(mu:pT (H x))(he:e=x\/H e=some (.own x))(k:∀b u,b≠e->h.get? b=some u->h'.get? b=some u)(nK:∃u,h'.get? e=some u)
  (new:b8 P w (upd H x o') h' x o'):bC P w (upd H x o') h':=λb u q=>by
 have Dr:∀c y,H c=some (.own y)->c≠x:=λc y r z=>by subst z;rw[r] at mu;exact mu
 have LR:∀c xs,H c=some (.tup xs)->c≠x:=λc xs r z=>by subst z;rw[r] at mu;exact mu
 by_cases hb:b=x
 ·subst hb;rw[d_] at q;cases q;exact new
 ·rw[i_ hb] at q
  by_cases jr:b=e
  ·have q':H b=some (.own x):=by
    rcases he with z | z
    ·exact absurd (jr.trans z) hb
    ·rw[jr];exact z
   rw[q] at q';cases q'
   obtain⟨v,hv⟩:=nK
   exact⟨v,by rw[jr];exact hv⟩
  ·refine(ok b u q).cE (λc v hc r=>k c v ?_ r) (λc r=>by rw[i_ (Dr c b r)];exact r) λc xs r=>by rw[i_ (LR c xs r)];exact r
   rcases hc with rfl | hc
   ·exact jr
   ·rintro rfl
    rcases he with z | z
    ·exact Dr c b hc z
    ·rw[hc] at z;cases z;exact hb rfl
end
structure Un(fs ex:List Addr)(H H':Hp)(h h':Heap):Prop where
 keep:∀b o,h.get? b=some o->H b=none->b∉fs->b∉ex->h'.get? b=some o
 slot:∀b o,h.get? b=some o->H b=none->b∈fs->b∉ex->∃sl,h'.get? b=some {o with slots:=sl}
 free:∀b o,h.get? b=some o->H b=none->b∉ex->H' b=none
 there:∀b o,h.get? b=some o->b∉ex->∃o',h'.get? b=some o'
 eQ:∀b xs,H b=some (.tup xs)->H' b=some (.tup xs)
 d7:∀b o u,H b=some (.ce o u)->H' b=some (.ce o u)
 fC:∀b ps,H b=some (.j6 ps)->∃more,H' b=some (.j6 (ps++more))
section
variable{fs LS ex YN:List Addr}{H H1 H2:Hp}{h h1 h2 h':Heap}{a x e:Addr}{o:HO}
theorem Un.any(u:Un fs ex H H1 h h1){b:Addr}{ob:Obj}(q:h.get? b=some ob)(n:H b=none)(hx:b∉ex):∃sl,h1.get? b=some {ob with slots:=sl}:=by
 by_cases hb:b∈fs
 ·exact u.slot b ob q n hb hx
 ·exact⟨ob.slots,u.keep b ob q n hb hx⟩
theorem Un.kept(k:∀b u,h.get? b=some u->h'.get? b=some u):Un fs ex H H h h' :=
 ⟨λb ob q _ _ _=>k b ob q,λb ob q _ _ _=>⟨ob.slots,k b ob q⟩,λ_ _ _ n _=>n,λb ob q _=>⟨ob,k b ob q⟩,λ_ _ q=>q,λ_ _ _ q=>q,λ_ ps q=>⟨#[],by rw[q];simp⟩⟩
theorem Un.refl:Un fs ex H H h h:=Un.kept λ_ _ q=>q
theorem Un.laid(k:∀b u,h.get? b=some u->h'.get? b=some u)(hp:h.objs.size<=a)(hn:H a=none):Un fs ex H (upd H a o) h h' where
 keep:=λb u q _ _ _=>k b u q
 slot:=λb u q _ _ _=>⟨u.slots,k b u q⟩
 free:=λb u q n _=>by rw[i_ (a0c (Z7 (ZY q) hp))];exact n
 there:=λb u q _=>⟨u,k b u q⟩
 eQ:=λb xs q=>by rw[i_ (l_ q hn)];exact q
 d7:=λb u xs q=>by rw[i_ (l_ q hn)];exact q
 fC:=λb ps q=>⟨#[],by rw[i_ (l_ q hn),q];simp⟩
theorem Un.write(mu:pT (H x))(he:e=x\/H e=some (.own x))(k:∀b u,b≠e->h.get? b=some u->h'.get? b=some u)(nK:∃u,h'.get? e=some u):Un fs ex H (upd H x o) h h':=by
 have hx:∀b,H b=none->b≠x:=λb n z=>by subst z;rw[n] at mu;exact mu
 have hb:∀b,H b=none->b≠e:=λb n z=>by
  subst z
  rcases he with r | r
  ·exact hx b n r
  ·rw[n] at r;cases r
 have hm:∀b u,H b=some u->¬ pT (some u)->b≠x:=λb u q nm z=>by subst z;rw[q] at mu;exact nm mu
 refine⟨λb u q n _ _=>k b u (hb b n) q,λb u q n _ _=>⟨u.slots,k b u (hb b n) q⟩,λb u q n _=>by rw[i_ (hx b n)];exact n,λb u q _=>?_,
  λb xs q=>by rw[i_ (hm b _ q λz=>z)];exact q,λb u xs q=>by rw[i_ (hm b _ q λz=>z)];exact q,λb ps q=>⟨#[],by rw[i_ (hm b _ q λz=>z),q];simp⟩⟩
 by_cases jr:b=e
 ·subst jr;exact nK
 ·exact⟨u,k b u jr q⟩
end
def si(h:Heap)(H:Hp):List Addr:=(List.range h.objs.size).filter λa=>(H a).isSome
def js(h:Heap)(H:Hp):Heap:=PySem.W.hideAll h (si h H)
theorem LT(h:Heap)(H:Hp):(js h H).objs.size=h.objs.size:=PySem.W.hideAll_size _ _
theorem LU{h:Heap}{H:Hp}{b:Addr}{o:Obj}(e:h.get? b=some o)(n:H b=none):(js h H).get? b=some o :=
 PySem.W.hideAll_get _ e λhm=>by
  have q:(H b).isSome=true:=(a2N.mp hm).2
  rw[n] at q;simp at q
theorem LV{h:Heap}{H:Hp}{b:Addr}{o:Obj}(e:(js h H).get? b=some o):h.get? b=some o/\H b=none:=by
 have e':h.get? b=some o:=PySem.W.of_hideAll (si h H) e
 refine⟨e',?_⟩
 cases q:H b with
 | none=>rfl
 | some x =>
  have hm:b∈si h H:=a2N.mpr ⟨a2z.mpr (ZY e'),by simp[q]⟩
  have z:(js h H).get? b=none:=PySem.W.hideAll_none (si h H) hm
  rw[z] at e;cases e
def LW(g h:Heap)(L:Addr):List (Addr×Obj):=(List.range h.objs.size).filterMap λa=>if a=L\/(g.get? a).isSome=true then none else (h.get? a).map λo=>(a,o)
def bv(g h:Heap)(L d:Addr):List (Addr×Obj):=(LW g h L).filter λp=>decide (p.1≠d)
structure Mod(K:PySem.W.Frag)(mg:Str->Option Value)(base:Heap):Prop where
 lC:K.In base
 glob:base.Ns mainGlobals mg
 blt:∃mb,base.Ns builtinsNs mb/\∀x:Str,x≠"__name__"->mb x=bootBuiltins x
 nolimit:base.NoLimit
structure Cx where
 prog:Program
 w:World
 K:PySem.W.Frag
 mg:Str->Option Value
 base:Heap
 A:Around
 N:List Str
 cy:Shared
 jt:Hp
 env:Env
 outer:List Env
 stack:List Env
 ex:List Addr
 fn:Str->Bool
 calm:Bool
 pn:List (Addr×Obj)
 xe:Value->Shared->Prop
def bz(l:List Env):List Addr:=l.filterMap (·.frame)
abbrev Cx.fs(X:Cx):List Addr:=bz X.outer
def nL(sc:Scope)(x:Str):Prop:=sc.names.lookup x=some .local\/sc.names.lookup x=some .cell\/sc.names.lookup x=some .free
def Loc(sc:Scope)(x:Str):Prop:=sc.names.lookup x=some .local\/sc.names.lookup x=some .cell
def Look(env:Env)(h:Heap)(m:Str->Option Value)(x:Str)(u:Value):Prop :=
 (env.kindOf x=some .local/\m x=some u)\/((env.kindOf x=some .cell\/env.kindOf x=some .free)/\∃c,env.cells.lookup x=some c/\h.IsCell c (some u))
structure Cx.Ok(X:Cx):Prop where
 mod:Mod X.K X.mg X.base
 kind:X.env.scope.kind=.function
 glob:X.env.globals=mainGlobals
 blt:X.env.builtins=builtinsNs
 above:X.cy.heap.objs.size<=X.env.locals
 inj:∀x y c,X.env.cells.lookup x=some c->X.env.cells.lookup y=some c->x=y
 has:∀x,(X.env.kindOf x=some .cell\/X.env.kindOf x=some .free)->∃c,X.env.cells.lookup x=some c
 lD:∀x c,X.fn x=true->X.env.cells.lookup x=some c->X.cy.heap.objs.size<=c
 hd:X.calm=true->X.A.handled=none
 frames:X.A.frames=some X.stack
 nM:X.stack=X.outer\/(X.stack=X.env::X.outer/\X.env.frame=some X.env.locals)
 pU:∀b∈X.ex,b≠X.env.locals/\∀x c,X.env.cells.lookup x=some c->c≠b
 bs:∀b o,X.base.get? b=some o->X.cy.heap.get? b=some o/\X.jt b=none
 gJ:X.base.objs.size<=X.cy.heap.objs.size
 lE:∀b o,X.base.get? b=some o->b∉X.ex
 lF:∀b∈X.ex,b∉X.fs
 fT:X.cy.heap.FunFrames X.base X.outer
 ju:∀b∈X.fs,X.jt b=none
structure Inv(X:Cx)(aa:List (Addr×Obj))(σ:List (Option V))(H:Hp)(s:Shared):Prop where
 ok:X.Ok
 os:s.os=X.cy.os
 bare:AllBare s.gens
 base:Un X.fs X.ex X.jt H X.cy.heap s.heap
 loc:∃m,s.heap.Ns X.env.locals m/\∀(i:Nat) (x:Str) (v:V),X.N[i]?=some x->σ[i]?=some (some v)->nL X.env.scope x->∃u,RelV v u/\Look X.env s.heap m x u
 cell:∀x c,X.env.cells.lookup x=some c->∃v,s.heap.IsCell c v
 free:H X.env.locals=none
 d8:∀x c,X.env.cells.lookup x=some c->H c=none
 pin:∀p∈X.pn++aa,s.heap.get? p.1=some p.2/\H p.1=none/\p.1≠X.env.locals/\p.1∉X.fs/\∀v,p.2.data≠.cell v
 am:bC X.prog X.w H s.heap
 len:σ.length=X.N.length
section
variable{X:Cx}{aa:List (Addr×Obj)}{σ:List (Option V)}{H H':Hp}{s:Shared}{h':Heap}
theorem Cx.Ok.LX(ok:X.Ok){b:Addr}{o:Obj}(e:X.base.get? b=some o):b∉X.fs:=λhb=>by
 have:=(ok.fT.mem hb).1
 rw[e] at this;cases this
theorem Inv.bs(I:Inv X aa σ H s):∀b o,X.base.get? b=some o->s.heap.get? b=some o/\H b=none:=λb o e =>
 ⟨I.base.keep b o (I.ok.bs b o e).1 (I.ok.bs b o e).2 (I.ok.LX e) (I.ok.lE b o e),I.base.free b o (I.ok.bs b o e).1 (I.ok.bs b o e).2 (I.ok.lE b o e)⟩
theorem Inv.bk(I:Inv X aa σ H s):∀b o,X.base.get? b=some o->s.heap.get? b=some o:=λb o e=>(I.bs b o e).1
theorem Inv.mod(I:Inv X aa σ H s):Mod X.K X.mg X.base:=I.ok.mod
theorem Inv.bW(I:Inv X aa σ H s):X.K.In s.heap:=I.ok.mod.lC.keeps I.bk
theorem Inv.fr(I:Inv X aa σ H s):∃m,Fr X.base X.env.locals s.heap m :=
 let ⟨m,hn,_⟩:=I.loc
 ⟨m,hn,I.bk,Z9 I.ok.gJ I.ok.above⟩
theorem Inv.lt(I:Inv X aa σ H s):X.env.locals<s.heap.objs.size:=let ⟨_,hn,_⟩:=I.loc;hn.lt
theorem Inv.sz(I:Inv X aa σ H s):X.cy.heap.objs.size<=s.heap.objs.size:=Z9 I.ok.above (a1O I.lt)
theorem Inv.LY(I:Inv X aa σ H s){a:Addr}(h:s.heap.objs.size<=a):a∉X.fs:=λhb=>by
 obtain⟨_,o,ho,_⟩:=I.ok.fT.mem hb
 exact absurd (Z7 (ZY ho) (Z9 I.sz h)) (a0G _)
theorem Inv.ia(I:Inv X aa σ H s):∀x c,X.env.cells.lookup x=some c->c≠X.env.locals:=λx c e z=>by
 obtain⟨v,o,ho,hd⟩:=I.cell x c e
 obtain⟨m,⟨o',es,ep,ib,fD,_⟩,_⟩:=I.loc
 rw[z,ib] at ho;cases ho;rw[fD] at hd;cases hd
theorem Inv.fT(I:Inv X aa σ H s):s.heap.FunFrames X.base X.outer:=by
 have all:∀(l:List Env),(∀b∈bz l,b∈X.fs)->X.cy.heap.FunFrames X.base l->s.heap.FunFrames X.base l:=by
  intro l
  induction l with
  | nil=>intro _ _;trivial
  | cons env r ih =>
   intro hs hl
   obtain⟨hk,⟨L,o,hf,hn,ho,hd⟩,hr⟩:=hl
   have hL:L∈X.fs:=hs L (by unfold bz;rw[a1R,hf];exact a0t)
   obtain⟨sl,e⟩:=I.base.slot L o ho (I.ok.ju L hL) hL λz=>I.ok.lF L z hL
   exact⟨hk,⟨L,_,hf,hn,e,hd⟩,ih (λb hb=>hs b (by unfold bz;rw[a1R,hf];exact Z5 _ hb)) hr⟩
 exact all X.outer (λ_ hb=>hb) I.ok.fT
theorem Inv.stack(I:Inv X aa σ H s):s.heap.FunFrames X.base X.stack:=by
 rcases I.ok.nM with e | ⟨e,hf⟩
 ·rw[e];exact I.fT
 ·rw[e]
  obtain⟨m,hn,_⟩:=I.loc
  refine .cons (by rw[I.ok.kind];decide) hf hn ?_ I.fT
  exact Heap.get?_none_of_le (Z9 I.ok.gJ I.ok.above)
theorem Inv.wY(I:Inv X aa σ H s):∀b∈bz X.stack,b∈X.env.locals::X.fs:=λb hb=>by
 rcases I.ok.nM with e | ⟨e,hf⟩
 ·rw[e] at hb;exact Z5 _ hb
 ·rw[e] at hb
  unfold bz at hb
  rw[a1R,hf] at hb
  exact hb
theorem Inv.jv(I:Inv X aa σ H s):∀b∈bz X.stack,H b=none:=λb hb=>by
 rcases ZZ.mp (I.wY b hb) with e | hb
 ·rw[e];exact I.free
 ·obtain⟨_,o,ho,_⟩:=I.ok.fT.mem hb
  exact I.base.free b o ho (I.ok.ju b hb) λz=>I.ok.lF b z hb
theorem Inv.step{g':Array GenState}{t':Nat}{d':Drawn}{ch:List Addr}(I:Inv X aa σ H s)
  (iN:∀b∈ch,(b∈X.ex\/X.cy.heap.objs.size<=b)/\b≠X.env.locals/\(∀x c,X.env.cells.lookup x=some c->c≠b)/\∀p∈X.pn++aa,p.1≠b)
  (keep:∀b o,b≠X.env.locals->b∉X.fs->b∉ch->s.heap.get? b=some o->H b=none->h'.get? b=some o)
  (slot:∀b o,b≠X.env.locals->b∈X.fs->b∉ch->s.heap.get? b=some o->H b=none->∃sl,h'.get? b=some {o with slots:=sl}) (free:∀b o,b∉ch->s.heap.get? b=some o->H b=none->H' b=none)
  (there:∀b o,b∉ch->s.heap.get? b=some o->∃o',h'.get? b=some o')
  (eQ:∀b xs,H b=some (.tup xs)->H' b=some (.tup xs)) (d7:∀b o u,H b=some (.ce o u)->H' b=some (.ce o u)) (fC:∀b ps,H b=some (.j6 ps)->∃more,H' b=some (.j6 (ps++more)))
  (ns:∀m,s.heap.Ns X.env.locals m->h'.Ns X.env.locals m) (am:bC X.prog X.w H' h') (hg:AllBare g') :
  Inv X aa σ H' {s with heap:=h',gens:=g',drawn:=d',toks:=t'}:=by
 have Ds:∀b o,X.cy.heap.get? b=some o->b≠X.env.locals:=λb o e=>a0c (Z7 (ZY e) I.ok.above)
 have sj:∀b o,X.cy.heap.get? b=some o->b∉X.ex->b∉ch:=λb o e hx hb=>by
  rcases(iN b hb).1 with z | z
  ·exact hx z
  ·exact absurd (Z7 (ZY e) z) (a0G _)
 have Dt:∀x c,X.env.cells.lookup x=some c->∀v,s.heap.IsCell c v->h'.IsCell c v:=λx c e v ⟨o,ho,hd⟩=>by
  have nN:c∉ch:=λz=>(iN c z).2.2.1 x c e rfl
  by_cases hc:c∈X.fs
  ·obtain⟨sl,q⟩:=slot c o (I.ia x c e) hc nN ho (I.d8 x c e)
   exact⟨_,q,hd⟩
  ·exact⟨o,keep c o (I.ia x c e) hc nN ho (I.d8 x c e),hd⟩
 refine⟨I.ok,I.os,hg,⟨λb o e n hb hx=>?_,λb o e n hb hx=>?_,λb o e n hx=>?_,λb o e hx=>?_,λb xs e=>eQ b xs (I.base.eQ b xs e),λb o xs e=>d7 b o xs (I.base.d7 b o xs e),λb ps e=>?_⟩,?_,λx c e=>?_,?_,λx c e=>?_,λp hp=>?_,am,I.len⟩
 ·exact keep b o (Ds b o e) hb (sj b o e hx) (I.base.keep b o e n hb hx) (I.base.free b o e n hx)
 ·obtain⟨sl,e1⟩:=I.base.slot b o e n hb hx
  obtain⟨LZ,e2⟩:=slot b _ (Ds b o e) hb (sj b o e hx) e1 (I.base.free b o e n hx)
  exact⟨LZ,e2⟩
 ·obtain⟨o',e1⟩:=I.base.there b o e hx
  exact free b o' (sj b o e hx) e1 (I.base.free b o e n hx)
 ·obtain⟨o',e1⟩:=I.base.there b o e hx
  exact there b o' (sj b o e hx) e1
 ·obtain⟨m1,e1⟩:=I.base.fC b ps e
  obtain⟨m2,e2⟩:=fC b _ e1
  exact⟨m1++m2,by rw[e2,Array.append_assoc]⟩
 ·obtain⟨m,hn,hl⟩:=I.loc
  refine⟨m,ns m hn,λi x v e1 e2 e3=>?_⟩
  obtain⟨u,r,l⟩:=hl i x v e1 e2 e3
  refine⟨u,r,?_⟩
  rcases l with l | ⟨k,c,e,z⟩
  ·exact .inl l
  ·exact .inr ⟨k,c,e,Dt x c e _ z⟩
 ·obtain⟨v,z⟩:=I.cell x c e
  exact⟨v,Dt x c e v z⟩
 ·obtain⟨m,⟨o,_,_,ho,_⟩,_⟩:=I.loc
  exact free _ o (λz=>(iN _ z).2.1 rfl) ho I.free
 ·obtain⟨v,o,ho,hd⟩:=I.cell x c e
  exact free c o (λz=>(iN c z).2.2.1 x c e rfl) ho (I.d8 x c e)
 ·obtain⟨e,n,ne,nf,d⟩:=I.pin p hp
  have nN:p.1∉ch:=λz=>(iN p.1 z).2.2.2 p hp rfl
  exact⟨keep p.1 p.2 ne nf nN e n,free p.1 p.2 nN e n,ne,nf,d⟩
theorem Inv.un{t':Nat}(I:Inv X aa σ H s)(u:Un X.fs [] H H' s.heap h')(am:bC X.prog X.w H' h'):Inv X aa σ H' {s with heap:=h',toks:=t'}:=by
 obtain⟨m,⟨o,es,ep,ho,r⟩,_⟩:=id I.loc
 obtain⟨sl,hL⟩:=u.any ho I.free (by simp)
 exact I.step (g':=s.gens) (d':=s.drawn) (ch:=[]) (λ_ z=>nomatch z) (λb o _ hb _ e n=>u.keep b o e n hb (by simp)) (λb o _ hb _ e n=>u.slot b o e n hb (by simp)) (λb o _ e n=>u.free b o e n (by simp)) (λb o _ e=>u.there b o e (by simp)) u.eQ u.d7 u.fC (λm' hm=>by
  obtain⟨o',wZ,xa,ib,r'⟩:=hm
  rw[ho] at ib;cases ib
  exact⟨_,wZ,xa,hL,r'⟩) am I.bare
theorem Inv.call{g':Array GenState}{t':Nat}{d':Drawn}{ch:List Addr}(I:Inv X aa σ H s)(u:Un (bz X.stack) ch H H' s.heap h')(am:bC X.prog X.w H' h')(hg:AllBare g')
  (iN:∀b∈ch,(b∈X.ex\/X.cy.heap.objs.size<=b)/\b≠X.env.locals/\(∀x c,X.env.cells.lookup x=some c->c≠b)/\∀p∈X.pn++aa,p.1≠b) :
  Inv X aa σ H' {s with heap:=h',gens:=g',drawn:=d',toks:=t'}:=by
 obtain⟨m,⟨o,es,ep,ho,r⟩,_⟩:=id I.loc
 obtain⟨sl,hL⟩:=u.any ho I.free λz=>(iN _ z).2.1 rfl
 exact I.step (ch:=ch) iN (λb o hL hb hc e n=>u.keep b o e n (λz=>(ZZ.mp (I.wY b z)).elim hL hb) hc) (λb o _ _ hc e n=>u.any e n hc) (λb o hc e n=>u.free b o e n hc) (λb o hc e=>u.there b o e hc) u.eQ u.d7 u.fC (λm' hm=>by
  obtain⟨o',wZ,xa,ib,r'⟩:=hm
  rw[ho] at ib;cases ib
  exact⟨_,wZ,xa,hL,r'⟩) am hg
theorem Inv.turned{t':Nat}{it:Addr}(I:Inv X aa σ H s)(k:∀b o,b≠it->s.heap.get? b=some o->h'.get? b=some o)(hn:H it=none)(hL:it≠X.env.locals)
  (h1:it∈X.ex\/X.cy.heap.objs.size<=it) (h2:∀x c,X.env.cells.lookup x=some c->c≠it) (h3:∀p∈X.pn++aa,p.1≠it):Inv X aa σ H {s with heap:=h',toks:=t'}:=by
 have Du:∀b u,H b=some u->b≠it:=λb u e z=>by rw[z,hn] at e;cases e
 refine I.step (g':=s.gens) (d':=s.drawn) (ch:=[it]) (λb hb=>?_) (λb o _ _ hc e _=>k b o (λz=>hc (by simp[z])) e) (λb o _ _ hc e _=>⟨o.slots,k b o (λz=>hc (by simp[z])) e⟩) (λ_ _ _ _ n=>n)
  (λb o hc e=>⟨o,k b o (λz=>hc (by simp[z])) e⟩) (λ_ _ e=>e) (λ_ _ _ e=>e) (λb ps e=>⟨#[],by rw[e];simp⟩) (λm hm=>?_) (λb u e=>?_) I.bare
 ·have e:b=it:=by simpa using hb
  subst e
  exact⟨h1,hL,h2,h3⟩
 ·obtain⟨o,es,ep,ho,r⟩:=hm
  exact⟨o,es,ep,k _ o (Ne.symm hL) ho,r⟩
 ·refine(I.am b u e).cE (λc v hc q=>k c v ?_ q) (λ_ q=>q) λ_ _ q=>q
  rcases hc with z | z
  ·rw[z];exact Du b u e
  ·exact Du c _ z
theorem Inv.tok(I:Inv X aa σ H s)(t:Nat):Inv X aa σ H {s with toks:=t}:=I.un (h':=s.heap) (t':=t) Un.refl I.am
theorem Inv.kept{t':Nat}(I:Inv X aa σ H s)(k:∀b u,s.heap.get? b=some u->h'.get? b=some u):Inv X aa σ H {s with heap:=h',toks:=t'}:=I.un (Un.kept k) (I.am.kept k)
theorem Inv.laid{a:Addr}{o:HO}{t':Nat}(I:Inv X aa σ H s)(k:∀b u,s.heap.get? b=some u->h'.get? b=some u)(hp:s.heap.objs.size<=a)(new:b8 X.prog X.w (upd H a o) h' a o) :
  Inv X aa σ (upd H a o) {s with heap:=h',toks:=t'}:=I.un (Un.laid k hp (I.am.fresh hp)) (I.am.laid k hp new)
theorem Inv.write{x e:Addr}{o:HO}{t':Nat}(I:Inv X aa σ H s)(mu:pT (H x))(he:e=x\/H e=some (.own x))(k:∀b u,b≠e->s.heap.get? b=some u->h'.get? b=some u)(nK:∃u,h'.get? e=some u)
  (new:b8 X.prog X.w (upd H x o) h' x o):Inv X aa σ (upd H x o) {s with heap:=h',toks:=t'}:=I.un (Un.write mu he k nK) (I.am.write mu he k nK new)
theorem Inv.weak{az:List (Option V)}(I:Inv X aa σ H s)(hl:az.length=σ.length)(w:∀(i:Nat) v,az[i]?=some (some v)->σ[i]?=some (some v)):Inv X aa az H s :=
 ⟨I.ok,I.os,I.bare,I.base,let ⟨m,hn,cT⟩:=I.loc;⟨m,hn,λi x v e1 e2 e3=>cT i x v e1 (w i v e2) e3⟩,I.cell,I.free,I.d8,I.pin,I.am,hl.trans I.len⟩
theorem Inv.sk{Dv:List (Addr×Obj)}(I:Inv X aa σ H s)(h:∀p∈Dv,s.heap.get? p.1=some p.2/\H p.1=none/\p.1≠X.env.locals/\p.1∉X.fs/\∀v,p.2.data≠.cell v):Inv X Dv σ H s :=
 ⟨I.ok,I.os,I.bare,I.base,I.loc,I.cell,I.free,I.d8,λp hp=>(a0s.mp hp).elim (λz=>I.pin p (a0N _ z)) (h p),I.am,I.len⟩
theorem xg{N:List Str}(hN:N.Nodup){i j:Nat}{x:Str}(a:N[i]?=some x)(b:N[j]?=some x):i=j:=by
 obtain⟨h1,e1⟩:=ZX.mp a
 obtain⟨h2,e2⟩:=ZX.mp b
 exact(List.getElem_inj hN).mp (e1.trans e2.symm)
theorem Dw{M:Model}{A:Around}{E:Value->Shared->Prop}{i:Nat}{x:Str}{v:V}{u:Value}{Q:Unit->Shared->Prop}(I:Inv X aa σ H s)(hN:X.N.Nodup)(hi:X.N[i]?=some x)(hx:Loc X.env.scope x)(r:RelV v u)
  (h:∀s',Inv X aa (σ.set i (some v)) H s'->(∃a,Heap.SameBut a s.heap s'.heap/\(a=X.env.locals\/X.env.cells.lookup x=some a))->Q () s') (hf:X.fn x=true\/X.env.scope.names.lookup x=some .local:=by first | exact .inl rfl | exact .inr rfl | assumption):wpAny M A (storeName X.env x u) Q E s:=by
 obtain⟨m,hn,hl⟩:=id I.loc
 have pV:(X.env.scope.kind==.class || (X.env.scope.kind==.module&&X.env.locals != X.env.globals))=false:=by rw[I.ok.kind];rfl
 have so:i<σ.length:=by rw[I.len];exact(ZX.mp hi).1
 have ia:=I.ia
 have Dx:∀ {a:Addr} {h':Heap},(∃o,s.heap.get? a=some o/\H a=none)->Heap.SameBut a s.heap h'->bC X.prog X.w H h':=λ{a h'} ha hs b ob e=>by
  obtain⟨_,_,Dy⟩:=ha
  refine(I.am b ob e).cE (λc w' hc q=>(hs.2 c ?_).trans q) (λ_ q=>q) λ_ _ q=>q
  rintro rfl
  rcases hc with rfl | hc
  ·rw[Dy] at e;cases e
  ·rw[Dy] at hc;cases hc
 rcases hx with hk | hk
 ·refine wpAny_storeName_local hk hn (λh' xh hs=>?_) pV
  obtain⟨oL,_,_,Dz,_⟩:=id hn
  refine h _ ⟨I.ok,I.os,I.bare,⟨λb o e n hb hx=>?_,λb o e n hb hx=>?_,I.base.free,λb o e hx=>?_,I.base.eQ,I.base.d7,I.base.fC⟩,⟨_,xh,λj y v' e1 e2 e3=>?_⟩,λy c e=>?_,I.free,I.d8,λp hp=>?_,Dx ⟨oL,Dz,I.free⟩ hs,by simpa using I.len⟩ ⟨_,hs,.inl rfl⟩
  ·exact(hs.2 b (a0c (Z7 (ZY e) I.ok.above))).trans (I.base.keep b o e n hb hx)
  ·obtain⟨sl,e1⟩:=I.base.slot b o e n hb hx
   exact⟨sl,(hs.2 b (a0c (Z7 (ZY e) I.ok.above))).trans e1⟩
  ·obtain⟨o',e1⟩:=I.base.there b o e hx
   exact⟨o',(hs.2 b (a0c (Z7 (ZY e) I.ok.above))).trans e1⟩
  ·by_cases hj:j=i
   ·subst hj
    rw[hi] at e1;cases e1
    rw[a1p so] at e2
    cases e2
    exact⟨u,r,.inl ⟨hk,by simp⟩⟩
   ·rw[a1j (Ne.symm hj)] at e2
    obtain⟨u',r',q⟩:=hl j y v' e1 e2 e3
    refine⟨u',r',?_⟩
    rcases q with⟨k,e⟩ | ⟨k,c,e,z⟩
    ·refine .inl ⟨k,?_⟩
     have:y≠x:=λe=>hj (xg hN e1 (e▸hi))
     simp[this,e]
    ·exact .inr ⟨k,c,e,z.sameBut hs (ia y c e)⟩
  ·obtain⟨w',z⟩:=I.cell y c e
   exact⟨w',z.sameBut hs (ia y c e)⟩
  ·obtain⟨e,n,ne,nf,d⟩:=I.pin p hp
   exact⟨(hs.2 p.1 ne).trans e,n,ne,nf,d⟩
 ·have lG:X.fn x=true:=by
   rcases hf with z | z
   ·exact z
   ·rw[z] at hk;cases hk
  obtain⟨c,hc⟩:=I.ok.has x (.inl hk)
  obtain⟨w',z⟩:=I.cell x c hc
  refine wpAny_storeName_cell I.ok.kind hk hc z (λh' fU hs=>?_)
  obtain⟨oc,DD,L3⟩:=id z
  refine h {s with heap:=h'} ⟨I.ok,I.os,I.bare,⟨λb o e n hb hx=>?_,λb o e n hb hx=>?_,I.base.free,λb o e hx=>?_,I.base.eQ,I.base.d7,I.base.fC⟩,⟨m,hn.sameBut hs (Ne.symm (ia x c hc)),λj y v' e1 e2 e3=>?_⟩,λy c' e=>?_,I.free,I.d8,λp hp=>?_,Dx ⟨oc,DD,I.d8 x c hc⟩ hs,by simpa using I.len⟩ ⟨c,hs,.inr hc⟩
  ·exact(hs.2 b (a0c (Z7 (ZY e) (I.ok.lD x c lG hc)))).trans (I.base.keep b o e n hb hx)
  ·obtain⟨sl,e1⟩:=I.base.slot b o e n hb hx
   exact⟨sl,(hs.2 b (a0c (Z7 (ZY e) (I.ok.lD x c lG hc)))).trans e1⟩
  ·obtain⟨o',e1⟩:=I.base.there b o e hx
   exact⟨o',(hs.2 b (a0c (Z7 (ZY e) (I.ok.lD x c lG hc)))).trans e1⟩
  ·by_cases hj:j=i
   ·subst hj
    rw[hi] at e1;cases e1
    rw[a1p so] at e2
    cases e2
    exact⟨u,r,.inr ⟨.inl hk,c,hc,fU⟩⟩
   ·rw[a1j (Ne.symm hj)] at e2
    obtain⟨u',r',q⟩:=hl j y v' e1 e2 e3
    refine⟨u',r',?_⟩
    rcases q with q | ⟨k,c',e,z'⟩
    ·exact .inl q
    ·refine .inr ⟨k,c',e,z'.sameBut hs ?_⟩
     rintro rfl
     exact hj (xg hN e1 (I.ok.inj _ _ _ e hc▸hi))
  ·by_cases DG:c'=c
   ·subst DG;exact⟨_,fU⟩
   ·obtain⟨w2,z2⟩:=I.cell y c' e
    exact⟨w2,z2.sameBut hs DG⟩
  ·obtain⟨e,n,ne,nf,d⟩:=I.pin p hp
   refine⟨(hs.2 p.1 ?_).trans e,n,ne,nf,d⟩
   intro q
   rw[q,DD] at e
   have q':oc=p.2:=Z6 e
   exact d w' (by rw[<-q'];exact L3)
theorem pW{M:Model}{A:Around}{E:Value->Shared->Prop}{i:Nat}{x:Str}{v:V}{u:Value}{Q:Unit->Shared->Prop}(I:Inv X aa σ H s)(hN:X.N.Nodup)(hi:X.N[i]?=some x)(hx:Loc X.env.scope x)(r:RelV v u)
  (h:∀s',Inv X aa (σ.set i (some v)) H s'->Q () s') (hf:X.fn x=true\/X.env.scope.names.lookup x=some .local:=by first | exact .inl rfl | exact .inr rfl | assumption):wpAny M A (storeName X.env x u) Q E s :=
 Dw I hN hi hx r (λs' I' _=>h s' I') hf
theorem Inv.pX{s':Shared}{ch:List Addr}(I:Inv X aa σ H s)(ho:s'.os=s.os)(u:Un (bz X.stack) ch H H' s.heap s'.heap)(am:bC X.prog X.w H' s'.heap)(hg:AllBare s'.gens)
  (iN:∀b∈ch,(b∈X.ex\/X.cy.heap.objs.size<=b)/\b≠X.env.locals/\(∀x c,X.env.cells.lookup x=some c->c≠b)/\∀p∈X.pn++aa,p.1≠b):Inv X aa σ H' s':=by
 obtain⟨h',g',d',t',o'⟩:=s'
 have e:o'=s.os:=ho
 subst e
 exact I.call (g':=g') (t':=t') (d':=d') u am hg iN
end
abbrev XK:=Value->Option Addr->Hp->Prop
abbrev St:=List (Option V)
abbrev VK:=V->Hp->Prop
abbrev TE:=St->Hp->VK->Prop
abbrev TT:=St->Hp->(Bool->Hp->Prop)->Prop
abbrev TA:=St->Hp->(List V->Hp->Prop)->Prop
structure Ends where
 nx:St->Hp->Prop
 rt:VK
 bk:St->Hp->Prop:=λ_ _=>False
 ct:St->Hp->Prop:=λ_ _=>False
abbrev TS:=Ends->St->Hp->Prop
def EP(X:Cx)(aa:List (Addr×Obj))(σ:St)(Q:VK)(u:Value)(s':Shared):Prop:=∃v H',Inv X aa σ H' s'/\RelV v u/\Q v H'
def TP(X:Cx)(aa:List (Addr×Obj))(σ:St)(Q:Bool->Hp->Prop)(b:Bool)(s':Shared):Prop:=∃H',Inv X aa σ H' s'/\Q b H'
def AP(X:Cx)(aa:List (Addr×Obj))(σ:St)(Q:List V->Hp->Prop)(us:List Value)(s':Shared):Prop:=∃vs H',Inv X aa σ H' s'/\aB vs us/\Q vs H'
def SP(X:Cx)(aa:List (Addr×Obj))(D:Ends)(f:Flow)(s':Shared):Prop :=
 match f with
 | .next=>∃ az H',Inv X aa az H' s'/\D.nx az H'
 | .brk=>∃ az H',Inv X aa az H' s'/\D.bk az H'
 | .cont=>∃ az H',Inv X aa az H' s'/\D.ct az H'
 | .ret u=>∃v az H',Inv X aa az H' s'/\RelV v u/\D.rt v H'
def PE(X:Cx)(e:Expr)(t:TE):Prop :=
 ∀(aa:List (Addr×Obj)) (s:Shared) (σ:St) (H:Hp) (Q:VK),Inv X aa σ H s->t σ H Q->wpAny (model X.prog X.w) X.A (eval e X.env) (EP X aa σ Q) X.xe s
def PT(X:Cx)(e:Expr)(t:TT):Prop :=
 ∀(aa:List (Addr×Obj)) (s:Shared) (σ:St) (H:Hp) (Q:Bool->Hp->Prop),Inv X aa σ H s->t σ H Q->wpAny (model X.prog X.w) X.A (isTrue e X.env (eval e X.env)) (TP X aa σ Q) X.xe s
def PW(X:Cx)(e:Expr)(t:TT):Prop :=
 ∀(sq:Sem Value) (aa:List (Addr×Obj)) (s:Shared) (σ:St) (H:Hp) (Q:Bool->Hp->Prop),Inv X aa σ H s->t σ H Q->wpAny (model X.prog X.w) X.A (isTrue e X.env sq) (TP X aa σ Q) X.xe s
theorem PW.pt{X:Cx}{e:Expr}{t:TT}(h:PW X e t):PT X e t:=h _
def PA(X:Cx)(es:List Expr)(t:TA):Prop :=
 ∀(pos:Pos) (aa:List (Addr×Obj)) (s:Shared) (σ:St) (H:Hp) (Q:List V->Hp->Prop),Inv X aa σ H s->t σ H Q->wpAny (model X.prog X.w) X.A (spliced (backTo pos (starEach es X.env))) (AP X aa σ Q) X.xe s
def PS(X:Cx)(st:Stmt)(t:TS):Prop :=
 ∀(aa:List (Addr×Obj)) (s:Shared) (σ:St) (H:Hp) (D:Ends),Inv X aa σ H s->t D σ H->wpAny (model X.prog X.w) X.A (exec st X.env) (SP X aa D) X.xe s
def cN(X:Cx)(st:List Stmt)(t:TS):Prop :=
 ∀(aa:List (Addr×Obj)) (s:Shared) (σ:St) (H:Hp) (D:Ends),Inv X aa σ H s->t D σ H->wpAny (model X.prog X.w) X.A (execs st X.env) (SP X aa D) X.xe s
theorem au{α:Type}{t:Sem α}{Q Q':α->Shared->Prop}{M:Model}{A:Around}{E:Value->Shared->Prop}{s:Shared}(h:wpAny M A t Q E s)(hQ:∀a s,Q a s->Q' a s):wpAny M A t Q' E s:=wpAny_mono h hQ λ_ _ x=>x
section
variable{X:Cx}
theorem YO{a b:Expr}{ta tb:TE}(ha:PE X a ta)(hb:PE X b tb){aa:List (Addr×Obj)}{s:Shared}{σ:St}{H:Hp}{R:V->V->Hp->Prop}(I:Inv X aa σ H s)(h:ta σ H λx H1=>tb σ H1 λy H2=>R x y H2)
  {α:Type} {Q:α->Shared->Prop} {f:Value->Value->Sem α}
  (hf:∀v u s2 x y H2,Inv X aa σ H2 s2->RelV x v->RelV y u->R x y H2->wpAny (model X.prog X.w) X.A (f v u) Q X.xe s2) :
  wpAny (model X.prog X.w) X.A (eval a X.env) (λv bf=>wpAny (model X.prog X.w) X.A (eval b X.env) (λu gK=>wpAny (model X.prog X.w) X.A (f v u) Q X.xe gK) X.xe bf) X.xe s:=by
 refine au (ha aa s σ H _ I h) λv s1 ⟨x,H1,I1,r1,q1⟩=>?_
 refine au (hb aa s1 σ H1 _ I1 q1) λu s2 ⟨y,H2,I2,r2,q2⟩=>?_
 exact hf v u s2 x y H2 I2 r1 r2 q2
def lJ(i:Nat):TE:=fun σ H Q=>∃v,σ[i]?=some (some v)/\Q v H
def tC(v:V):TE:=λ_ H Q=>Q v H
theorem L4{i:Nat}{x:Str}{pos:Pos}(hN:X.N[i]?=some x)(hv:nL X.env.scope x)(hd:(x==("__debug__":Str))=false:=by decide)(gj:(x==("__classdict__":Str))=false:=by decide):PE X (.Name x pos) (lJ i):=by
 intro aa s σ H Q I h
 obtain⟨v,e,h⟩:=h
 obtain⟨m,hn,hl⟩:=I.loc
 obtain⟨u,r,l⟩:=hl i x v hN e hv
 have fin:EP X aa σ Q u s:=⟨v,H,I,r,h⟩
 rcases l with⟨hk,hm⟩ | ⟨hk,c,hc,hcell⟩
 ·exact wpAny_Name (wpAny_loadName_local I.ok.kind hk hn hm fin) hd
 ·rcases hk with hk | hk
  ·exact wpAny_Name (wpAny_loadName_cell I.ok.kind hk hc hcell fin) hd
  ·exact wpAny_Name (wpAny_loadName_free I.ok.kind hk hc hcell fin gj) hd
theorem f_{i j pos}:PE X (.Constant (.int i) j pos) (tC (.int i)):=λ_ _ _ H _ I h=>wpAny_Constant_int ⟨.int i,H,I.tok _,⟨_,rfl⟩,h⟩
theorem fV{b j pos}:PE X (.Constant (.bool b) j pos) (tC (.bl b)):=λ_ _ _ H _ I h=>Constant_bool ⟨.bl b,H,I,rfl,h⟩
theorem ic{j pos}:PE X (.Constant .none j pos) (tC .aw):=λ_ _ _ H _ I h=>Constant_none ⟨.aw,H,I,rfl,h⟩
theorem D_{x j pos}:PE X (.Constant (.str x) j pos) (tC (.str x)):=λ_ _ _ H _ I h=>Calls.Constant_str ⟨.str x,H,I.tok _,⟨_,rfl⟩,h⟩
def Gl(X:Cx)(x:Str):Prop:=X.env.kindOf x=some .globalImplicit
theorem nO{E:Value->Shared->Prop}{aa:List (Addr×Obj)}{s:Shared}{σ:St}{H:Hp}{x:Str}{u:Value}{pos:Pos}{Q:Value->Shared->Prop}(I:Inv X aa σ H s)(hg:Gl X x)(hm:X.mg x=some u)(h:Q u s)
  (hd:(x==("__debug__":Str))=false:=by decide):wpAny (model X.prog X.w) X.A (eval (.Name x pos) X.env) Q E s :=
 Calls.Name_function_global I.ok.kind hg (Calls.loadGlobal_global (by rw[I.ok.glob];exact I.mod.glob.keeps I.bk) hm h) hd
theorem iO{E:Value->Shared->Prop}{aa:List (Addr×Obj)}{s:Shared}{σ:St}{H:Hp}{x:Str}{u:Value}{pos:Pos}{Q:Value->Shared->Prop}(I:Inv X aa σ H s)(hg:Gl X x)(hm:X.mg x=none)(hv:bootBuiltins x=some u)(h:Q u s)
  (hn:x≠"__name__":=by decide) (hd:(x==("__debug__":Str))=false:=by decide):wpAny (model X.prog X.w) X.A (eval (.Name x pos) X.env) Q E s:=by
 obtain⟨mb,h1,h2⟩:=I.mod.blt
 exact Calls.Name_function_global I.ok.kind hg (Calls.loadGlobal_builtin (by rw[I.ok.glob];exact I.mod.glob.keeps I.bk) hm (by rw[I.ok.blt];exact h1.keeps I.bk) ((h2 x hn).trans hv) h) hd
theorem L5{x:Str}{v:V}{u:Value}{pos:Pos}(hg:Gl X x)(hm:X.mg x=some u)(r:RelV v u)(hd:(x==("__debug__":Str))=false:=by decide):PE X (.Name x pos) (tC v) :=
 λ_ _ _ H _ I h=>nO I hg hm ⟨v,H,I,r,h⟩ hd
theorem L7{x:Str}{v:V}{u:Value}{pos:Pos}(hg:Gl X x)(hm:X.mg x=none)(hv:bootBuiltins x=some u)(r:RelV v u)(hn:x≠"__name__":=by decide)(hd:(x==("__debug__":Str))=false:=by decide):PE X (.Name x pos) (tC v) :=
 λ_ _ _ H _ I h=>iO I hg hm hv ⟨v,H,I,r,h⟩ hn hd
def L8(ta tb:TE)(k:Int->Int->Hp->Prop):St->Hp->Prop:=fun σ H=>ta σ H λx H1=>tb σ H1 λy H2=>∃i j,x=.int i/\y=.int j/\k i j H2
variable{a b:Expr}{ta tb:TE}{pos:Pos}
def PC(X:Cx)(op:CmpOp)(a b:Expr)(t:TE):Prop :=
 ∀(aa:List (Addr×Obj)) (s:Shared) (σ:St) (H:Hp) (Q:VK),Inv X aa σ H s->t σ H Q->
  wpAny (model X.prog X.w) X.A (eval a X.env) (λv bf=>wpAny (model X.prog X.w) X.A (eval b X.env) (λu gK=>wpAny (model X.prog X.w) X.A (compareOp op v u) (EP X aa σ Q) X.xe gK) X.xe bf) X.xe s
def nP(p:Int->Int->Bool)(ta tb:TE):TE:=fun σ H Q=>L8 ta tb (λi j H2=>Q (.bl (p i j)) H2) σ H
abbrev YQ:TE->TE->TE:=nP λi j=>decide (i<j)
abbrev YR:TE->TE->TE:=nP λi j=>decide (i<=j)
abbrev YS:TE->TE->TE:=nP λi j=>decide (j<i)
abbrev YT:TE->TE->TE:=nP λi j=>decide (j<=i)
abbrev YU:TE->TE->TE:=nP λi j=>decide (i=j)
abbrev YV:TE->TE->TE:=nP λi j=>!decide (i=j)
def tB(t:TE):TT:=fun σ H Q=>t σ H λx H1=>∃c,x=.bl c/\Q c H1
theorem YW{op:CmpOp}{t:TE}(h:PC X op a b t)(h1:behindInMarks op b=false:=by first | exact nobehind _ (by decide) (by decide) | rfl):PT X (.Compare a [op] [b] pos) (tB t):=by
 intro aa s σ H Q I hw
 refine wpAny_isTrue_Compare1 (au (h aa s σ H _ I hw) λv s1 h1=>au h1 λu s2 h2=>au h2 λc s3 ⟨x,H1,I1,r1,q1⟩=>?_) h1
 obtain⟨d,rfl,q⟩:=q1
 cases r1
 exact wpAny_truthy_bool ⟨H1,I1,q⟩
theorem dP{e:Expr}{t:TE}(h:PE X e t)(he:∀sq,isTrue e X.env sq=(do let v <-sq;standAt e.pos;holding [v] (truthy v)):=by intro _;rfl):PT X e (tB t):=by
 intro aa s σ H Q I hw
 refine isTrue_plain (au (h aa s σ H _ I hw) λv s1 ⟨x,H1,I1,r1,q1⟩=>?_) (he _)
 obtain⟨d,rfl,q⟩:=q1
 cases r1
 exact wpAny_truthy_bool ⟨H1,I1,q⟩
variable{tA DH:TT}{bv:List Expr}
def L9(t u:TT):TT:=fun σ H Q=>t σ H λc H1=>if c=true then Q true H1 else u σ H1 Q
def L'(t:TT):TT:=fun σ H Q=>t σ H λc H1=>Q (!c) H1
theorem ig(ha:PT X a tA):PW X (.BoolOp .Or [a] pos) tA:=by
 intro wh aa s σ H Q I h
 refine isTrue_or (au (ha aa s σ H Q I h) λc s1 e=>?_)
 cases c with
 | false=>exact isTrue_or_nil e
 | true=>exact e
theorem gL(ha:PT X a tA)(hb:PW X (.BoolOp .Or (b::bv) pos) DH):PW X (.BoolOp .Or (a::b::bv) pos) (L9 tA DH):=by
 intro wh aa s σ H Q I h
 refine isTrue_or (au (ha aa s σ H _ I h) λc s1 ⟨H1,I1,q1⟩=>?_)
 cases c with
 | true=>exact⟨H1,I1,q1⟩
 | false=>exact hb wh aa s1 σ H1 Q I1 q1
theorem d9(ha:PT X a tA):PT X (.UnaryOp .Not a pos) (L' tA):=by
 intro aa s σ H Q I h
 exact isTrue_not (ha aa s σ H (λc H1=>Q (!c) H1) I h)
def Mb(ta tb:TE):TE:=fun σ H Q=>ta σ H λx H1=>∃c,x=.bl c/\if c=true then tb σ H1 Q else Q (.bl false) H1
def Mc(ta:TE):TE:=fun σ H Q=>ta σ H λx H1=>∃c,x=.bl c/\Q (.bl (!c)) H1
theorem nQ{op}{t:TE}(h:PE X a t):PE X (.BoolOp op [a] pos) t:=λaa s σ H Q I hw=>BoolOp_one (h aa s σ H Q I hw)
theorem nR(ha:PE X a ta)(hb:PE X (.BoolOp .And (b::bv) pos) tb):PE X (.BoolOp .And (a::b::bv) pos) (Mb ta tb):=by
 intro aa s σ H Q I h
 refine BoolOp_and (au (ha aa s σ H _ I h) λv s1 ⟨x,H1,I1,r1,q1⟩=>?_)
 obtain⟨c,rfl,q1⟩:=q1
 cases r1
 refine wpAny_truthy_bool ?_
 cases c with
 | true=>exact hb aa s1 σ H1 Q I1 q1
 | false=>exact⟨.bl false,H1,I1,rfl,q1⟩
theorem Md(ha:PE X a ta):PE X (.UnaryOp .Not a pos) (Mc ta):=by
 intro aa s σ H Q I h
 refine UnaryOp_ (au (ha aa s σ H _ I h) λv s1 ⟨x,H1,I1,r1,q1⟩=>?_)
 obtain⟨c,rfl,q1⟩:=q1
 cases r1
 exact not_of (wpAny_truthy_bool ⟨.bl (!c),H1,I1,rfl,q1⟩)
end
def af(K:PySem.W.Frag)(H:Hp)(a:Addr)(xs:List V):Prop :=
 Rd H a (.lst xs)\/
  ∃(o:Obj) (ad:Array Value) (n:Nat),K.lookup a=some o/\o.cls=.type "list"/\o.dict=none/\o.data=.seq ad n/\ad.size<=sizeLine/\aB xs ad.toList
def bo(K:PySem.W.Frag)(H:Hp)(a:Addr)(xs:List V):Prop :=
 Rd H a (.tup xs)\/
  ∃(o:Obj) (ad:Array Value) (n:Nat),K.lookup a=some o/\o.cls=.type "tuple"/\o.data=.seq ad n/\ad.size<=sizeLine/\aB xs ad.toList
def Mf:Value->Option V
 | .none=>some .aw
 | .bool b=>some (.bl b)
 | .int i _=>some (.int i)
 | .str x _=>some (.str x)
 | .bytes b _=>some (.gI b)
 | .float b _=>some (.lB b)
 | .ref a=>some (.ref a)
 | .type n=>some (.ty n)
 | _=>none
theorem RelV.abs{x:V}{u:Value}(r:RelV x u):Mf u=some x:=by
 cases x with
 | aw=>cases r;rfl
 | bl _=>cases r;rfl
 | int _=>obtain⟨t,rfl⟩:=r;rfl
 | str _=>obtain⟨t,rfl⟩:=r;rfl
 | gI _=>obtain⟨t,rfl⟩:=r;rfl
 | lB _=>obtain⟨t,rfl⟩:=r;rfl
 | ref _=>cases r;rfl
 | ty _=>cases r;rfl
theorem RelV.inj{x y:V}{u:Value}(r:RelV x u)(q:RelV y u):x=y:=Z6 (r.abs.symm.trans q.abs)
theorem aB.inj{xs ys:List V}{us:List Value}(a:aB xs us)(b:aB ys us):xs=ys:=by
 induction a generalizing ys with
 | nil=>cases b;rfl
 | cons r t ih =>
  cases b with
  | cons r' t'=>rw[r.inj r',ih t']
section
variable{X:Cx}{aa:List (Addr×Obj)}{σ:St}{H:Hp}{s:Shared}{a:Addr}{xs ys:List V}
theorem af.of{K:PySem.W.Frag}(h:H a=some (.lst xs)):af K H a xs:=.inl (.inl h)
theorem bo.of{K:PySem.W.Frag}(h:H a=some (.tup xs)):bo K H a xs:=.inl (.inl h)
theorem Inv.list(I:Inv X aa σ H s)(h:af X.K H a xs):∃ad:List Value,aB xs ad/\PlainL s.heap a ad.toArray/\xs.length<=sizeLine:=by
 rcases h with h | ⟨o,ad,n,hk,hc,hd,hs,hz,r⟩
 ·obtain⟨z,ad,n,r,e⟩:=h.ok I.am
  exact⟨ad,r,⟨_,n,e,rfl,rfl,rfl⟩,z⟩
 ·refine⟨ad.toList,r,⟨o,n,I.bW a o hk,hc,hd,by simpa using hs⟩,?_⟩
  have e:=r.length
  simp only[a1S] at e
  omega
theorem Inv.tuple(I:Inv X aa σ H s)(h:bo X.K H a xs):∃ad:List Value,aB xs ad/\IsTup s.heap a ad.toArray/\xs.length<=sizeLine:=by
 rcases h with h | ⟨o,ad,n,hk,hc,hs,hz,r⟩
 ·obtain⟨z,ad,r,p⟩:=h.ok I.am
  exact⟨ad,r,p,z⟩
 ·refine⟨ad.toList,r,⟨o,I.bW a o hk,hc,n,by simpa using hs⟩,?_⟩
  have e:=r.length
  simp only[a1S] at e
  omega
theorem Inv.nU(I:Inv X aa σ H s)(h:af X.K H a xs)(h':af X.K H a ys):xs=ys:=by
 obtain⟨ad,r,⟨o,n,e,_,_,d⟩,_⟩:=I.list h
 obtain⟨its',r',⟨o',n',e',_,_,d'⟩,_⟩:=I.list h'
 rw[e] at e';cases e'
 rw[d] at d'
 injection d' with d1 _
 have:ad=its':=by simpa using congrArg Array.toList d1
 subst this
 exact r.inj r'
end
abbrev Cx.eR(X:Cx)(E:Value->Shared->Prop):Cx:={X with xe:=E}
abbrev Cx.gk(X:Cx):Cx:=X.eR λ_ _=>False
theorem Cx.Ok.eR{X:Cx}(ok:X.Ok)(E:Value->Shared->Prop):(X.eR E).Ok :=
 ⟨ok.mod,ok.kind,ok.glob,ok.blt,ok.above,ok.inj,ok.has,ok.lD,ok.hd,ok.frames,ok.nM,ok.pU,ok.bs,ok.gJ,ok.lE,ok.lF,ok.fT,ok.ju⟩
theorem Cx.Ok.fW{X:Cx}{E:Value->Shared->Prop}(ok:(X.eR E).Ok):X.Ok :=
 ⟨ok.mod,ok.kind,ok.glob,ok.blt,ok.above,ok.inj,ok.has,ok.lD,ok.hd,ok.frames,ok.nM,ok.pU,ok.bs,ok.gJ,ok.lE,ok.lF,ok.fT,ok.ju⟩
section
variable{X:Cx}{aa:List (Addr×Obj)}{σ:St}{H:Hp}{s:Shared}{E:Value->Shared->Prop}
theorem Inv.eR(I:Inv X aa σ H s)(E:Value->Shared->Prop):Inv (X.eR E) aa σ H s:=⟨I.ok.eR E,I.os,I.bare,I.base,I.loc,I.cell,I.free,I.d8,I.pin,I.am,I.len⟩
theorem Inv.fW(I:Inv (X.eR E) aa σ H s):Inv X aa σ H s:=⟨I.ok.fW,I.os,I.bare,I.base,I.loc,I.cell,I.free,I.d8,I.pin,I.am,I.len⟩
theorem SP.fW{D:Ends}{f:Flow}{s':Shared}(h:SP (X.eR E) aa D f s'):SP X aa D f s':=by
 cases f with
 | next=>obtain⟨az,H',I,q⟩:=h;exact⟨az,H',I.fW,q⟩
 | brk=>obtain⟨az,H',I,q⟩:=h;exact⟨az,H',I.fW,q⟩
 | cont=>obtain⟨az,H',I,q⟩:=h;exact⟨az,H',I.fW,q⟩
 | ret u=>obtain⟨v,az,H',I,r,q⟩:=h;exact⟨v,az,H',I.fW,r,q⟩
theorem cN.gk{st:List Stmt}{t:TS}(h:cN X.gk st t):cN X st t:=λaa s σ H D I hw =>
 wpAny_mono (h aa s σ H D (I.eR _) hw) (λ_ _ q=>q.fW) λ_ _ z=>False.elim z
end
section
variable{X:Cx}{st:Stmt}{bv:List Stmt}{t u:TS}{e:Expr}{te:TE}{pos:Pos}
def Mh:TS:=λD σ H=>D.nx σ H
def Mi(t u:TS):TS:=λD σ H=>t {D with nx:=u D} σ H
theorem w_:cN X [] Mh:=λ_ _ σ H _ I h=>wpAny_execs_nil ⟨σ,H,I,h⟩
theorem c_(h1:PS X st t)(h2:cN X bv u):cN X (st::bv) (Mi t u):=by
 intro aa s σ H D I h
 refine wpAny_execs_cons (au (h1 aa s σ H {D with nx:=u D} I h) λf s1 q=>?_)
 cases f with
 | next =>
  obtain⟨az,H',I',q⟩:=q
  exact h2 aa s1 az H' D I' q
 | ret v=>exact q
 | brk=>exact q
 | cont=>exact q
theorem h_(h1:PS X st t):cN X [st] t:=by
 intro aa s σ H D I h
 refine wpAny_execs_cons (au (h1 aa s σ H D I h) λf s1 q=>?_)
 cases f with
 | next=>exact wpAny_execs_nil q
 | ret v=>exact q
 | brk=>exact q
 | cont=>exact q
theorem Inv.quiet{aa:List (Addr×Obj)}{σ:St}{H:Hp}{s:Shared}(I:Inv X aa σ H s):interactive X.env=false:=by simp[interactive,I.ok.kind]
def Mj(te:TE):TS:=λD σ H=>te σ H λ_ H1=>D.nx σ H1
theorem C_(he:PE X e te)(hs:swapsWith e none pos.line X.env=pure false:=by rfl):PS X (.Expr e pos) (Mj te):=by
 intro aa s σ H D I h
 exact wpAny_Expr_any (au (he aa s σ H _ I h) λv s1 ⟨x,H1,I1,r1,q1⟩=>⟨σ,H1,I1,q1⟩) I.quiet hs
def Ml(te:TE):TS:=λD σ H=>te σ H D.rt
theorem n_(he:PE X e te):PS X (.Return (some e) pos) (Ml te):=by
 intro aa s σ H D I h
 exact wpAny_Return_some (au (he aa s σ H _ I h) λv s1 ⟨x,H1,I1,r1,q1⟩=>⟨x,σ,H1,I1,r1,q1⟩)
def Mm(c:TT)(t u:TS):TS:=λD σ H=>c σ H λb H1=>if b=true then t D σ H1 else u D σ H1
theorem Z_{c:Expr}{a b:List Stmt}{tc:TT}(hc:PT X c tc)(ha:cN X a t)(hb:cN X b u):PS X (.If c a b pos) (Mm tc t u):=by
 intro aa s σ H D I h
 refine wpAny_If (au (hc aa s σ H _ I h) λd s1 ⟨H1,I1,q1⟩=>?_)
 cases d with
 | true=>exact ha aa s1 σ H1 D I1 q1
 | false=>exact hb aa s1 σ H1 D I1 q1
def Mn:TS:=λ_ _ _=>False
theorem O_{Mo:List Stmt}:cN X Mo Mn:=λ_ _ _ _ _ _ h=>h.elim
end
abbrev TG:=V->St->Hp->(St->Hp->Prop)->Prop
abbrev j7:=List V->St->Hp->(St->Hp->Prop)->Prop
def PG(X:Cx)(Mp:Expr)(t:TG):Prop :=
 ∀(aa:List (Addr×Obj)) (s:Shared) (σ:St) (H:Hp) (v:V) (u:Value) (Q:St->Hp->Prop),Inv X aa σ H s->RelV v u->t v σ H Q->
  wpAny (model X.prog X.w) X.A (assign Mp X.env u) (λ_ s'=>∃ az H',Inv X aa az H' s'/\Q az H') X.xe s
def pY(X:Cx)(ts:List Expr)(t:j7):Prop :=
 ∀(aa:List (Addr×Obj)) (s:Shared) (σ:St) (H:Hp) (vs:List V) (us:List Value) (Q:St->Hp->Prop),Inv X aa σ H s->aB vs us->t vs σ H Q->
  wpAny (model X.prog X.w) X.A (assignInOrder ((assignEach ts X.env).map (·.2)) us) (λ_ s'=>∃ az H',Inv X aa az H' s'/\Q az H') X.xe s
abbrev xi:=V->V->V->Hp->(Hp->Prop)->Prop
def DI(X:Cx)(t:xi):Prop :=
 ∀(aa:List (Addr×Obj)) (s:Shared) (σ:St) (H:Hp) (o i v:V) (ov iv u:Value) (Q:Hp->Prop),Inv X aa σ H s->RelV o ov->RelV i iv->RelV v u->t o i v H Q->
  wpAny (model X.prog X.w) X.A (setItem ov iv u) (λ_ s'=>∃H',Inv X aa σ H' s'/\Q H') X.xe s
abbrev sr:=V->V->Hp->VK->Prop
def DQ(X:Cx)(op:Operator)(t:sr):Prop :=
 ∀(aa:List (Addr×Obj)) (s:Shared) (σ:St) (H:Hp) (x y:V) (v u:Value) (Q:VK),Inv X aa σ H s->RelV x v->RelV y u->t x y H Q->
  wpAny (model X.prog X.w) X.A (inplaceOp op v u) (EP X aa σ Q) X.xe s
section
variable{X:Cx}{pos:Pos}
def jw(i:Nat):TG:=λv σ H Q=>Q (σ.set i (some v)) H
theorem q_{i:Nat}{x:Str}(hN:X.N.Nodup)(hi:X.N[i]?=some x)(hx:Loc X.env.scope x)(hf:X.fn x=true\/X.env.scope.names.lookup x=some .local:=by first | exact .inl rfl | exact .inr rfl | assumption):PG X (.Name x pos) (jw i):=by
 intro aa s σ H v u Q I r h
 exact wpAny_assign_Name (pW I hN hi hx r (λs' I'=>⟨_,H,I',h⟩) hf)
def DU:j7:=λvs σ H Q=>vs=[]/\Q σ H
def xj(t:TG)(u:j7):j7:=λvs σ H Q=>∃v r,vs=v::r/\t v σ H λaz H'=>u r az H' Q
theorem nV:pY X [] DU:=by
 intro aa s σ H vs us Q I r h
 obtain⟨e,h⟩:=h
 subst e
 cases r
 exact assignInOrder_nil ⟨σ,H,I,h⟩
theorem N_{e:Expr}{es:List Expr}{t:TG}{u:j7}(h1:PG X e t)(h2:pY X es u)
  (hs:(assignEach (e::es) X.env).map (·.2)=assign e X.env::(assignEach es X.env).map (·.2):=by rfl):pY X (e::es) (xj t u):=by
 intro aa s σ H vs us Q I r h
 obtain⟨v,vr,e1,h⟩:=h
 subst e1
 cases r with
 | cons r rr =>
  rw[hs]
  refine assignInOrder_cons (au (h1 aa s σ H _ _ _ I r h) λ_ s1 ⟨gM,H1,I1,q1⟩=>?_)
  exact h2 aa s1 gM H1 _ _ Q I1 rr q1
def xk(K:PySem.W.Frag)(n:Nat)(t:j7):TG:=λv σ H Q=>∃a xs,v=.ref a/\bo K H a xs/\xs.length=n/\t xs σ H Q
theorem ss{es:List Expr}{k:Nat}{t:j7}{n:Nat}(hc:X.calm=true)(h:pY X es t)
  (hn:(assignEach es X.env).length=n:=by rfl) (eh:(assignEach es X.env).findIdx? (·.1)=none:=by rfl):PG X (.Tuple es k pos) (xk X.K n t):=by
 intro aa s σ H v u Q I r hw
 obtain⟨a,xs,e1,hq,hl,hw⟩:=hw
 subst e1
 cases r
 obtain⟨ad,rv,ht,hz⟩:=I.tuple hq
 refine assign_Tuple_tuple (I.ok.hd hc) ht (by simp[hn,<-hl,rv.length]) eh λh' hx=>?_
 have I1:Inv X aa σ H {s with heap:=h'}:=I.kept (t':=s.toks) λb o e=>hx b o (a0c (ZY e)) e
 exact h aa _ σ H xs _ Q I1 (by simpa using rv) hw
def Mr(to ti:TE)(t:xi):TG:=λv σ H Q=>to σ H λo H1=>ti σ H1 λi H2=>t o i v H2 λH3=>Q σ H3
theorem xm{o i:Expr}{to ti:TE}{t:xi}(ho:PE X o to)(hi:PE X i ti)(hs:DI X t)
  (ha:∀v,assign (.Subscript o i pos) X.env v=(do
   let ov <-holding [v] (eval o X.env)
   let iv <-holding [v,ov] (eval i X.env)
   standAt pos
   holding [v,ov,iv] (setItem ov iv v)
   release [v,ov,iv] []):=by intro _;rfl):PG X (.Subscript o i pos) (Mr to ti t):=by
 intro aa s σ H v u Q I r h
 rw[ha]
 refine wpAny_bind (wpAny_holding (au (ho aa s σ H _ I h) λov s1 ⟨x,H1,I1,r1,q1⟩=>?_))
 refine wpAny_bind (wpAny_holding (au (hi aa s1 σ H1 _ I1 q1) λiv s2 ⟨y,H2,I2,r2,q2⟩=>?_))
 refine wpAny_bind (wpAny_standAt (wpAny_bind (wpAny_holding (au (hs aa s2 σ H2 x y v ov iv u _ I2 r1 r2 r q2) λ_ s3 ⟨H3,I3,q3⟩=>?_))))
 exact wpAny_release ⟨σ,H3,I3,q3⟩
def su(te:TE)(g:TG):TS:=λD σ H=>te σ H λx H1=>g x σ H1 D.nx
theorem sv{tg e:Expr}{te:TE}{g:TG}(he:PE X e te)(hg:PG X tg g)(hs:swapsWithSole [tg] e pos.line X.env=pure false:=by rfl)(hw:swappedStores [tg] e X.env=pure none:=by rfl)
  (h1:(assignEach [tg] X.env).map (·.2)=[assign tg X.env]:=by rfl):PS X (.Assign [tg] e pos) (su te g):=by
 intro aa s σ H D I h
 refine wpAny_Assign_stores (au (he aa s σ H _ I h) λv s1 ⟨x,H1,I1,r1,q1⟩=>?_) hs hw
 rw[h1]
 exact au (hg aa s1 σ H1 x v _ I1 r1 q1) λ_ s2 q=>q
theorem k_{i:Nat}{x:Str}{e:Expr}{te:TE}{gm:Pos}(hN:X.N.Nodup)(hi:X.N[i]?=some x)(hx:Loc X.env.scope x)(he:PE X e te)(hs:swapsWith e (some (.Name x gm)) pos.line X.env=pure false:=by rfl)(hf:X.fn x=true\/X.env.scope.names.lookup x=some .local:=by first | exact .inl rfl | exact .inr rfl | assumption) :
  PS X (.Assign [.Name x gm] e pos) (su te (jw i)):=by
 intro aa s σ H D I h
 refine wpAny_Assign_Name (au (he aa s σ H _ I h) λv s1 ⟨y,H1,I1,r1,q1⟩=>?_) hs
 exact pW I1 hN hi hx r1 (λs2 I2=>⟨_,H1,I2,q1⟩) hf
def Ms(i:Nat)(te:TE)(ti:sr):TS:=λD σ H=>∃x,σ[i]?=some (some x)/\te σ H λy H1=>ti x y H1 λz H2=>D.nx (σ.set i (some z)) H2
theorem Mt{i:Nat}{x:Str}{e:Expr}{te:TE}{op:Operator}{ti:sr}{gm:Pos}(hN:X.N.Nodup)(hi:X.N[i]?=some x)(hx:Loc X.env.scope x)(he:PE X e te)(ho:DQ X op ti)(hf:X.fn x=true\/X.env.scope.names.lookup x=some .local:=by first | exact .inl rfl | exact .inr rfl | assumption) :
  PS X (.AugAssign (.Name x gm) op e pos) (Ms i te ti):=by
 intro aa s σ H D I h
 obtain⟨v,e1,h⟩:=h
 obtain⟨m,hn,hl⟩:=I.loc
 have Mv:nL X.env.scope x:=by rcases hx with k | k;exact .inl k;exact .inr (.inl k)
 obtain⟨u,r,l⟩:=hl i x v hi e1 Mv
 refine wpAny_AugAssign_Name ?_
 have go:wpAny (model X.prog X.w) X.A (eval e X.env) (λw gK=>wpAny (model X.prog X.w) X.A (inplaceOp op u w) (λr sw=>wpAny (model X.prog X.w) X.A (storeName X.env x r) (λ_=>SP X aa D .next) X.xe sw) X.xe gK) X.xe s:=by
  refine au (he aa s σ H _ I h) λw s1 ⟨y,H1,I1,r1,q1⟩=>?_
  refine au (ho aa s1 σ H1 v y u w _ I1 r r1 q1) λz s2 ⟨zv,H2,I2,r2,q2⟩=>?_
  exact pW I2 hN hi hx r2 (λs3 I3=>⟨_,H2,I3,q2⟩) hf
 rcases l with⟨hk,hm⟩ | ⟨hk,c,hc,hcell⟩
 ·exact wpAny_loadName_local I.ok.kind hk hn hm go
 ·rcases hk with hk | hk
  ·exact wpAny_loadName_cell I.ok.kind hk hc hcell go
  ·rcases hx with k | k
   ·have:X.env.scope.names.lookup x=some .free:=hk
    rw[k] at this;cases this
   ·have:X.env.scope.names.lookup x=some .free:=hk
    rw[k] at this;cases this
def Mw(f:Int->Int->Int):sr:=λx y H Q=>∃i j,x=.int i/\y=.int j/\Q (.int (f i j)) H
theorem My:DQ X .Add (Mw λi j=>i+j):=by
 intro aa s σ H x y v u Q I r1 r2 h
 obtain⟨i,j,e1,e2,q⟩:=h
 subst e1;subst e2
 obtain⟨t,rfl⟩:=r1
 obtain⟨t',rfl⟩:=r2
 exact iadd_int ⟨.int _,H,I.tok _,⟨_,rfl⟩,q⟩
def Mz(c:TT)(tb:TS):TS:=λD σ H=>∃W:Nat->St->Hp->Prop,(∃m,W m σ H)/\∀m σ H,W m σ H->
 c σ H λb H1=>if b=true then ∃N:St->Hp->Prop,(∀ az H',N az H'->∃m',m'<m/\W m' az H')/\tb {D with nx:=N,ct:=N,bk:=D.nx} σ H1 else D.nx σ H1
theorem MA{c:Expr}{body:List Stmt}{tc:TT}{tb:TS}(hp:PassesOwn (model X.prog X.w) X.A X.env X.xe)(hc:PT X c tc)(hb:cN X body tb):PS X (.While c body [] pos) (Mz tc tb):=by
 intro aa s σ H D I h
 obtain⟨W,⟨m0,w0⟩,ii⟩:=h
 refine wpAny_While (codeAny_whileLoop (λn s'=>∃ az H',Inv X aa az H' s'/\W n az H') ?_ m0 ⟨σ,H,I,w0⟩)
 rintro n s1 ⟨gM,H1,I1,w1⟩
 refine wpAny_passesOwn hp (au (hc aa s1 gM H1 _ I1 (ii n gM H1 w1)) λb s2 ⟨H2,I2,q2⟩=>?_)
 cases b with
 | true =>
  obtain⟨N,hN,q2⟩:=q2
  rw[if_pos rfl]
  refine wpAny_passesOwn hp (au (hb aa s2 gM H2 _ I2 q2) λf s3 q3=>?_)
  cases f with
  | next =>
   obtain⟨ij,H3,I3,n3⟩:=q3
   obtain⟨m',hm,w3⟩:=hN ij H3 n3
   exact⟨m',hm,ij,H3,I3,w3⟩
  | cont =>
   obtain⟨ij,H3,I3,n3⟩:=q3
   obtain⟨m',hm,w3⟩:=hN ij H3 n3
   exact⟨m',hm,ij,H3,I3,w3⟩
  | brk=>exact q3
  | ret v=>exact q3
 | false =>
  rw[if_neg a0b]
  exact wpAny_execs_nil ⟨gM,H2,I2,q2⟩
end
structure It where
 go:Nat->Hp->Prop
 gN:Nat->Hp->V->Hp->Prop
 stop:Nat->Hp->Prop
def gn(X:Cx)(aa:List (Addr×Obj))(H:Hp)(b:Addr):Prop :=
 H b=none/\b≠X.env.locals/\b∉X.fs/\(b∈X.ex\/X.cy.heap.objs.size<=b)/\(∀x c,X.env.cells.lookup x=some c->c≠b)/\∀p∈X.pn++aa,p.1≠b
theorem Inv.pZ{X:Cx}{aa:List (Addr×Obj)}{σ:St}{H H':Hp}{s:Shared}{b:Addr}(I:Inv X aa σ H s)(hb:s.heap.objs.size<=b)(hn:H' b=none):gn X aa H' b:=by
 refine⟨hn,a0M (Z7 I.lt hb),I.LY hb,.inr (Z9 I.sz hb),λx c e z=>?_,λp hp z=>?_⟩
 ·obtain⟨v,q⟩:=I.cell x c e
  exact absurd (Z7 q.lt (by rw[z];exact hb)) (a0G _)
 ·exact absurd (Z7 (ZY (I.pin p hp).1) (by rw[z];exact hb)) (a0G _)
structure j8(P:Program)(w:World)(K:PySem.W.Frag)(tg:Expr)(J:It)(fp:List Addr)(it:Addr)(tn:Nat->Heap->Prop):Prop where
 mem:it∈fp
 obj:∀i h,tn i h->∀b∈fp,∃o,h.get? b=some o/\∀v,o.data≠.cell v
 keep:∀i h h',tn i h->(∀b∈fp,∀o,h.get? b=some o->h'.get? b=some o)->tn i h'
 item:∀(X:Cx),X.prog=P->X.w=w->X.K=K->X.calm=true->∀(i:Nat) (aa:List (Addr×Obj)) (s:Shared) (σ:St) (H:Hp) (E:Value->Shared->Prop),Inv X aa σ H s->(∀b∈fp,gn X aa H b)->tn i s.heap->J.go i H->
  wpAny (model P w) X.A (pyNext (.ref it)) (λr s1=>∃u,r=some u/\
   wpAny (model P w) X.A (letOwnedTupleGo tg (.ref it) u) (λ_ s2=>∃x H',Inv X aa σ H' s2/\RelV x u/\J.gN i H x H'/\tn (i+1) s2.heap/\∀b∈fp,H' b=none) E s1) E s
 done:∀(X:Cx),X.prog=P->X.w=w->X.K=K->X.calm=true->∀(i:Nat) (aa:List (Addr×Obj)) (s:Shared) (σ:St) (H:Hp) (E:Value->Shared->Prop),Inv X aa σ H s->(∀b∈fp,gn X aa H b)->tn i s.heap->J.stop i H->
  wpAny (model P w) X.A (pyNext (.ref it)) (λr s1=>r=none/\Inv X aa σ H s1) E s
 self:∀(A:Around) (i:Nat) (s:Shared) (Q:Value->Shared->Prop) (E:Value->Shared->Prop),tn i s.heap->Q (.ref it) s->wpAny (model P w) A (pyIter (.ref it)) Q E s
abbrev TI:=St->Hp->(It->Hp->Prop)->Prop
def DX(X:Cx)(aa:List (Addr×Obj))(σ:St)(tg:Expr)(R:It->Hp->Prop)(sB:Value)(s2:Shared):Prop :=
 ∃(it:Addr) (fp:List Addr) (tn:Nat->Heap->Prop) (J:It) (H':Hp),sB=.ref it/\Inv X aa σ H' s2/\j8 X.prog X.w X.K tg J fp it tn/\tn 0 s2.heap/\(∀b∈fp,gn X aa H' b)/\R J H'
def PI(X:Cx)(tg iter:Expr)(wi:TI):Prop :=
 ∀(aa:List (Addr×Obj)) (s:Shared) (σ:St) (H:Hp) (R:It->Hp->Prop),Inv X aa σ H s->wi σ H R->
  wpAny (model X.prog X.w) X.A (eval iter X.env) (λv s1=>wpAny (model X.prog X.w) X.A (pyIter v) (DX X aa σ tg R) X.xe s1) X.xe s
theorem xn{M:Model}{A:Around}{E:Value->Shared->Prop}{s:Shared}{tg:Expr}{it:Addr}{u:Value}{o:Obj}{n:String}{vs:Array Value}{Q:Unit->Shared->Prop}(ho:s.heap.get? it=some o)(hc:o.cls=.type n)(hd:o.data=.fields vs)
  (hn:["enumerate","zip","dict_itemiterator","dict_reverseitemiterator","odict_iterator","itertools.zip_longest","itertools.pairwise"].contains n=false) (hQ:Q () s):wpAny M A (letOwnedTupleGo tg (.ref it) u) Q E s:=by
 unfold letOwnedTupleGo
 cases tg <;> first
  | exact wpAny_pure hQ
  | (cases u <;> first
    | exact wpAny_pure hQ
    | (refine wpAny_bind (wpAny_load ho ?_)
       rw[hc,hd]
       show wpAny M A (if (["enumerate","zip","dict_itemiterator","dict_reverseitemiterator","odict_iterator","itertools.zip_longest","itertools.pairwise"].contains n&&vs[0]?==some (rawInt _))=true then _ else _) Q E s
       rw[if_neg (by intro h;rw[hn,a2b] at h;cases h)]
       exact wpAny_pure hQ))
def j9(K:PySem.W.Frag)(a:Addr):It :=
 ⟨λi H=>∃xs x,af K H a xs/\xs[i]?=some x,λi H x H'=>H'=H/\∀xs,af K H a xs->xs[i]?=some x,λi H=>∃xs,af K H a xs/\xs.length<=i⟩
def iP(lo:Int)(n:Nat):It:=⟨λi _=>i<n,λi H x H'=>H'=H/\x=.int (lo+i),λi _=>n<=i⟩
theorem MB{P:Program}{w:World}{K:PySem.W.Frag}{tg:Expr}(a it:Addr):j8 P w K tg (j9 K a) [it] it (λi h=>h.IsListIter it a i) where
 mem:=by simp
 obj:=λi h st b hb=>by
  have e:b=it:=by simpa using hb
  subst e
  obtain⟨o,e,c,d⟩:=st
  exact⟨o,e,λv z=>by rw[d] at z;cases z⟩
 keep:=λi h h' st k=>st.at λo e=>k it (by simp) o e
 item:=by
  intro X hP hw hK hc i aa s σ H E I hf st hg
  subst hP hw hK
  obtain⟨xs,x,hq,hx⟩:=hg
  obtain⟨ad,rv,p,hz⟩:=I.list hq
  obtain⟨u,hu,ru⟩:=rv.get hx
  obtain⟨f0,f1,f2,f3,f4,f5⟩:=hf it (by simp)
  refine wpAny_pyNext_list_item st p.isList (x:=u) (by simpa using hu) λh' ap sb=>?_
  have I1:Inv X aa σ H {s with heap:=h'}:=I.turned (t':=s.toks) (λb o hb e=>(sb.2 b hb).trans e) f0 f1 f3 f4 f5
  obtain⟨o,e,c,d⟩:=id ap
  exact⟨u,rfl,xn (s:={s with heap:=h'}) e c d (by decide) ⟨x,H,I1,ru,⟨rfl,λys hy=>by rw[I.nU hy hq];exact hx⟩,ap,λb hb=>(hf b hb).1⟩⟩
 done:=by
  intro X hP hw hK hc i aa s σ H E I hf st hg
  subst hP hw hK
  obtain⟨xs,hq,hx⟩:=hg
  obtain⟨ad,rv,p,hz⟩:=I.list hq
  obtain⟨f0,f1,f2,f3,f4,f5⟩:=hf it (by simp)
  have hl:=rv.length
  exact wpAny_pyNext_list_end (I.ok.hd hc) st p.isList (by simp;omega) λh' eb=>⟨rfl,I.turned (t':=s.toks) (λb o hb e=>eb b o hb e) f0 f1 f3 f4 f5⟩
 self:=λ_ _ _ _ _ st h=>wpAny_pyIter_listiter st h
theorem MC{P:Program}{w:World}{K:PySem.W.Frag}{tg:Expr}(it:Addr)(lo:Int)(n:Nat):j8 P w K tg (iP lo n) [it] it (λi h=>IsRangeIter h it (lo+(i:Nat)*1) ((n:Int)-(i:Nat)) 1) where
 mem:=by simp
 obj:=λi h st b hb=>by
  have e:b=it:=by simpa using hb
  subst e
  exact⟨_,st,λv z=>by
   have z':Data.fields _=Data.cell v:=z
   cases z'⟩
 keep:=λi h h' st k=>k it (by simp) _ st
 item:=by
  intro X hP hw hK hc i aa s σ H E I hf st hg
  subst hP hw hK
  obtain⟨f0,f1,f2,f3,f4,f5⟩:=hf it (by simp)
  have W:=Walks.range (prog:=X.prog) (w:=X.w) (I.ok.hd hc) it lo 1 n
  refine W.item i s _ _ hg st λv h' tk hv ap kk=>?_
  obtain⟨t,rfl⟩:=hv
  have I1:Inv X aa σ H {s with heap:=h',toks:=tk}:=I.turned (λb o hb e=>kk b o (by simpa using hb) e) f0 f1 f3 f4 f5
  refine⟨_,rfl,xn (s:={s with heap:=h',toks:=tk}) (n:="range_iterator") ap rfl rfl (by decide) ⟨.int (lo+i),H,I1,⟨t,?_⟩,⟨rfl,rfl⟩,ap,λb hb=>(hf b hb).1⟩⟩
  rw[Int.mul_one]
 done:=by
  intro X hP hw hK hc i aa s σ H E I hf st hg
  subst hP hw hK
  obtain⟨f0,f1,f2,f3,f4,f5⟩:=hf it (by simp)
  exact wpAny_pyNext_range_end (I.ok.hd hc) st (by have:n<=i:=hg;omega) λh' eb=>⟨rfl,I.turned (t':=s.toks) (λb o hb e=>eb b o hb e) f0 f1 f3 f4 f5⟩
 self:=λ_ _ _ _ _ st h=>wpAny_pyIter_rangeiter st h
section
variable{X:Cx}{tg:Expr}
def MD(K:PySem.W.Frag)(tl:TE):TI:=fun σ H R=>tl σ H λx H1=>∃a,x=.ref a/\(∃xs,af K H1 a xs)/\R (j9 K a) H1
theorem S_{l:Expr}{tl:TE}(hl:PE X l tl):PI X tg l (MD X.K tl):=by
 intro aa s σ H R I h
 refine au (hl aa s σ H _ I h) λv s1 ⟨x,H1,I1,r1,q1⟩=>?_
 obtain⟨a,e,⟨xs,hq⟩,q⟩:=q1
 subst e
 cases r1
 obtain⟨ad,rv,p,hz⟩:=I1.list hq
 refine wpAny_pyIter_list p.isList ?_
 refine⟨s1.heap.objs.size,[s1.heap.objs.size],_,_,H1,rfl,I1.kept (t':=s1.toks) λb o e=>ZV _ e,MB a _,⟨_,Z3 _ rfl,rfl,rfl⟩,λb hb=>?_,q⟩
 have e:b=s1.heap.objs.size:=by simpa using hb
 subst e
 exact I1.pZ (Z0 _) (I1.am.fresh (Z0 _))
theorem DY{aa:List (Addr×Obj)}{σ:St}{H:Hp}{s:Shared}{R:It->Hp->Prop}{E:Value->Shared->Prop}{lo hi:Int}{t u v:Tok}{tk:Nat}(I:Inv X aa σ H s)(h1 : -(2 ^ 62)<=lo)(h2:lo<2 ^ 62)(h3 : -(2 ^ 62)<=hi)(h4:hi<2 ^ 62)
  (q:R (iP lo (hi-lo).toNat) H):wpAny (model X.prog X.w) X.A (pyIter (.ref s.heap.objs.size)) (DX X aa σ tg R) E {s with heap:=s.heap.push {cls:=.type "range",data:=.fields #[.int lo t,.int hi u,.int 1 v]},toks:=tk}:=by
 refine wpAny_pyIter_range (IsRange.new ..) (small_one h1 h2 h3 h4) ?_
 have I1:Inv X aa σ H {s with heap:=s.heap.push {cls:=.type "range",data:=.fields #[.int lo t,.int hi u,.int 1 v]},toks:=tk}:=I.kept λb o e=>ZV _ e
 refine⟨(s.heap.push {cls:=.type "range",data:=.fields #[.int lo t,.int hi u,.int 1 v]}).objs.size,[(s.heap.push {cls:=.type "range",data:=.fields #[.int lo t,.int hi u,.int 1 v]}).objs.size],_,_,H,rfl,
  I1.kept (t':=tk) λb o e=>ZV _ e,MC _ lo (hi-lo).toNat,?_,λb hb=>?_,q⟩
 ·have e1:lo+((0:Nat):Int)*1=lo:=by simp
  have e2:(((hi-lo).toNat:Nat):Int)-((0:Nat):Int)=Builtin.Range.rangeSize lo hi 1:=by rw[rangeSize_one];split <;> omega
  show IsRangeIter _ _ (lo+((0:Nat):Int)*1) ((((hi-lo).toNat:Nat):Int)-((0:Nat):Int)) 1
  rw[e1,e2]
  exact Z3 _ rfl
 ·have e:b=(s.heap.push {cls:=.type "range",data:=.fields #[.int lo t,.int hi u,.int 1 v]}).objs.size:=by simpa using hb
  subst e
  exact I1.pZ (Z0 _) (I1.am.fresh (Z0 _))
def ME(ta:TA):TI:=fun σ H R=>ta σ H λvs H1=>∃j:Int,vs=[.int j]/\-(2 ^ 62)<=j/\j<2 ^ 62/\R (iP 0 j.toNat) H1
def MF(ta:TA):TI:=fun σ H R=>ta σ H λvs H1=>∃i j:Int,vs=[.int i,.int j]/\(-(2 ^ 62)<=i/\i<2 ^ 62/\-(2 ^ 62)<=j/\j<2 ^ 62)/\R (iP i (j-i).toNat) H1
theorem M_{a:Expr}{ta:TA}{p pos:Pos}(hg:Gl X "range")(hm:X.mg "range"=none)(ha:PA X [a] ta)(hs:starEach [a] X.env=[(false,eval a X.env)]:=by rfl):PI X tg (.Call (.Name "range" p) [a] [] pos) (ME ta):=by
 intro aa s σ H R I h
 refine Call_ (iO I hg hm boot_range (PyProof.Rows.callWith_type1 (au (ha pos aa s σ H _ I h) λus s1 ⟨vs,H1,I1,r1,q1⟩=>?_) hs rfl))
 obtain⟨j,e,q1,q2,q⟩:=q1
 subst e
 cases r1 with
 | cons r rr =>
  cases rr
  obtain⟨t,rfl⟩:=r
  exact call_range_1 (DY I1 (by omega) (by omega) q1 q2 (by simpa using q))
theorem MG{a b:Expr}{ta:TA}{p pos:Pos}(hg:Gl X "range")(hm:X.mg "range"=none)(ha:PA X [a,b] ta)(hs:starEach [a,b] X.env=[(false,eval a X.env),(false,eval b X.env)]:=by rfl)(df:starEach [b] X.env=[(false,eval b X.env)]:=by rfl) :
  PI X tg (.Call (.Name "range" p) [a,b] [] pos) (MF ta):=by
 intro aa s σ H R I h
 refine Call_ (iO I hg hm boot_range (PyProof.Rows.callWith_type1 (au (ha pos aa s σ H _ I h) λus s1 ⟨vs,H1,I1,r1,q1⟩=>?_) (by rw[hs,df]) (by rw[df];rfl)))
 obtain⟨i,j,e,⟨q1,q2,q3,q4⟩,q⟩:=q1
 subst e
 cases r1 with
 | cons r rr =>
  cases rr with
  | cons r' rr =>
   cases rr
   obtain⟨t,rfl⟩:=r
   obtain⟨t',rfl⟩:=r'
   exact call_range_2 (DY I1 q1 q2 q3 q4 q)
def MH(wi:TI)(g:TG)(tb:TS):TS:=λD σ H=>wi σ H λJ H1=>∃W:Nat->Nat->St->Hp->Prop,(∃m,W 0 m σ H1)/\∀i m σ H,W i m σ H->
 (J.stop i H/\D.nx σ H)\/(J.go i H/\∃N:St->Hp->Prop,(∀ az H',N az H'->∃m',m'<m/\W (i+1) m' az H')/\∀x H',J.gN i H x H'->g x σ H' λcr H2=>tb {D with nx:=N,ct:=N,bk:=D.nx} cr H2)
def ke(fp:List Addr)(h:Heap):List (Addr×Obj):=fp.filterMap λb=>(h.get? b).map λo=>(b,o)
theorem sC{fp:List Addr}{h:Heap}{b:Addr}{o:Obj}(hb:b∈fp)(e:h.get? b=some o):(b,o)∈ke fp h:=List.mem_filterMap.mpr ⟨b,hb,by rw[e];rfl⟩
theorem DZ{fp:List Addr}{h:Heap}{p:Addr×Obj}(hp:p∈ke fp h):p.1∈fp/\h.get? p.1=some p.2:=by
 obtain⟨b,hb,e⟩:=List.mem_filterMap.mp hp
 cases q:h.get? b with
 | none=>rw[q] at e;cases e
 | some o =>
  rw[q] at e
  have e':(b,o)=p:=Z6 e
  subst e'
  exact⟨hb,q⟩
theorem Inv.pinned{aa:List (Addr×Obj)}{σ:St}{H:Hp}{s:Shared}{fp:List Addr}(I:Inv X aa σ H s)(hf:∀b∈fp,gn X aa H b)(ho:∀b∈fp,∃o,s.heap.get? b=some o/\∀v,o.data≠.cell v):Inv X (aa++ke fp s.heap) σ H s :=
 I.sk λp hp=>(a0s.mp hp).elim (λz=>I.pin p (a0m _ z)) λz=>by
  obtain⟨hb,e⟩:=DZ z
  obtain⟨f0,f1,f2,_⟩:=hf p.1 hb
  obtain⟨o,e',d⟩:=ho p.1 hb
  rw[e] at e';cases e'
  exact⟨e,f0,f1,f2,d⟩
theorem Inv.sD{aa pl:List (Addr×Obj)}{σ:St}{H:Hp}{s:Shared}(I:Inv X (aa++pl) σ H s):Inv X aa σ H s:=I.sk λp hp=>I.pin p (a0m _ (a0N _ hp))
theorem Y_{iter:Expr}{body:List Stmt}{wi:TI}{g:TG}{tb:TS}{pos:Pos}(hp:PassesOwn (model X.prog X.w) X.A X.env X.xe)(hc:X.calm=true)(hi:PI X tg iter wi)(hg:PG X tg g)(hb:cN X body tb)
  (hs:∀x,foldedSetIterable iter X.env x=pure x:=by intro _;rfl):PS X (.For tg iter body [] pos) (MH wi g tb):=by
 intro aa s σ H D I h
 refine wpAny_For (au (hi aa s σ H _ I h) λv s1 h1=>au h1 λsB s2 h2=>?_) hs
 obtain⟨it,fp,tn,J,H2,e,I2,T,bh,f2,W,⟨m0,w0⟩,ii⟩:=h2
 subst e
 have lK:∀ {H':Hp},(∀b∈fp,H' b=none)->∀b∈fp,gn X aa H' b:=λhn b hb=>⟨hn b hb,(f2 b hb).2⟩
 refine codeAny_forLoop_any (λn s'=>∃i az H',Inv X aa az H' s'/\tn i s'.heap/\(∀b∈fp,H' b=none)/\W i n az H') ?_ m0 ⟨0,σ,H2,I2,bh,λb hb=>(f2 b hb).1,w0⟩
 rintro n s3 ⟨i,ij,H3,I3,bJ,D9,w3⟩
 rcases ii i n ij H3 w3 with⟨stop,qn⟩ | ⟨go,N,hN,step⟩
 ·refine wpAny_passesOwn hp (au (T.done X rfl rfl rfl hc i aa s3 ij H3 X.xe I3 (lK D9) bJ stop) λr s4 ⟨hr,I4⟩=>?_)
  subst hr
  exact wpAny_execs_nil ⟨ij,H3,I4,qn⟩
 ·refine wpAny_passesOwn hp (au (T.item X rfl rfl rfl hc i aa s3 ij H3 X.xe I3 (lK D9) bJ go) λr s4 ⟨u,hr,h4⟩=>?_)
  subst hr
  refine wpAny_passesOwn hp (au h4 λ_ s5 ⟨x,H5,I5,r5,y5,lL,xo⟩=>?_)
  have xq:=I5.pinned (lK xo) (T.obj _ _ lL)
  refine wpAny_passesOwn hp (au (hg _ s5 ij H5 x u _ xq r5 (step x H5 y5)) λ_ s6 ⟨iQ,H6,I6,q6⟩=>?_)
  refine wpAny_passesOwn hp (au (hb _ s6 iQ H6 _ I6 q6) λf s7 q7=>?_)
  have again:∀ {dI:St} {H7:Hp},Inv X (aa++ke fp s5.heap) dI H7 s7->N dI H7->∃m,m<n/\∃i az H',Inv X aa az H' s7/\tn i s7.heap/\(∀b∈fp,H' b=none)/\W i m az H':=λ{dI H7} I7 n7=>by
   obtain⟨m',hm,w7⟩:=hN dI H7 n7
   refine⟨m',hm,i+1,dI,H7,I7.sD,T.keep _ _ _ lL λb hb o e=>(I7.pin (b,o) (a0m _ (a0m _ (sC hb e)))).1,λb hb=>?_,w7⟩
   obtain⟨o,e,d⟩:=T.obj _ _ lL b hb
   exact(I7.pin (b,o) (a0m _ (a0m _ (sC hb e)))).2.1
  cases f with
  | next=>obtain⟨dI,H7,I7,n7⟩:=q7;exact again I7 n7
  | cont=>obtain⟨dI,H7,I7,n7⟩:=q7;exact again I7 n7
  | brk=>obtain⟨dI,H7,I7,q7⟩:=q7;exact⟨dI,H7,I7.sD,q7⟩
  | ret v=>obtain⟨x7,dI,H7,I7,r7,q7⟩:=q7;exact⟨x7,dI,H7,I7.sD,r7,q7⟩
end
theorem kf{K:PySem.W.Frag}{a:Addr}{xs:List V}{g:TG}{tb:TS}{D:Ends}{σ:St}{H:Hp}(Pv:Nat->St->Hp->Prop)(h0:Pv 0 σ H)(hl:∀i σ H,i<=xs.length->Pv i σ H->af K H a xs)
  (hs:∀i x σ H,xs[i]?=some x->Pv i σ H->g x σ H λcr H2=>tb {D with nx:=Pv (i+1),ct:=Pv (i+1),bk:=D.nx} cr H2) (hd:∀ σ H,Pv xs.length σ H->D.nx σ H) :
  ∃W:Nat->Nat->St->Hp->Prop,(∃m,W 0 m σ H)/\∀i m σ H,W i m σ H->
   ((j9 K a).stop i H/\D.nx σ H)\/((j9 K a).go i H/\∃N:St->Hp->Prop,(∀ az H',N az H'->∃m',m'<m/\W (i+1) m' az H')/\∀x H',(j9 K a).gN i H x H'->g x σ H' λcr H2=>tb {D with nx:=N,ct:=N,bk:=D.nx} cr H2):=by
 refine⟨λi m σ H=>m=xs.length-i/\i<=xs.length/\Pv i σ H,⟨xs.length,by simp,a0w _,h0⟩,?_⟩
 rintro i m σ H ⟨rfl,hi,p⟩
 have q:=hl i σ H hi p
 by_cases aT:i<xs.length
 ·refine .inr ⟨⟨xs,xs[i],q,by simp[aT]⟩,Pv (i+1),λaz H' p'=>⟨xs.length-(i+1),by omega,rfl,aT,p'⟩,λx H' y=>?_⟩
  obtain⟨e,y⟩:=y
  subst e
  exact hs i x σ _ (y xs q) p
 ·have e:i=xs.length:=by omega
  subst e
  exact .inl ⟨⟨xs,q,Z0 _⟩,hd σ H p⟩
theorem iR{lo:Int}{n:Nat}{g:TG}{tb:TS}{D:Ends}{σ:St}{H:Hp}(Pv:Nat->St->Hp->Prop)(h0:Pv 0 σ H)
  (hs:∀i σ H,i<n->Pv i σ H->g (.int (lo+i)) σ H λcr H2=>tb {D with nx:=Pv (i+1),ct:=Pv (i+1),bk:=D.nx} cr H2) (hd:∀ σ H,Pv n σ H->D.nx σ H) :
  ∃W:Nat->Nat->St->Hp->Prop,(∃m,W 0 m σ H)/\∀i m σ H,W i m σ H->
   ((iP lo n).stop i H/\D.nx σ H)\/((iP lo n).go i H/\∃N:St->Hp->Prop,(∀ az H',N az H'->∃m',m'<m/\W (i+1) m' az H')/\∀x H',(iP lo n).gN i H x H'->g x σ H' λcr H2=>tb {D with nx:=N,ct:=N,bk:=D.nx} cr H2):=by
 refine⟨λi m σ H=>m=n-i/\i<=n/\Pv i σ H,⟨n,by simp,a0w _,h0⟩,?_⟩
 rintro i m σ H ⟨rfl,hi,p⟩
 by_cases aT:i<n
 ·refine .inr ⟨aT,Pv (i+1),λaz H' p'=>⟨n-(i+1),by omega,rfl,aT,p'⟩,λx H' y=>?_⟩
  obtain⟨e,y⟩:=y
  subst e y
  exact hs i σ _ aT p
 ·have e:i=n:=by omega
  subst e
  exact .inl ⟨Z0 _,hd σ H p⟩
abbrev R2:=V->V->Hp->VK->Prop
def cu(X:Cx)(f:Value->Value->Sem Value)(r:R2):Prop :=
 ∀(aa:List (Addr×Obj)) (s:Shared) (σ:St) (H:Hp) (x y:V) (v u:Value) (Q:VK),Inv X aa σ H s->RelV x v->RelV y u->r x y H Q->
  wpAny (model X.prog X.w) X.A (f v u) (EP X aa σ Q) X.xe s
def xr(X:Cx)(f:Value->Sem Value)(r:V->Hp->VK->Prop):Prop :=
 ∀(aa:List (Addr×Obj)) (s:Shared) (σ:St) (H:Hp) (x:V) (v:Value) (Q:VK),Inv X aa σ H s->RelV x v->r x H Q->
  wpAny (model X.prog X.w) X.A (f v) (EP X aa σ Q) X.xe s
def dm(X:Cx)(f:Value)(r:List V->Hp->VK->Prop):Prop :=
 ∀(aa:List (Addr×Obj)) (s:Shared) (σ:St) (H:Hp) (xs:List V) (us:List Value) (Q:VK),Inv X aa σ H s->aB xs us->r xs H Q->
  wpAny (model X.prog X.w) X.A (call f us) (EP X aa σ Q) X.xe s
def kg(r:R2)(ta tb:TE):TE:=fun σ H Q=>ta σ H λx H1=>tb σ H1 λy H2=>r x y H2 Q
def MI(r:V->Hp->VK->Prop)(ta:TE):TE:=fun σ H Q=>ta σ H λx H1=>r x H1 Q
def rI(C:Int->Int->Prop)(g:Int->Int->V):R2:=λx y H Q=>∃i j,x=.int i/\y=.int j/\C i j/\Q (g i j) H
def kh(g:Int->Int->V):R2:=λx y H Q=>∃i j,x=.int i/\y=.int j/\Q (g i j) H
def rU(g:Int->V):V->Hp->VK->Prop:=λx H Q=>∃i,x=.int i/\Q (g i) H
section
variable{X:Cx}{a b c:Expr}{ta tb tc:TE}{pos:Pos}
theorem xu(ha:PE X a ta)(hb:PE X b tb){aa:List (Addr×Obj)}{s:Shared}{σ:St}{H:Hp}{R:V->V->Hp->Prop}(I:Inv X aa σ H s)
  (h:ta σ H λx H1=>tb σ H1 λy H2=>R x y H2) {Q:Value->Shared->Prop} {f:Value->Value->Sem Value}
  (hf:∀v u s2 x y H2,Inv X aa σ H2 s2->RelV x v->RelV y u->R x y H2->wpAny (model X.prog X.w) X.A (f v u) Q X.xe s2) :
  wpAny (model X.prog X.w) X.A (eval a X.env) (λv bf=>wpAny (model X.prog X.w) X.A (eval b X.env) (λu gK=>wpAny (model X.prog X.w) X.A (f v u) Q X.xe gK) X.xe bf) X.xe s:=by
 refine au (ha aa s σ H _ I h) λv s1 ⟨x,H1,I1,r1,q1⟩=>?_
 refine au (hb aa s1 σ H1 _ I1 q1) λu s2 ⟨y,H2,I2,r2,q2⟩=>?_
 exact hf v u s2 x y H2 I2 r1 r2 q2
theorem p_{op:Operator}{r:R2}(ho:cu X (binaryOp op) r)(ha:PE X a ta)(hb:PE X b tb):PE X (.BinOp a op b pos) (kg r ta tb):=by
 intro aa s σ H Q I h
 exact wpAny_BinOp (xu ha hb I h λv u s2 x y H2 I2 rx ry q=>ho aa s2 σ H2 x y v u Q I2 rx ry q)
theorem fE{op:UnaryOp}{r:V->Hp->VK->Prop}(ho:xr X (unaryOp op) r)(ha:PE X a ta):PE X (.UnaryOp op a pos) (MI r ta):=by
 intro aa s σ H Q I h
 exact UnaryOp_ (au (ha aa s σ H _ I h) λv s1 ⟨x,H1,I1,r1,q1⟩=>ho aa s1 σ H1 x v Q I1 r1 q1)
theorem sE{f:Value->Value->Sem Value}{C:Int->Int->Prop}{g:Int->Int->Int}
  (rule:∀(i j:Int) (t u:Tok) (s:Shared) (Q:Value->Shared->Prop) (E:Value->Shared->Prop),C i j->Q (.int (g i j) s.toks) {s with toks:=s.toks+1}->wpAny (model X.prog X.w) X.A (f (.int i t) (.int j u)) Q E s) :
  cu X f (rI C λi j=>.int (g i j)):=by
 intro aa s σ H x y v u Q I rx ry h
 obtain⟨i,j,rfl,rfl,hc,q⟩:=h
 obtain⟨t,rfl⟩:=rx
 obtain⟨t',rfl⟩:=ry
 exact rule i j t t' s _ _ hc ⟨.int (g i j),H,I.tok _,⟨_,rfl⟩,q⟩
theorem Ea{f:Value->Value->Sem Value}{g:Int->Int->Int}
  (rule:∀(i j:Int) (t u:Tok) (s:Shared) (Q:Value->Shared->Prop) (E:Value->Shared->Prop),Q (.int (g i j) s.toks) {s with toks:=s.toks+1}->wpAny (model X.prog X.w) X.A (f (.int i t) (.int j u)) Q E s) :
  cu X f (kh λi j=>.int (g i j)):=by
 intro aa s σ H x y v u Q I rx ry h
 obtain⟨i,j,rfl,rfl,q⟩:=h
 obtain⟨t,rfl⟩:=rx
 obtain⟨t',rfl⟩:=ry
 exact rule i j t t' s _ _ ⟨.int (g i j),H,I.tok _,⟨_,rfl⟩,q⟩
theorem sF{f:Value->Value->Sem Value}{g:Int->Int->Bool}
  (rule:∀(i j:Int) (t u:Tok) (s:Shared) (Q:Value->Shared->Prop) (E:Value->Shared->Prop),Q (.bool (g i j)) s->wpAny (model X.prog X.w) X.A (f (.int i t) (.int j u)) Q E s) :
  cu X f (kh λi j=>.bl (g i j)):=by
 intro aa s σ H x y v u Q I rx ry h
 obtain⟨i,j,rfl,rfl,q⟩:=h
 obtain⟨t,rfl⟩:=rx
 obtain⟨t',rfl⟩:=ry
 exact rule i j t t' s _ _ ⟨.bl (g i j),H,I,rfl,q⟩
def MJ(i j:Int):Prop:=0<j/\j<1073741824
def MK(i j:Int):Prop:=0<=j/\j<=1000000/\i.natAbs<2 ^ 64
def p8(i j:Int):Prop:=(-(2 ^ 64)<i/\i<2 ^ 64)\/(-(2 ^ 64)<j/\j<2 ^ 64)
theorem p8.ok{i j:Int}(h:p8 i j):IntMulOk i j:=by
 rcases h with⟨h1,h2⟩ | ⟨h1,h2⟩
 ·exact .of_left (intBits_le_64 h1 h2)
 ·exact .of_right (intBits_le_64 h1 h2)
theorem K_:cu X (binaryOp .Add) (kh λi j=>.int (i+j)):=Ea λ_ _ _ _ _ _ _ q=>add_int q
theorem fF:cu X (binaryOp .Sub) (kh λi j=>.int (i-j)):=Ea λ_ _ _ _ _ _ _ q=>sub_int q
theorem fH:cu X (binaryOp .Mult) (rI p8 λi j=>.int (i*j)):=sE λ_ _ _ _ _ _ _ hc q=>mul_int q hc.ok
theorem sG:cu X (binaryOp .FloorDiv) (rI MJ λi j=>.int (i / j)):=sE λi j _ _ _ _ _ hc q=>by
 have h1:(0:Int)<j:=hc.1
 have h2:j<1073741824:=hc.2
 exact floordiv_int (by omega) (by rw[Int.fdiv_eq_ediv_of_nonneg i (by omega)];exact q) (.inl (PyProof.noPylong_small (by omega)))
theorem jx:cu X (binaryOp .Mod) (rI (λ_ j=>0<j) λi j=>.int (i % j)):=sE λi j _ _ _ _ _ hc q=>by
 have h1:(0:Int)<j:=hc
 exact mod_int' (by omega) (by rw[Int.fmod_eq_emod_of_nonneg i (by omega)];exact q)
theorem xv:cu X (binaryOp .Pow) (rI MK λi j=>.int (i ^ j.toNat)):=sE λ_ _ _ _ _ _ _ hc q=>pow_int_small hc.1 hc.2.1 hc.2.2 q
theorem ML{f:Value->Sem Value}{g:Int->Int}
  (rule:∀(i:Int) (t:Tok) (s:Shared) (Q:Value->Shared->Prop) (E:Value->Shared->Prop),Q (.int (g i) s.toks) {s with toks:=s.toks+1}->wpAny (model X.prog X.w) X.A (f (.int i t)) Q E s) :
  xr X f (rU λi=>.int (g i)):=by
 intro aa s σ H x v Q I rx h
 obtain⟨i,rfl,q⟩:=h
 obtain⟨t,rfl⟩:=rx
 exact rule i t s _ _ ⟨.int (g i),H,I.tok _,⟨_,rfl⟩,q⟩
theorem fI:xr X (unaryOp .USub) (rU λi=>.int (-i)):=ML λ_ _ _ _ _ q=>neg_int q
end
def Eb:V->V->Bool
 | .aw,.aw=>true | .aw,.int _=>true | .int _,.aw=>true | .aw,.bl _=>true | .bl _,.aw=>true | .aw,.str _=>true | .str _,.aw=>true
 | .int _,.int _=>true | .bl _,.bl _=>true | .str _,.str _=>true | .gI _,.gI _=>true
 | .int _,.str _=>true | .str _,.int _=>true | .bl _,.str _=>true | .str _,.bl _=>true
 | _,_=>false
def MM:R2:=λx y H Q=>Eb x y=true/\Q (.bl (decide (x=y))) H
def MN:R2:=λx y H Q=>Eb x y=true/\Q (.bl (!decide (x=y))) H
theorem Ec{i j:Int}:decide (V.int i=V.int j)=(i==j):=by
 rw[a2p]
 simp
theorem Ed{i j:Bool}:decide (V.bl i=V.bl j)=(i==j):=by
 rw[a2p]
 simp
theorem Ee{i j:Str}:decide (V.str i=V.str j)=(i==j):=by
 rw[a2p]
 simp
theorem Ef{i j:Array UInt8}:decide (V.gI i=V.gI j)=(i.toList==j.toList):=by
 rw[a2p]
 cases i
 cases j
 simp
section
variable{X:Cx}{a b c:Expr}{ta tb tc:TE}{pos:Pos}
theorem I_{aa:List (Addr×Obj)}{σ:St}{H:Hp}{s:Shared}{Q:VK}{k k':Bool}(I:Inv X aa σ H s)(q:Q (.bl k) H)(e:k=k'):EP X aa σ Q (.bool k') s:=by
 subst e
 exact⟨.bl k,H,I,rfl,q⟩
theorem iS:cu X (compareOp .Eq) MM:=by
 intro aa s σ H x y v u Q I rx ry h
 obtain⟨hs,q⟩:=h
 cases x with
 | aw =>
  cases rx
  cases y with
  | aw=>cases ry;exact PySem.EqNone.eq_none_none (I_ I q (by simp))
  | bl j=>cases ry;exact PySem.EqNone.eq_none_bool (I_ I q (by simp))
  | int j=>obtain⟨t',rfl⟩:=ry;exact PySem.EqNone.eq_none_int (I_ I q (by simp))
  | str j=>obtain⟨t',rfl⟩:=ry;exact PySem.EqNone.eq_none_str (I_ I q (by simp))
  | _=>exact absurd (show false=true from hs) a0b
 | bl i =>
  cases rx
  cases y with
  | aw=>cases ry;exact PySem.EqNone.eq_bool_none (I_ I q (by simp))
  | bl j=>cases ry;exact eq_bool (I_ I q Ed)
  | str j=>obtain⟨t',rfl⟩:=ry;exact PySem.EqMixed.eq_bool_str (I_ I q (by simp))
  | _=>exact absurd (show false=true from hs) a0b
 | int i =>
  obtain⟨t,rfl⟩:=rx
  cases y with
  | aw=>cases ry;exact PySem.EqNone.eq_int_none (I_ I q (by simp))
  | int j=>obtain⟨t',rfl⟩:=ry;exact eq_int (I_ I q Ec)
  | str j=>obtain⟨t',rfl⟩:=ry;exact PySem.EqMixed.eq_int_str (I_ I q (by simp))
  | _=>exact absurd (show false=true from hs) a0b
 | str i =>
  obtain⟨t,rfl⟩:=rx
  cases y with
  | aw=>cases ry;exact PySem.EqNone.eq_str_none (I_ I q (by simp))
  | bl j=>cases ry;exact PySem.EqMixed.eq_str_bool (I_ I q (by simp))
  | int j=>obtain⟨t',rfl⟩:=ry;exact PySem.EqMixed.eq_str_int (I_ I q (by simp))
  | str j=>obtain⟨t',rfl⟩:=ry;exact eq_str (I_ I q Ee)
  | _=>exact absurd (show false=true from hs) a0b
 | gI i =>
  obtain⟨t,rfl⟩:=rx
  cases y with
  | gI j=>obtain⟨t',rfl⟩:=ry;exact PySem.W.eq_bytes (I_ I q Ef)
  | _=>exact absurd (show false=true from hs) a0b
 | _=>cases y <;> exact absurd (show false=true from hs) a0b
theorem lM:cu X (compareOp .NotEq) MN:=by
 intro aa s σ H x y v u Q I rx ry h
 obtain⟨hs,q⟩:=h
 cases x with
 | aw =>
  cases rx
  cases y with
  | aw=>cases ry;exact PySem.EqNone.ne_none_none (I_ I q (by simp))
  | bl j=>cases ry;exact PySem.EqNone.ne_none_bool (I_ I q (by simp))
  | int j=>obtain⟨t',rfl⟩:=ry;exact PySem.EqNone.ne_none_int (I_ I q (by simp))
  | str j=>obtain⟨t',rfl⟩:=ry;exact PySem.EqNone.ne_none_str (I_ I q (by simp))
  | _=>exact absurd (show false=true from hs) a0b
 | bl i =>
  cases rx
  cases y with
  | aw=>cases ry;exact PySem.EqNone.ne_bool_none (I_ I q (by simp))
  | bl j=>cases ry;exact ne_bool (I_ I q (congrArg not Ed))
  | str j=>obtain⟨t',rfl⟩:=ry;exact PySem.EqMixed.ne_bool_str (I_ I q (by simp))
  | _=>exact absurd (show false=true from hs) a0b
 | int i =>
  obtain⟨t,rfl⟩:=rx
  cases y with
  | aw=>cases ry;exact PySem.EqNone.ne_int_none (I_ I q (by simp))
  | int j=>obtain⟨t',rfl⟩:=ry;exact ne_int (I_ I q (congrArg not Ec))
  | str j=>obtain⟨t',rfl⟩:=ry;exact PySem.EqMixed.ne_int_str (I_ I q (by simp))
  | _=>exact absurd (show false=true from hs) a0b
 | str i =>
  obtain⟨t,rfl⟩:=rx
  cases y with
  | aw=>cases ry;exact PySem.EqNone.ne_str_none (I_ I q (by simp))
  | bl j=>cases ry;exact PySem.EqMixed.ne_str_bool (I_ I q (by simp))
  | int j=>obtain⟨t',rfl⟩:=ry;exact PySem.EqMixed.ne_str_int (I_ I q (by simp))
  | str j=>obtain⟨t',rfl⟩:=ry;exact ne_str (I_ I q (congrArg not Ee))
  | _=>exact absurd (show false=true from hs) a0b
 | gI i =>
  obtain⟨t,rfl⟩:=rx
  cases y with
  | gI j=>obtain⟨t',rfl⟩:=ry;exact PySem.W.ne_bytes (I_ I q (congrArg not Ef))
  | _=>exact absurd (show false=true from hs) a0b
 | _=>cases y <;> exact absurd (show false=true from hs) a0b
theorem nW:cu X (compareOp .Lt) (kh λi j=>.bl (decide (i<j))):=sF λ_ _ _ _ _ _ _ q=>lt_int q
theorem nX:cu X (compareOp .LtE) (kh λi j=>.bl (decide (i<=j))):=sF λ_ _ _ _ _ _ _ q=>le_int q
theorem sH:cu X (compareOp .Gt) (kh λi j=>.bl (decide (j<i))):=sF λ_ _ _ _ _ _ _ q=>gt_int q
theorem Eg:cu X (compareOp .GtE) (kh λi j=>.bl (decide (j<=i))):=sF λ_ _ _ _ _ _ _ q=>ge_int q
theorem MO:cu X (compareOp .Is) (λx y H Q=>y=.aw/\Q (.bl (decide (x=.aw))) H):=by
 intro aa s σ H x y v u Q I rx ry h
 obtain⟨rfl,q⟩:=h
 cases ry
 refine is_none_gen (I_ I q ?_)
 cases x <;> first
  | (cases rx;rfl)
  | (obtain⟨t,rfl⟩:=rx;rfl)
theorem MP:cu X (compareOp .IsNot) (λx y H Q=>y=.aw/\Q (.bl (!decide (x=.aw))) H):=by
 intro aa s σ H x y v u Q I rx ry h
 obtain⟨rfl,q⟩:=h
 cases ry
 refine isnot_none_gen (I_ I q ?_)
 cases x <;> first
  | (cases rx;rfl)
  | (obtain⟨t,rfl⟩:=rx;rfl)
theorem bO(b:Expr){op:CmpOp}(h:op≠.In:=by decide)(h2:op≠.NotIn:=by decide):behindInMarks op b=false:=by
 have e1:(op==CmpOp.In)=false:=by cases op <;> first | rfl | exact absurd rfl h
 have e2:(op==CmpOp.NotIn)=false:=by cases op <;> first | rfl | exact absurd rfl h2
 cases b <;> simp[behindInMarks,e1,e2]
theorem sI{op:CmpOp}{r:R2}(ho:cu X (compareOp op) r)(ha:PE X a ta)(hb:PE X b tb)(hm:behindInMarks op b=false):PE X (.Compare a [op] [b] pos) (kg r ta tb):=by
 intro aa s σ H Q I h
 exact wpAny_Compare1 (xu ha hb I h λv u s2 x y H2 I2 rx ry q=>ho aa s2 σ H2 x y v u Q I2 rx ry q) hm
def Eh(t:TE):TT:=fun σ H Q=>t σ H λx H'=>∃k,x=.bl k/\Q k H'
theorem v_{op:CmpOp}{r:R2}(ho:cu X (compareOp op) r)(ha:PE X a ta)(hb:PE X b tb)(hm:behindInMarks op b=false):PT X (.Compare a [op] [b] pos) (Eh (kg r ta tb)):=by
 intro aa s σ H Q I h
 refine wpAny_isTrue_Compare1 (au (ha aa s σ H _ I h) λv s1 ⟨x,H1,I1,r1,q1⟩=>au (hb aa s1 σ H1 _ I1 q1) λu s2 ⟨y,H2,I2,r2,q2⟩ =>
  au (ho aa s2 σ H2 x y v u _ I2 r1 r2 q2) λc s3 ⟨z,H3,I3,r3,k,e,q3⟩=>?_) hm
 subst e
 cases r3
 exact wpAny_truthy_bool ⟨H3,I3,q3⟩
def Ei(r r':R2)(ta tb tc:TE):TE:=fun σ H Q=>ta σ H λx H1=>tb σ H1 λy H2=>r x y H2 λz H3=>∃k,z=.bl k/\
 (if k=true then tc σ H3 λw' H4=>r' y w' H4 Q else Q (.bl false) H3)
theorem MQ{op lN:CmpOp}{r r':R2}(ho:cu X (compareOp op) r)(ib:cu X (compareOp lN) r')(ha:PE X a ta)(hb:PE X b tb)(hc:PE X c tc)
  (hm:lastMarks [op,lN] [b,c]=false:=by with_unfolding_all rfl):PE X (.Compare a [op,lN] [b,c] pos) (Ei r r' ta tb tc):=by
 intro aa s σ H Q I h
 refine Compare_chain (au (ha aa s σ H _ I h) λv s1 ⟨x,H1,I1,r1,q1⟩=>chain_link (au (hb aa s1 σ H1 _ I1 q1) λu s2 ⟨y,H2,I2,r2,q2⟩ =>
  au (ho aa s2 σ H2 x y v u _ I2 r1 r2 q2) λd s3 ⟨z,H3,I3,r3,k,e,q3⟩=>?_)) hm
 subst e
 cases r3
 refine wpAny_truthy_bool ?_
 cases k with
 | false=>exact ite_ff ⟨.bl false,H3,I3,rfl,q3⟩
 | true=>exact ite_tt (chain_last (au (hc aa s3 σ H3 _ I3 q3) λw' s4 ⟨z',H4,I4,r4,q4⟩=>ib aa s4 σ H4 y z' u w' Q I4 r2 r4 q4))
theorem Ej{op lN:CmpOp}{r r':R2}(ho:cu X (compareOp op) r)(ib:cu X (compareOp lN) r')(ha:PE X a ta)(hb:PE X b tb)(hc:PE X c tc)
  (hm:lastMarks [op,lN] [b,c]=false:=by with_unfolding_all rfl):PT X (.Compare a [op,lN] [b,c] pos) (Eh (Ei r r' ta tb tc)):=by
 intro aa s σ H Q I h
 refine isTrue_chain (au (ha aa s σ H _ I h) λv s1 ⟨x,H1,I1,r1,q1⟩=>test_link (au (hb aa s1 σ H1 _ I1 q1) λu s2 ⟨y,H2,I2,r2,q2⟩ =>
  au (ho aa s2 σ H2 x y v u _ I2 r1 r2 q2) λd s3 ⟨z,H3,I3,r3,k,e,q3⟩=>?_)) hm
 subst e
 cases r3
 refine wpAny_truthy_bool ?_
 cases k with
 | false =>
  obtain⟨k',e',q'⟩:=q3
  cases e'
  exact ite_ff ⟨H3,I3,q'⟩
 | true =>
  refine ite_tt (test_last (au (hc aa s3 σ H3 _ I3 q3) λw' s4 ⟨z',H4,I4,r4,q4⟩=>au (ib aa s4 σ H4 y z' u w' _ I4 r2 r4 q4) λd' s5 ⟨z2,H5,I5,r5,k2,e2,q5⟩=>?_))
  subst e2
  cases r5
  exact wpAny_truthy_bool ⟨H5,I5,q5⟩
theorem sJ:(sizeLine:Nat)<2 ^ 63:=by rw[sizeLine_eq];decide
theorem vals1{x:V}{us:List Value}(r:aB [x] us):∃u,us=[u]/\RelV x u:=by
 cases r with
 | cons r1 r2=>cases r2;exact⟨_,rfl,r1⟩
theorem vals2{x y:V}{us:List Value}(r:aB [x,y] us):∃u w',us=[u,w']/\RelV x u/\RelV y w':=by
 cases r with
 | cons r1 r2 =>
  cases r2 with
  | cons r3 r4=>cases r4;exact⟨_,_,rfl,r1,r3⟩
theorem xx(hc:X.calm=true):dm X (.builtin "max") (λxs H Q=>∃i j,xs=[.int i,.int j]/\Q (.int (if j>i then j else i)) H):=by
 intro aa s σ H xs us Q I r h
 obtain⟨i,j,rfl,q⟩:=h
 obtain⟨u,w',rfl,⟨t,rfl⟩,⟨t',rfl⟩⟩:=vals2 r
 refine max_two_ints (I.ok.hd hc) λh' tk k=>⟨_,H,I.kept k,?_,q⟩
 by_cases hj:j>i
 ·rw[if_pos hj,if_pos hj];exact⟨_,rfl⟩
 ·rw[if_neg hj,if_neg hj];exact⟨_,rfl⟩
theorem Ek(hc:X.calm=true):dm X (.builtin "min") (λxs H Q=>∃i j,xs=[.int i,.int j]/\Q (.int (if j<i then j else i)) H):=by
 intro aa s σ H xs us Q I r h
 obtain⟨i,j,rfl,q⟩:=h
 obtain⟨u,w',rfl,⟨t,rfl⟩,⟨t',rfl⟩⟩:=vals2 r
 refine min_two_ints (I.ok.hd hc) λh' tk k=>⟨_,H,I.kept k,?_,q⟩
 by_cases hj:j<i
 ·rw[if_pos hj,if_pos hj];exact⟨_,rfl⟩
 ·rw[if_neg hj,if_neg hj];exact⟨_,rfl⟩
theorem MR:dm X (.type "int") (λxs H Q=>(∃i,xs=[.int i]/\Q (.int i) H)\/∃k,xs=[.bl k]/\Q (.int (if k then 1 else 0)) H):=by
 intro aa s σ H xs us Q I r h
 rcases h with⟨i,rfl,q⟩ | ⟨k,rfl,q⟩
 ·obtain⟨u,rfl,t,rfl⟩:=vals1 r
  exact call_int_int ⟨.int i,H,I,⟨_,rfl⟩,q⟩
 ·obtain⟨u,rfl,r1⟩:=vals1 r
  cases r1
  exact call_int_bool ⟨.int (if k then 1 else 0),H,I.tok _,⟨_,rfl⟩,q⟩
end
structure lO(h:Heap)(x dx C:Addr)(mA:Str->Option Value):Prop where
 obj:h.get? x=some (PySem.W.instObj C dx)
 ns:h.Ns1 dx mA
 ne:dx≠x
theorem MS{h:Heap}{dx:Addr}{mA:Str->Option Value}(n:h.Ns1 dx mA):∃od,h.get? dx=some od/\∀name,PySem.W.lookIn name od=some (mA name):=by
 obtain⟨o,es,ep,ho,hd,hk,_,hm⟩:=n
 refine⟨o,ho,λname=>?_⟩
 have e:=hm name
 unfold nsFind findBy at e
 rw[<-Array.find?_toList] at e
 unfold PySem.W.lookIn
 rw[hd]
 dsimp only
 split
 ·rename_i y q
  rw[q] at e
  exact congrArg some e
 ·rename_i q
  rw[q] at e
  have a:es.toList.any (·.refKey)=false:=by
   rw[List.any_eq_false]
   intro y hy
   obtain⟨z,t,gO⟩:=hk y (Array.mem_toList_iff.mp hy)
   simp[DictEntry.refKey,gO]
  have a':¬ es.toList.any (·.refKey)=true:=by rw[a];exact a0b
  rw[if_neg a']
  exact congrArg some e
theorem lO.look{h:Heap}{x dx C:Addr}{mA:Str->Option Value}(I:lO h x dx C mA):∃od,PySem.W.InstAt h x (PySem.W.instObj C dx) C (some od)/\∀name,PySem.W.lookIn name od=some (mA name) :=
 let ⟨od,ho,hl⟩:=MS I.ns
 ⟨od,⟨I.obj,rfl,rfl,ho⟩,hl⟩
section
variable{prog:Program}{w:World}{A:Around}{E:Value->Shared->Prop}{s:Shared}{K:PySem.W.Frag}{x dx C f:Addr}{mA:Str->Option Value}{name:Str}{v:Value}
theorem MT{MU:Bool}{Q:Value->Shared->Prop}(X:K.In s.heap)(I:lO s.heap x dx C mA)(hg:PySem.W.plainGet K C name=true)(hh:PySem.W.hasDictIn K C=true)
  (ha:PySem.W.findIn K (.ref C) name=some none) (hv:mA name=some v) (MV:PySem.W.handedIn v=true) (h:Q v {s with toks:=s.toks+1}) :
  wpAny (model prog w) A (getAttr (.ref x) name MU) Q E s:=by
 obtain⟨od,J,hl⟩:=I.look
 exact PySem.W.get_value X J (a2t hg).1 (PySem.W.findObj_own hh ha rfl (by rw[hl,hv])) MV h
theorem MX{pl:Sem Bool}{Q:Value×List Value->Shared->Prop}(X:K.In s.heap)(I:lO s.heap x dx C mA)(hg:PySem.W.plainGet K C name=true)
  (hf:PySem.W.findIn K (.ref C) name=some (some (.ref f))) (ht:PySem.W.isFn K (.ref f)=true) (hv:mA name=none) (h:Q (.ref f,[.ref x]) s) :
  wpAny (model prog w) A (getMethod (.ref x) name pl) Q E s:=by
 obtain⟨od,J,hl⟩:=I.look
 exact PySem.W.method_fn X J (a2t hg).1 (a2t hg).2 hf (beq_iff_eq.mp ht) (by show(PySem.W.lookIn name od).map (·.isSome)=some false;rw[hl,hv];rfl) h
theorem MY{ns:List Str}{Q:Unit->Shared->Prop}(X:K.In s.heap)(I:lO s.heap x dx C mA)
  (hs:PySem.W.findIn K (.ref C) "__setattr__"=some (some (.builtin "object.__setattr__"))) (hp:PySem.W.plainOver K C=true) (ht:PySem.W.takerIn K C name=some none) (hh:PySem.W.hasDictIn K C=true)
  (hw:PySem.Within mA ns) (hsz:ns.length<=sizeLine)
  (h:∀h',lO h' x dx C (λy=>if y=name then some v else mA y)->Heap.SameBut dx s.heap h'->Q () {s with heap:=h',toks:=s.toks+2}) :
  wpAny (model prog w) A (setAttr (.ref x) name v) Q E s:=by
 obtain⟨od,J,hl⟩:=I.look
 refine PySem.W.set_plain X J hs (PySem.W.osa_open (s:={s with toks:=s.toks+1}) (r:=none) X J hp ht λb=>?_)
 obtain⟨cd,hc,fD⟩:=PySem.W.any_some hh
 have hx:s.heap.get? x=some ⟨.ref C,some dx,.plain,#[]⟩:=I.obj
 refine wpAny_bind (wpAny_pure (wpAny_bind (wpAny_bind (wpAny_loadPart hx (wpAny_bind (PySem.W.Looks.here (s:={s with toks:=s.toks+1}) (PySem.W.looks_clsIn X hc) ?_))))))
 rw[fD]
 refine wpAny_pure (a:=some dx) (wpAny_bind (wpAny_pure (wpAny_bind ?_)))
 refine wpAny_nsSet1 (s:={s with toks:=s.toks+1}) I.ns λh' fJ df=>?_
 obtain⟨oD,YX,YY,MZ,M0,M1⟩:=fJ.count (PySem.Within.cons name v hw)
 refine wpAny_bind (wpAny_lookBehind MZ (by rw[M0];exact pastItsLine_dict (Z9 M1 (by rw[a0k];omega))) ?_)
 exact wpAny_pure (h _ ⟨(df.2 _ (Ne.symm I.ne)).trans I.obj,fJ,I.ne⟩ df)
theorem El{R:Result->Shared->Prop}{vs:List Value}{kw:List (Str×Value)}(X:K.In s.heap)(hm:PySem.W.makesIn K C=true)
  (hi:PySem.W.findIn K (.ref C) "__init__"=some (some (.ref f))) (hf:PySem.W.typeIn K (.ref f)=some (.type "function"))
  (h:codeAny (model prog w) (A.under (.builtin "type.__call__" ⟨.ref C::vs,kw⟩)) (.call (.ref f) ⟨.ref (s.heap.objs.size+1)::vs,kw⟩) (PySem.W.InitBack (s.heap.objs.size+1) R)
   {s with heap:=(s.heap.push PySem.W.emptyDict).push (PySem.W.instObj C s.heap.objs.size)}) :
  codeAny (model prog w) A (.call (.ref C) ⟨vs,kw⟩) R s:=by
 obtain⟨hh,g,d,t,os⟩:=s
 exact PySem.W.make_core (PySem.W.makes_of X hm) (PySem.W.looks_findIn X hi) (λself=>PySem.W.bind_fn X self hf) (.inl rfl) h
end
def ej(f:Str)(v:V):List (Str×V)->List (Str×V)
 | []=>[(f,v)]
 | (g,x)::r=>if g=f then (g,v)::r else (g,x)::ej f v r
theorem sK(f g:Str)(v:V):∀fs:List (Str×V),(ej f v fs).lookup g=if g=f then some v else fs.lookup g
 | []=>by
  show List.lookup g [(f,v)]=_
  by_cases h:g=f
  ·have hb:(g==f)=true:=beq_iff_eq.mpr h
   simp only[List.lookup,hb,if_pos h]
  ·have hb:(g==f)=false:=beq_eq_false_iff_ne.mpr h
   simp only[List.lookup,hb,if_neg h]
 | (k,x)::r=>by
  have ih:=sK f g v r
  rw[show ej f v ((k,x)::r)=(if k=f then (k,v)::r else (k,x)::ej f v r) from rfl]
  by_cases hk:k=f
  ·rw[if_pos hk]
   by_cases h:g=k
   ·have hb:(g==k)=true:=beq_iff_eq.mpr h
    simp only[List.lookup,hb,if_pos (h.trans hk)]
   ·have hb:(g==k)=false:=beq_eq_false_iff_ne.mpr h
    simp only[List.lookup,hb,if_neg (λe:g=f=>h (e.trans hk.symm))]
  ·rw[if_neg hk]
   by_cases h:g=k
   ·have hb:(g==k)=true:=beq_iff_eq.mpr h
    simp only[List.lookup,hb,if_neg (λe:g=f=>hk (h.symm.trans e))]
   ·have hb:(g==k)=false:=beq_eq_false_iff_ne.mpr h
    simp only[List.lookup,hb]
    exact ih
theorem xz(f:Str)(v:V):∀fs:List (Str×V),f∈(ej f v fs).map (·.1)/\∀g,g∈fs.map (·.1)->g∈(ej f v fs).map (·.1)
 | []=>⟨by simp[ej],λg h=>by simp at h⟩
 | (k,x)::r=>by
  obtain⟨i1,i2⟩:=xz f v r
  rw[show ej f v ((k,x)::r)=(if k=f then (k,v)::r else (k,x)::ej f v r) from rfl]
  by_cases hk:k=f
  ·rw[if_pos hk]
   subst hk
   exact⟨by simp,λg h=>by simpa using h⟩
  ·rw[if_neg hk]
   refine⟨?_,λg h=>?_⟩
   ·rw[a0f]
    exact Z5 _ i1
   ·rw[a0f] at h⊢
    rcases ZZ.mp h with e | e
    ·exact ZZ.mpr (.inl e)
    ·exact Z5 _ (i2 g e)
theorem Em(f:Str)(v:V):∀fs:List (Str×V),(ej f v fs).length<=fs.length+1
 | []=>by simp[ej]
 | (k,x)::r=>by
  have ih:=Em f v r
  rw[show ej f v ((k,x)::r)=(if k=f then (k,v)::r else (k,x)::ej f v r) from rfl]
  by_cases hk:k=f
  ·rw[if_pos hk,a0k,a0k];omega
  ·rw[if_neg hk,a0k,a0k];omega
theorem dO.some_of{v:V}{o:Option Value}(r:dO (some v) o):∃u,o=some u/\RelV v u:=by
 cases o with
 | none=>exact(show False from r).elim
 | some u=>exact⟨u,rfl,r⟩
theorem dO.none_of{o:Option Value}(r:dO none o):o=none:=by
 cases o with
 | none=>rfl
 | some u=>exact(show False from r).elim
theorem M3{v:V}{u:Value}(r:RelV v u):PySem.W.handedIn u=true:=by
 cases v with
 | aw=>cases (show u=Value.none from r);rfl
 | bl b=>cases (show u=Value.bool b from r);rfl
 | int i=>obtain⟨t,e⟩:=(show ∃t,u=Value.int i t from r);cases e;rfl
 | str x=>obtain⟨t,e⟩:=(show ∃t,u=Value.str x t from r);cases e;rfl
 | gI b=>obtain⟨t,e⟩:=(show ∃t,u=Value.bytes b t from r);cases e;rfl
 | lB b=>obtain⟨t,e⟩:=(show ∃t,u=Value.float b t from r);cases e;rfl
 | ref a=>cases (show u=Value.ref a from r);rfl
 | ty n=>cases (show u=Value.type n from r);rfl
section
variable{P:Program}{w:World}{H H':Hp}{h h':Heap}{a C dx:Addr}{fs LS:List (Str×V)}
theorem sL(am:bC P w H h)(e:H a=some (.ins C dx fs)):∃mA,lO h a dx C mA/\(∀f,dO (fs.lookup f) (mA f))/\PySem.Within mA (fs.map (·.1))/\fs.length<=1000/\H dx=some (.own a):=by
 obtain⟨d,z,ne,ob,mA,n,r,q⟩:=(show b8 P w H h a (.ins C dx fs) from am a _ e)
 exact⟨mA,⟨ob,n,ne⟩,r,q,z,d⟩
end
structure ck(K:PySem.W.Frag)(C:Addr):Prop where
 pg:PySem.W.plainGet K C Str.empty=true
 hd:PySem.W.hasDictIn K C=true
 po:PySem.W.plainOver K C=true
 sa:PySem.W.findIn K (.ref C) "__setattr__"=some (some (.builtin "object.__setattr__"))
theorem ck.get{K:PySem.W.Frag}{C:Addr}(c:ck K C)(f:Str):PySem.W.plainGet K C f=true:=c.pg
def eT(K:PySem.W.Frag)(C:Addr)(f:Str):Prop:=PySem.W.findIn K (.ref C) f=some none
theorem eT.M5{K:PySem.W.Frag}{C:Addr}{f:Str}(n:eT K C f):PySem.W.takerIn K C f=some none:=by
 unfold PySem.W.takerIn
 rw[show PySem.W.findIn K (.ref C) f=some none from n]
 rfl
structure nY(K:PySem.W.Frag)(C:Addr)(m:Str)(f:Addr):Prop where
 at_:PySem.W.findIn K (.ref C) m=some (some (.ref f))
 fn:PySem.W.isFn K (.ref f)=true
 kp:PySem.W.keepIn K (.ref f)=true
section
variable{X:Cx}{aa:List (Addr×Obj)}{σ:St}{H:Hp}{s:Shared}{a C dx:Addr}{fs:List (Str×V)}{f:Str}{v:V}{A:Around}{E:Value->Shared->Prop}
theorem M6{b:Bool}{Q:Value->Shared->Prop}(I:Inv X aa σ H s)(e:H a=some (.ins C dx fs))(c:ck X.K C)(n:eT X.K C f)(l:fs.lookup f=some v)
  (h:∀u s',Inv X aa σ H s'->RelV v u->Q u s'):wpAny (model X.prog X.w) A (getAttr (.ref a) f b) Q E s:=by
 obtain⟨mA,O,r,_,_,_⟩:=sL I.am e
 obtain⟨u,hu,ru⟩:=dO.some_of (v:=v) (o:=mA f) (by rw[<-l];exact r f)
 exact MT I.bW O (c.get f) c.hd n hu (M3 ru) (h u _ (I.tok _) ru)
theorem p9{m:Str}{g:Addr}{pl:Sem Bool}{Q:Value×List Value->Shared->Prop}(I:Inv X aa σ H s)(e:H a=some (.ins C dx fs))(c:ck X.K C)(k:nY X.K C m g)(l:fs.lookup m=none)
  (h:Q (.ref g,[.ref a]) s):wpAny (model X.prog X.w) A (getMethod (.ref a) m pl) Q E s:=by
 obtain⟨mA,O,r,_,_,_⟩:=sL I.am e
 have hn:mA m=none:=dO.none_of (by rw[<-l];exact r m)
 exact MX I.bW O (c.get m) k.at_ k.fn hn h
theorem M9{y:V}{u:Value}{Q:Unit->Shared->Prop}(I:Inv X aa σ H s)(e:H a=some (.ins C dx fs))(c:ck X.K C)(n:eT X.K C f)(hl:fs.length<1000)(ry:RelV y u)
  (h:∀s',Inv X aa σ (upd H a (.ins C dx (ej f y fs))) s'->Q () s'):wpAny (model X.prog X.w) A (setAttr (.ref a) f u) Q E s:=by
 obtain⟨mA,O,r,wi,_,ho⟩:=sL I.am e
 have hz:(fs.map (·.1)).length<=sizeLine:=by rw[ZW,sizeLine_eq];omega
 refine MY I.bW O c.sa c.po n.M5 c.hd wi hz λh' O' sb=>h _ ?_
 have hd:∃o,h'.get? dx=some o:=let ⟨o,_,_,e',_⟩:=O'.ns;⟨o,e'⟩
 refine I.write (x:=a) (e:=dx) (by rw[e];exact True.intro) (.inr ho) (λb q hb z=>(sb.2 b hb).trans z) hd ?_
 refine⟨by rw[i_ O.ne];exact ho,?_,O.ne,O'.obj,_,O'.ns,λg=>?_,λg hg=>?_⟩
 ·have:=Em f y fs;omega
 ·show dO ((ej f y fs).lookup g) (if g=f then some u else mA g)
  rw[sK]
  by_cases q:g=f
  ·rw[if_pos q,if_pos q];exact ry
  ·rw[if_neg q,if_neg q];exact r g
 ·by_cases q:g=f
  ·rw[q];exact(xz f y fs).1
  ·refine(xz f y fs).2 g (wi g λz=>hg ?_)
   show(if g=f then some u else mA g)=none
   rw[if_neg q];exact z
theorem Inv.made(I:Inv X aa σ H s):Inv X aa σ (upd (upd H s.heap.objs.size (.own (s.heap.objs.size+1))) (s.heap.objs.size+1) (.ins C s.heap.objs.size []))
  {s with heap:=(s.heap.push PySem.W.emptyDict).push (PySem.W.instObj C s.heap.objs.size)}:=by
 have e1:(s.heap.push PySem.W.emptyDict).get? s.heap.objs.size=some PySem.W.emptyDict:=Z3 s.heap rfl
 have e2:((s.heap.push PySem.W.emptyDict).push (PySem.W.instObj C s.heap.objs.size)).get? (s.heap.objs.size+1)=some (PySem.W.instObj C s.heap.objs.size):=by
  have:=Z3 (s.heap.push PySem.W.emptyDict) (o:=PySem.W.instObj C s.heap.objs.size) rfl
  rwa [a0x] at this
 have e3:(s.heap.push PySem.W.emptyDict).Ns s.heap.objs.size (λ_=>none):=⟨PySem.W.emptyDict,#[],_,e1,rfl,(λe he=>absurd he (by simp)),λ_=>rfl⟩
 have I1:=I.laid (a:=s.heap.objs.size) (o:=.own (s.heap.objs.size+1)) (h':=s.heap.push PySem.W.emptyDict) (t':=s.toks) (λb u q=>ZV _ q) (Z0 _) ⟨_,e1⟩
 refine I1.laid (a:=s.heap.objs.size+1) (o:=.ins C s.heap.objs.size []) (t':=s.toks) (λb u q=>ZV _ q) (Nat.le_of_eq (a0x _ _)) ?_
 have ne:s.heap.objs.size≠s.heap.objs.size+1:=a0c (a0I _)
 refine⟨by rw[i_ ne,d_],a0w _,ne,e2,λ_=>none,(Heap.Ns1.of_empty e3).at λo q=>ZV _ q,λ_=>True.intro,λy hy=>absurd rfl hy⟩
theorem M'{prog:Program}{w:World}{env:Env}{e:Expr}{f:Str}{pos:Pos}{s:Shared}{Q:Value->Shared->Prop}(hb:attributeBase e f env (eval e env)=eval e env)
  (h:wpAny (model prog w) A (eval e env) (λo bf=>wpAny (model prog w) A (getAttr o f true) Q E bf) E s):wpAny (model prog w) A (eval (.Attribute e f pos) env) Q E s :=
 Attribute_any_ h (by rw[arm_eval_Attribute,hb])
end
def Na(K:PySem.W.Frag)(ta:TE)(f:Str):TE:=fun σ H Q=>ta σ H λx H1=>∃a C dx fs v,x=.ref a/\H1 a=some (.ins C dx fs)/\ck K C/\eT K C f/\fs.lookup f=some v/\Q v H1
def Nb(K:PySem.W.Frag)(ta tv:TE)(f:Str):TS:=λD σ H=>tv σ H λy H1=>ta σ H1 λx H2=>∃a C dx fs,x=.ref a/\H2 a=some (.ins C dx fs)/\ck K C/\eT K C f/\fs.length<1000/\
 D.nx σ (upd H2 a (.ins C dx (ej f y fs)))
section
variable{X:Cx}{o e value:Expr}{f:Str}{pos gm lP:Pos}{ta tv:TE}
theorem ik(he:PE X e ta)(hb:attributeBase e f X.env (eval e X.env)=eval e X.env):PE X (.Attribute e f pos) (Na X.K ta f):=by
 intro aa s σ H Q I h
 refine M' hb (au (he aa s σ H _ I h) λu s1 ⟨x,H1,I1,rx,a,C,dx,fs,v,ex,ea,c,n,l,q⟩=>?_)
 subst ex
 obtain rfl:u=Value.ref a:=rx
 exact M6 I1 ea c n l λu' s2 I2 ru=>⟨v,H1,I2,ru,q⟩
theorem Nd(ha:PE X o ta)(hv:PE X value tv)(hs:swapsWith value (some (.Attribute o f gm)) pos.line X.env=pure false):PS X (.Assign [.Attribute o f gm] value pos) (Nb X.K ta tv f):=by
 intro aa s σ H D I h
 refine plainObj_wpAny_Assign_Attribute (au (hv aa s σ H _ I h) λu s1 ⟨y,H1,I1,ry,q⟩=>au (ha aa s1 σ H1 _ I1 q) λov s2 ⟨x,H2,I2,rx,a,C,dx,fs,ex,ea,c,n,l,q2⟩=>?_) hs
 subst ex
 obtain rfl:ov=Value.ref a:=rx
 exact M9 I2 ea c n l ry λs3 I3=>⟨σ,_,I3,q2⟩
theorem YZ{pl:Sem Bool}{m:Str}{bH:Pos}{args:List Expr}{aa:List (Addr×Obj)}{s:Shared}{σ:St}{H:Hp}{Q:Value->Shared->Prop}{te:TE}(he:PE X e te)(I:Inv X aa σ H s)
  (h:te σ H λx H1=>∃a C dx fs g,x=.ref a/\H1 a=some (.ins C dx fs)/\ck X.K C/\nY X.K C m g/\fs.lookup m=none/\
   ∀s1,Inv X aa σ H1 s1->wpAny (model X.prog X.w) X.A (callWith pos (.ref g) [.ref a] (backTo pos (starEach args X.env)) (backToKw pos (keywordEach [] X.env))) Q X.xe s1)
  (ht:eval (.Call (.Attribute e m bH) args [] pos) X.env=(do
   let ov <-eval e X.env
   standAt bH.atName
   let (f,first) <-holding [ov] (getMethod ov m pl)
   callWith pos f first (backTo pos (starEach args X.env)) (backToKw pos (keywordEach [] X.env)))) :
  wpAny (model X.prog X.w) X.A (eval (.Call (.Attribute e m bH) args [] pos) X.env) Q X.xe s:=by
 refine a1w (pl:=pl) (au (he aa s σ H _ I h) λu s1 ⟨x,H1,I1,rx,a,C,dx,fs,g,ex,ea,c,k,l,q⟩=>?_) ht
 subst ex
 obtain rfl:u=Value.ref a:=rx
 exact p9 I1 ea c k l (q s1 I1)
end
section
variable{X:Cx}{aa:List (Addr×Obj)}{σ:St}{H:Hp}{s:Shared}{A:Around}{E:Value->Shared->Prop}{Q:Value->Shared->Prop}{c:Value}{b:Bool}
inductive fX(K:PySem.W.Frag)(H:Hp):V->Value->Prop where
 | aw:fX K H .aw (.type "NoneType")
 | bl (x:Bool):fX K H (.bl x) (.type "bool")
 | int (i:Int):fX K H (.int i) (.type "int")
 | str (x:Str):fX K H (.str x) (.type "str")
 | lB (x:UInt64):fX K H (.lB x) (.type "float")
 | lst {a:Addr} {xs:List V} (e:H a=some (.lst xs)):fX K H (.ref a) (.type "list")
 | ce {a:Addr} {o:Obj} {xs:List V} (e:H a=some (.ce o (.lst xs))):fX K H (.ref a) (.type "list")
 | tup {a:Addr} {xs:List V} (e:H a=some (.tup xs)):fX K H (.ref a) (.type "tuple")
 | dK {a:Addr} {kvs:List (aE×V)} (e:H a=some (.dK kvs)):fX K H (.ref a) (.type "dict")
 | dT {a:Addr} {kvs:List (List aE×V)} (e:H a=some (.dT kvs)):fX K H (.ref a) (.type "dict")
 | ins {a C dx:Addr} {fs:List (Str×V)} (e:H a=some (.ins C dx fs)) (cl:ck K C) (ha:PySem.W.findIn K (.ref C) "__class__"=some (some (.builtin "object.__class__")))
   (hn:PySem.W.specialIn K (.builtin "object.__class__") "__get__"=some (some (.builtin "getset_descriptor.__get__"))) (En:PySem.W.takesIn K (.builtin "object.__class__")=some true)
   (hm:PySem.W.mroIn K C (.type "object")=some true):fX K H (.ref a) (.ref C)
theorem Nf{x:V}{u t:Value}(I:Inv X aa σ H s)(rx:RelV x u)(ty:fX X.K H x t)(e:PySem.W.kitOne X.K t c=some b)(h:∀tk,Q (.bool b) {s with toks:=tk}) :
  wpAny (model X.prog X.w) A (call (.builtin "isinstance") [u,c]) Q E s:=by
 cases ty with
 | aw=>cases (show u=Value.none from rx);exact a0S PySem.W.kitx_none I.bW True.intro e (λz=>nomatch z) h
 | bl y=>cases (show u=Value.bool y from rx);exact a0S PySem.W.kitx_bool I.bW True.intro e (λz=>nomatch z) h
 | int i=>obtain⟨t,q⟩:=(show ∃t,u=Value.int i t from rx);cases q;exact a0S PySem.W.kitx_int I.bW True.intro e (λz=>nomatch z) h
 | str y=>obtain⟨t,q⟩:=(show ∃t,u=Value.str y t from rx);cases q;exact a0S PySem.W.kitx_str I.bW True.intro e (λz=>nomatch z) h
 | lB y=>obtain⟨t,q⟩:=(show ∃t,u=Value.float y t from rx);cases q;exact a0S PySem.W.kitx_float I.bW True.intro e (λz=>nomatch z) h
 | @lst a xs ea =>
  cases (show u=Value.ref a from rx)
  obtain⟨_,_,n,_,h1⟩:=(show b8 X.prog X.w H s.heap a (.lst xs) from I.am a _ ea)
  exact a0S PySem.W.kitx_list I.bW ⟨_,h1,rfl⟩ e (λz=>nomatch z) h
 | @ce a ob xs ea =>
  cases (show u=Value.ref a from rx)
  obtain⟨_,_,_,n,_,h1⟩:=(show b8 X.prog X.w H s.heap a (.ce ob (.lst xs)) from I.am a _ ea)
  exact a0S PySem.W.kitx_list I.bW ⟨_,h1,rfl⟩ e (λz=>nomatch z) h
 | @tup a xs ea =>
  cases (show u=Value.ref a from rx)
  obtain⟨_,_,_,p⟩:=(show b8 X.prog X.w H s.heap a (.tup xs) from I.am a _ ea)
  obtain⟨o,h1,h2,_⟩:=p
  exact a0S PySem.W.kitx_tuple I.bW ⟨o,h1,h2⟩ e (λz=>nomatch z) h
 | @dK a kvs ea =>
  cases (show u=Value.ref a from rx)
  obtain⟨_,_,vs,_,p⟩:=(show b8 X.prog X.w H s.heap a (.dK kvs) from I.am a _ ea)
  obtain⟨o,es,ep,h1,h2,_⟩:=p
  exact a0S PySem.W.kitx_dict I.bW ⟨o,h1,h2.1⟩ e (λz=>nomatch z) h
 | @dT a kvs ea =>
  cases (show u=Value.ref a from rx)
  obtain⟨_,_,xs,_,o,es,ep,h1,h2,_⟩:=(show b8 X.prog X.w H s.heap a (.dT kvs) from I.am a _ ea)
  exact a0S PySem.W.kitx_dict I.bW ⟨o,h1,h2.1⟩ e (λz=>nomatch z) h
 | @ins a C dx fs ea cl ha hn En hm =>
  cases (show u=Value.ref a from rx)
  obtain⟨mA,O,_⟩:=sL I.am ea
  obtain⟨od,J,_⟩:=O.look
  exact a0S (PySem.W.kitx_own (cl.get _) cl.hd ha hn En hm) I.bW J e (λz=>nomatch z) h
end
structure aM(k:Nat)(A:Around):Prop where
 hd:A.handled=none
 dp:A.depth+3*k+5<recursionLimit
 un:A.units+16*k+200<cLine
 gd:A.guards=some []
theorem aM.mono{j k:Nat}{A:Around}(r:aM k A)(h:j<=k):aM j A:=⟨r.hd,by have:=r.dp;omega,by have:=r.un;omega,r.gd⟩
theorem aM.mo{j k:Nat}{A:Around}(r:aM k A)(h:j<=k:=by decide):aM j A:=r.mono h
theorem aM.deeper{k:Nat}{A:Around}(r:aM (k+1) A)(env:Env):aM k (A.deeper env) :=
 ⟨r.hd,by have:=r.dp;show A.depth+1+3*k+5<_;omega,by have:=r.un;show A.units+3+16*k+200<_;omega,r.gd⟩
theorem Ng{A:Around}{C:Addr}{us:List Value}{kw:List (Str×Value)}:(A.under (.builtin "type.__call__" ⟨.ref C::us,kw⟩)).depth=A.depth+1:=by
 first | rfl | simp[Around.under,Code.weight,Code.isCreation,Code.isGuard,Code.isCaller,Code.frames,Code.isFrame,guardIds]
theorem Nh{A:Around}{C:Addr}{us:List Value}{kw:List (Str×Value)}:(A.under (.builtin "type.__call__" ⟨.ref C::us,kw⟩)).units=A.units+1:=by
 first | rfl | simp[Around.under,Code.cUnits,Code.frames,Code.isFrame]
theorem aM.make{k:Nat}{A:Around}(r:aM (k+1) A)(C:Addr)(us:List Value)(kw:List (Str×Value)):aM k (A.under (.builtin "type.__call__" ⟨.ref C::us,kw⟩)) :=
 ⟨r.hd,by have:=r.dp;rw[Ng];omega,by have:=r.un;rw[Nh];omega,by have:=r.gd;first | exact this | (simp[Around.under,Code.isGuard,guardIds];exact this)⟩
theorem aM.depth{k:Nat}{A:Around}(r:aM k A):A.depth<recursionLimit:=by have:=r.dp;omega
theorem aM.units{k:Nat}{A:Around}(r:aM k A):A.units+64<cLine:=by have:=r.un;omega
def lQ:TA:=λ_ H Q=>Q [] H
def gP(ta:TE)(tr:TA):TA:=fun σ H Q=>ta σ H λx H1=>tr σ H1 λxs H2=>Q (x::xs) H2
section
variable{X:Cx}{e:Expr}{es:List Expr}{te:TE}{t:TA}{pos:Pos}
theorem e_:PA X [] lQ:=λ_ _ _ _ H Q I h=>Calls.spliced_nil ⟨[],H,I,.nil,h⟩
theorem a_(ha:PE X e te)(hr:PA X es t)(hs:starEach (e::es) X.env=(false,eval e X.env)::starEach es X.env:=by rfl):PA X (e::es) (gP te t):=by
 intro pos aa s σ H Q I h
 rw[hs]
 show wpAny _ _ (spliced ((false,eval e X.env)::backTo pos (starEach es X.env))) _ _ s
 refine Calls.spliced_cons (au (ha aa s σ H _ I h) λu s1 ⟨x,H1,I1,r1,q1⟩=>?_)
 exact au (hr pos aa s1 σ H1 _ I1 q1) λus s2 ⟨xs,H2,I2,r2,q2⟩=>⟨x::xs,H2,I2,.cons r1 r2,q2⟩
def Ni(t:TA):TE:=fun σ H Q=>t σ H λxs H1=>xs.length<=sizeLine/\∀p,H1 p=none->Q (.ref p) (upd H1 p (.tup xs))
def Eo(t:TA):TE:=fun σ H Q=>t σ H λxs H1=>xs.length<=sizeLine/\∀p,H1 p=none->Q (.ref p) (upd H1 p (.lst xs))
theorem dJ{x1}(h:PA X es t):PE X (.Tuple es x1 pos) (Ni t):=by
 intro aa s σ H Q I hq
 refine wpAny_Tuple_spliced (au (h pos aa s σ H _ I hq) λus s1 ⟨xs,H1,I1,r,z,q⟩=>⟨by rw[<-r.length];exact z,?_⟩)
 have hf:H1 s1.heap.objs.size=none:=I1.am.fresh (Z0 _)
 refine⟨.ref s1.heap.objs.size,upd H1 s1.heap.objs.size (.tup xs),I1.laid (t':=s1.toks) (λb u e=>ZV _ e) (Z0 _) ?_,rfl,q _ hf⟩
 exact⟨z,us,r,⟨_,Z3 _ rfl,rfl,_,rfl⟩⟩
theorem A_(h:PA X es t):PE X (.List es pos) (Eo t):=by
 intro aa s σ H Q I hq
 refine wpAny_List_spliced (au (h pos aa s σ H _ I hq) λus s1 ⟨xs,H1,I1,r,z,q⟩=>⟨by rw[<-r.length];exact z,?_⟩)
 have hf:H1 s1.heap.objs.size=none:=I1.am.fresh (Z0 _)
 refine⟨.ref s1.heap.objs.size,upd H1 s1.heap.objs.size (.lst xs),I1.laid (t':=s1.toks) (λb u e=>ZV _ e) (Z0 _) ?_,rfl,q _ hf⟩
 exact⟨z,us,0,r,Z3 _ rfl⟩
end
abbrev Sp:=List V->Hp->VK->XK->Prop
abbrev fY:=List Env->Hp->Shared->XK->Value->Shared->Prop
structure lR(P:Program)(w:World)(K:PySem.W.Frag)(mg:Str->Option Value)(base:Heap)(A:Around)(outer:List Env)(s:Shared)(H:Hp):Prop where
 frames:A.frames=some outer
 mod:Mod K mg base
 bs:∀b o,base.get? b=some o->s.heap.get? b=some o/\H b=none
 gJ:base.objs.size<=s.heap.objs.size
 fT:s.heap.FunFrames base outer
 ju:∀b∈bz outer,H b=none
 am:bC P w H s.heap
 bare:AllBare s.gens
def CE(outer:List Env)(P:Program)(w:World)(H:Hp)(s:Shared)(Q:VK)(u:Value)(s':Shared):Prop :=
 ∃v H',s'.os=s.os/\AllBare s'.gens/\Un (bz outer) [] H H' s.heap s'.heap/\bC P w H' s'.heap/\RelV v u/\Q v H'
def CR(CX:fY)(outer:List Env)(P:Program)(w:World)(H:Hp)(s:Shared)(Q:VK)(E:XK)(r:Result)(s':Shared):Prop :=
 match r with
 | .ok (.ret u)=>CE outer P w H s Q u s'
 | .ok _=>False
 | .error e=>CX outer H s E e s'
structure ax(P:Program)(w:World)(K:PySem.W.Frag)(mg:Str->Option Value)(base:Heap)(CX:fY)(k:Nat)(f:Addr)(fd:FuncData)(ps:List Str)(sp:Sp):Prop where
 len:∀vs H Q E,sp vs H Q E->vs.length=ps.length
 run:∀(A:Around) (outer:List Env) (s:Shared) (H:Hp) (args:Args) (us:List Value) (vs:List V) (Q:VK) (E:XK),aM k A->lR P w K mg base A outer s H->BindsTo s fd args (ps.zip us)->aB vs us->sp vs H Q E->
  codeAny (model P w) A (.call (.ref f) args) (CR CX outer P w H s Q E) s
theorem ax.imp{P:Program}{w:World}{K:PySem.W.Frag}{mg:Str->Option Value}{base:Heap}{CX:fY}{k:Nat}{f:Addr}{fd:FuncData}{ps:List Str}{sp jy:Sp}(F:ax P w K mg base CX k f fd ps sp)
  (h:∀vs H Q E,jy vs H Q E->sp vs H Q E):ax P w K mg base CX k f fd ps jy :=
 ⟨λvs H Q E q=>F.len vs H Q E (h _ _ _ _ q),λA outer s H args us vs Q E hr he hb hv hs=>F.run A outer s H args us vs Q E hr he hb hv (h _ _ _ _ hs)⟩
theorem lR.make{P:Program}{w:World}{K:PySem.W.Frag}{mg:Str->Option Value}{base:Heap}{A:Around}{outer:List Env}{s:Shared}{H:Hp}(e:lR P w K mg base A outer s H)(C:Addr)(us:List Value)(kw:List (Str×Value)) :
  lR P w K mg base (A.under (.builtin "type.__call__" ⟨.ref C::us,kw⟩)) outer s H:=⟨by first | exact e.frames | (simpa [Around.under,Code.envs,Code.isFrame,pushEnvs] using e.frames),e.mod,e.bs,e.gJ,e.fT,e.ju,e.am,e.bare⟩
section
variable{X:Cx}{aa:List (Addr×Obj)}{σ:St}{H:Hp}{s s':Shared}
theorem Inv.qa(I:Inv X aa σ H s):lR X.prog X.w X.K X.mg X.base X.A X.stack s H :=
 ⟨I.ok.frames,I.ok.mod,I.bs,Z9 I.ok.gJ I.sz,I.stack,I.jv,I.am,I.bare⟩
theorem Inv.after{Q:VK}{u:Value}(I:Inv X aa σ H s)(h:CE X.stack X.prog X.w H s Q u s'):EP X aa σ Q u s':=by
 obtain⟨v,H',os,bare,un,am,r,q⟩:=h
 obtain⟨hh,g,d,t,xA⟩:=s'
 obtain rfl:xA=s.os:=os
 exact⟨v,H',I.call (h':=hh) (g':=g) (d':=d) (t':=t) (ch:=[]) un am bare (λb z=>absurd z (by simp)),r,q⟩
end
def xB(sp:Sp)(dq:List V)(E:XK)(t:TA):TE:=fun σ H Q=>t σ H λvs H1=>sp (vs++dq) H1 Q E
def sM(C:Addr)(m:Str)(sp:Sp)(dq:List V)(E:XK)(ta:TE)(t:TA):TE:=fun σ H Q=>ta σ H λx H1=>∃a dx fs,x=.ref a/\H1 a=some (.ins C dx fs)/\fs.lookup m=none/\
 t σ H1 λvs H2=>sp (x::(vs++dq)) H2 Q E
def Ep(C:Addr)(sp:Sp)(dq:List V)(E:XK)(t:TA):TE:=fun σ H Q=>t σ H λvs H1=>∀x dx,H1 x=none->H1 dx=none->dx≠x->
 sp (.ref x::(vs++dq)) (upd (upd H1 dx (.own x)) x (.ins C dx [])) (λv H2=>v=.aw/\Q (.ref x) H2) E
def Binds(K:PySem.W.Frag)(fd:FuncData)(ps:List Str)(ds:List Value):Prop :=
 ∀(s:Shared) (us:List Value),K.In s.heap->(us++ds).length=ps.length->BindsTo s fd ⟨us,[]⟩ (ps.zip (us++ds))
theorem Binds.all{K:PySem.W.Frag}{fd:FuncData}{ps:List Str}(h:∀us:List Value,us.length=ps.length->bindArgs fd ⟨us,[]⟩=pure (ps.zip us)):Binds K fd ps []:=λs us _ hl=>by
 rw[a0F] at hl⊢
 exact .of_eq (h us hl)
def ki(CX:fY)(X:Cx)(E:XK):Prop:=∀(aa:List (Addr×Obj)) (σ:St) (H:Hp) (s:Shared) (e:Value) (s':Shared),Inv X aa σ H s->CX X.stack H s E e s'->X.xe e s'
section
variable{X:Cx}{CX:fY}{k:Nat}{f C:Addr}{fd:FuncData}{ps:List Str}{sp:Sp}{dq:List V}{ds:List Value}{E:XK}{x m:Str}{p pos bH:Pos}{e o:Expr}{es:List Expr}{ta:TE}{t:TA}
theorem xC{aa:List (Addr×Obj)}{σ:St}{H:Hp}{s:Shared}{Q:VK}{us:List Value}{vs:List V}(F:ax X.prog X.w X.K X.mg X.base CX k f fd ps sp)(hr:aM k X.A)(hb:Binds X.K fd ps ds)(hd:aB dq ds)(hx:ki CX X E)
  (I:Inv X aa σ H s) (r:aB vs us) (h:sp (vs++dq) H Q E):wpAny (model X.prog X.w) X.A (call (.ref f) us) (EP X aa σ Q) X.xe s:=by
 have r2:aB (vs++dq) (us++ds):=r.append hd
 have hl:(us++ds).length=ps.length:=by rw[<-r2.length];exact F.len _ _ _ _ h
 refine wpAny_call (codeAny_mono (F.run X.A X.stack s H ⟨us,[]⟩ (us++ds) (vs++dq) Q E hr I.qa (hb s us I.bW hl) r2 h) λr s' hq=>?_)
 cases r with
 | error e=>exact hx aa σ H s e s' I hq
 | ok fl =>
  cases fl with
  | ret u=>exact I.after hq
  | next=>exact False.elim hq
  | brk=>exact False.elim hq
  | cont=>exact False.elim hq
theorem Er(F:ax X.prog X.w X.K X.mg X.base CX k f fd ps sp)(hr:aM k X.A)(hg:Gl X x)(hm:X.mg x=some (.ref f))(hk:PySem.W.keepIn X.K (.ref f)=true)(hb:Binds X.K fd ps ds)(hd:aB dq ds)(hx:ki CX X E)
  (ha:PA X (e::es) t) (dL:(x==("__debug__":Str))=false:=by decide) (he:starEach (e::es) X.env=(false,eval e X.env)::starEach es X.env:=by rfl) (hpl:(backTo pos (starEach es X.env)).any (·.1)=false:=by rfl) :
  PE X (.Call (.Name x p) (e::es) [] pos) (xB sp dq E t):=by
 intro aa s σ H Q I h
 refine wpAny_Call_Name_kw (nO I hg hm ?_ dL)
 refine a1H (h₀:=X.base) I.ok.mod.lC hk (au (ha pos aa s σ H _ I h) λus s1 ⟨vs,H1,I1,r,q⟩=>⟨I1.bW,?_⟩) he hpl
 exact xC F hr hb hd hx I1 r q
theorem Nj{pl:Sem Bool}(he:PE X o ta)(c:ck X.K C)(hm:nY X.K C m f)(F:ax X.prog X.w X.K X.mg X.base CX k f fd ps sp)(hr:aM k X.A)(hb:Binds X.K fd ps ds)(hd:aB dq ds)(hx:ki CX X E)(ha:PA X (e::es) t)
  (eh:starEach (e::es) X.env=(false,eval e X.env)::starEach es X.env:=by rfl) (hpl:(backTo pos (starEach es X.env)).any (·.1)=false:=by rfl)
  (ht:eval (.Call (.Attribute o m bH) (e::es) [] pos) X.env=(do
   let ov <-eval o X.env
   standAt bH.atName
   let (f,first) <-holding [ov] (getMethod ov m pl)
   callWith pos f first (backTo pos (starEach (e::es) X.env)) (backToKw pos (keywordEach [] X.env))):=by rfl) :
  PE X (.Call (.Attribute o m bH) (e::es) [] pos) (sM C m sp dq E ta t):=by
 intro aa s σ H Q I h
 refine a1w (pl:=pl) (au (he aa s σ H _ I h) λu s1 ⟨x,H1,I1,rx,a,dx,fs,ex,ea,l,q⟩=>?_) ht
 subst ex
 obtain rfl:u=Value.ref a:=rx
 refine p9 I1 ea c hm l ?_
 refine a1H (first:=[.ref a]) (h₀:=X.base) I.ok.mod.lC hm.kp (au (ha pos aa s1 σ H1 _ I1 q) λus s2 ⟨vs,H2,I2,r,q2⟩=>⟨I2.bW,?_⟩) eh hpl
 exact xC (us:=.ref a::us) (vs:=.ref a::vs) F hr hb hd hx I2 (.cons rfl r) q2
theorem Nk{pl:Sem Bool}(he:PE X o ta)(c:ck X.K C)(hm:nY X.K C m f)(F:ax X.prog X.w X.K X.mg X.base CX k f fd ps sp)(hr:aM k X.A)(hb:Binds X.K fd ps ds)(hd:aB dq ds)(hx:ki CX X E)
  (ht:eval (.Call (.Attribute o m bH) [] [] pos) X.env=(do
   let ov <-eval o X.env
   standAt bH.atName
   let (f,first) <-holding [ov] (getMethod ov m pl)
   callWith pos f first (backTo pos (starEach [] X.env)) (backToKw pos (keywordEach [] X.env))):=by rfl) :
  PE X (.Call (.Attribute o m bH) [] [] pos) (sM C m sp dq E ta lQ):=by
 intro aa s σ H Q I h
 refine a1w (pl:=pl) (au (he aa s σ H _ I h) λu s1 ⟨x,H1,I1,rx,a,dx,fs,ex,ea,l,q⟩=>?_) ht
 subst ex
 obtain rfl:u=Value.ref a:=rx
 refine p9 I1 ea c hm l ?_
 exact PySem.W.callWith_K0 (first:=[.ref a]) I1.bW hm.kp (xC (us:=[.ref a]) (vs:=[.ref a]) F hr hb hd hx I1 (.cons rfl .nil) q)
structure Mk(K:PySem.W.Frag)(C f:Addr):Prop where
 makes:PySem.W.makesIn K C=true
 init:PySem.W.findIn K (.ref C) "__init__"=some (some (.ref f))
 fn:PySem.W.isFn K (.ref f)=true
 kp:PySem.W.keepIn K (.ref C)=true
theorem Nl{aa:List (Addr×Obj)}{σ:St}{H:Hp}{s:Shared}{Q:VK}{us:List Value}{vs:List V}(M:Mk X.K C f)(F:ax X.prog X.w X.K X.mg X.base CX k f fd ps sp)(hr:aM (k+1) X.A)(hb:Binds X.K fd ps ds)(hd:aB dq ds)
  (hx:ki CX X E) (I:Inv X aa σ H s) (r:aB vs us)
  (h:∀x dx,H x=none->H dx=none->dx≠x->sp (.ref x::(vs++dq)) (upd (upd H dx (.own x)) x (.ins C dx [])) (λv H2=>v=.aw/\Q (.ref x) H2) E) :
  wpAny (model X.prog X.w) X.A (call (.ref C) us) (EP X aa σ Q) X.xe s:=by
 have hq:=h (s.heap.objs.size+1) s.heap.objs.size (I.am.fresh (a1Y _)) (I.am.fresh (Z0 _)) (a0c (a0I _))
 have I2:=Inv.made (C:=C) I
 have r2:aB (V.ref (s.heap.objs.size+1)::(vs++dq)) (Value.ref (s.heap.objs.size+1)::(us++ds)):=.cons rfl (r.append hd)
 have hl:(Value.ref (s.heap.objs.size+1)::us++ds).length=ps.length:=by
  have e:=r2.length
  rw[F.len _ _ _ _ hq] at e
  exact e.symm
 refine wpAny_call (El (f:=f) I.bW M.makes M.init (beq_iff_eq.mp M.fn) (codeAny_mono (F.run _ X.stack _ _ ⟨Value.ref (s.heap.objs.size+1)::us,[]⟩ (Value.ref (s.heap.objs.size+1)::(us++ds)) _ _ E (hr.make C us [])
  (I2.qa.make C us []) (hb _ (Value.ref (s.heap.objs.size+1)::us) I2.bW hl) r2 hq) λr s' il=>?_))
 cases r with
 | error e=>exact hx aa σ _ _ e s' I2 il
 | ok fl =>
  cases fl with
  | ret u =>
   obtain⟨v,H',I3,rv,ev,q3⟩:=I2.after il
   subst ev
   exact⟨rv,⟨V.ref (s.heap.objs.size+1),H',I3,rfl,q3⟩⟩
  | next=>exact False.elim il
  | brk=>exact False.elim il
  | cont=>exact False.elim il
theorem Nm(M:Mk X.K C f)(F:ax X.prog X.w X.K X.mg X.base CX k f fd ps sp)(hr:aM (k+1) X.A)(hg:Gl X x)(hm:X.mg x=some (.ref C))(hb:Binds X.K fd ps ds)(hd:aB dq ds)(hx:ki CX X E)
  (ha:PA X (e::es) t) (dL:(x==("__debug__":Str))=false:=by decide) (he:starEach (e::es) X.env=(false,eval e X.env)::starEach es X.env:=by rfl) (hpl:(backTo pos (starEach es X.env)).any (·.1)=false:=by rfl) :
  PE X (.Call (.Name x p) (e::es) [] pos) (Ep C sp dq E t):=by
 intro aa s σ H Q I h
 refine wpAny_Call_Name_kw (nO I hg hm ?_ dL)
 refine a1H (h₀:=X.base) I.ok.mod.lC M.kp (au (ha pos aa s σ H _ I h) λus s1 ⟨vs,H1,I1,r,q⟩=>⟨I1.bW,?_⟩) he hpl
 exact Nl M F hr hb hd hx I1 r q
end
section
variable{X:Cx}{CX:fY}{k:Nat}{f C:Addr}{fd:FuncData}{ps ks:List Str}{sp:Sp}{E:XK}{x m:Str}{p pos bH Y0:Pos}{e o:Expr}{es:List Expr}{Y1:List Keyword}{te ta:TE}{t tk:TA}{nm:Option Str}
variable{g:List Value->List Value->List Value}{gV:List V->List V->List V}
end
structure aQ(N P:List Str)(sc:Scope):Prop where
 kind:sc.kind=.function
 co:sc.isCoroutine=false
 gen:sc.isGenerator=false
 nd:N.Nodup
 pre:N.take P.length=P
 par:∀x∈P,sc.names.lookup x=some .local\/sc.names.lookup x=some .cell
 Nn:∀y∈sc.names,y.2≠.free
theorem Es{kindOf:Str->Option NameKind}{x:Str}:∀ {binds:List (Str×Value)} {m:Str->Option Value},(∀v,(x,v)∉binds)->bindL kindOf binds m x=m x
 | [],_,_=>rfl
 | (n,v)::r,m,h=>by
  unfold bindL
  rw[Es λw hw=>h w (Z5 _ hw)]
  split
  ·have:x≠n:=by rintro rfl;exact h v a0t
   simp[this]
  ·rfl
theorem Et{kindOf:Str->Option NameKind}{x:Str}:∀ {binds:List (Str×Value)} {m:Str->Option Value},(∀v,(x,v)∉binds)->bindC kindOf binds m x=m x
 | [],_,_=>rfl
 | (n,v)::r,m,h=>by
  unfold bindC
  rw[Et λw hw=>h w (Z5 _ hw)]
  split
  ·rfl
  ·have:x≠n:=by rintro rfl;exact h v a0t
   simp[this]
theorem Eu{kindOf:Str->Option NameKind}{x:Str}{v:Value}:∀ {P:List Str} {vs:List Value} {i:Nat} {m:Str->Option Value},P.Nodup->P[i]?=some x->vs[i]?=some v->kindOf x=some .local->
  bindL kindOf (P.zip vs) m x=some v
 | [],_,_,_,_,h,_,_=>by simp at h
 | _::_,[],_,_,_,_,h,_=>by simp at h
 | p::P,w::vs,0,m,nd,h1,h2,hk=>by
  simp at h1 h2;subst h1;subst h2
  show bindL kindOf ((p,w)::P.zip vs) m p=_
  unfold bindL
  rw[Es λv hv=>(a0n.mp nd).1 (a2O hv).1,if_pos hk]
  simp
 | p::P,w::vs,i+1,m,nd,h1,h2,hk=>by
  show bindL kindOf ((p,w)::P.zip vs) m x=_
  unfold bindL
  exact Eu (i:=i) (a0n.mp nd).2 (by simpa using h1) (by simpa using h2) hk
theorem Ev{kindOf:Str->Option NameKind}{x:Str}{v:Value}:∀ {P:List Str} {vs:List Value} {i:Nat} {m:Str->Option Value},P.Nodup->P[i]?=some x->vs[i]?=some v->kindOf x≠some .local->
  bindC kindOf (P.zip vs) m x=some v
 | [],_,_,_,_,h,_,_=>by simp at h
 | _::_,[],_,_,_,_,h,_=>by simp at h
 | p::P,w::vs,0,m,nd,h1,h2,hk=>by
  simp at h1 h2;subst h1;subst h2
  show bindC kindOf ((p,w)::P.zip vs) m p=_
  unfold bindC
  rw[Et λv hv=>(a0n.mp nd).1 (a2O hv).1,if_neg hk]
  simp
 | p::P,w::vs,i+1,m,nd,h1,h2,hk=>by
  show bindC kindOf ((p,w)::P.zip vs) m x=_
  unfold bindC
  exact Ev (i:=i) (a0n.mp nd).2 (by simpa using h1) (by simpa using h2) hk
def start(N:List Str)(vs:List V):St:=vs.map some++List.replicate (N.length-vs.length) none
def bQ(CX:fY)(P:Program)(w:World)(K:PySem.W.Frag)(mg:Str->Option Value)(base:Heap)(N:List Str)(qual:Str)(scope:Scope)(f:Addr)(cd:Value)(A:Around)(outer:List Env)(s:Shared)(H:Hp)(E:XK):Cx where
 prog:=P
 w:=w
 K:=K
 mg:=mg
 base:=base
 A:=A.deeper (envOfC qual scope s.heap.objs.size f cd)
 N:=N
 cy:=s
 jt:=H
 env:=envOfC qual scope s.heap.objs.size f cd
 outer:=outer
 stack:=envOfC qual scope s.heap.objs.size f cd::outer
 ex:=[]
 calm:=true
 fn:=λ_=>true
 pn:=[]
 xe:=λe s'=>wpAny (model P w) (A.deeper (envOfC qual scope s.heap.objs.size f cd)) (leaving (envOfC qual scope s.heap.objs.size f cd) e) (λ_ qb=>CX outer H s E e qb) (λe' qb=>CX outer H s E e' qb) s'
theorem Ew{sc:Scope}{n:Nat}{x:Str}(h:sc.names.lookup x=some .cell):∃c,(cellsFrom n sc.names []).lookup x=some c:=by
 have q:=PySem.W.cellsFrom_some sc.names n [] (.inl h)
 exact Option.isSome_iff_exists.mp q
theorem No{CX:fY}{P:Program}{w:World}{K:PySem.W.Frag}{mg:Str->Option Value}{base:Heap}{N ps:List Str}{qual:Str}{scope:Scope}{f:Addr}{cd:Value}{A:Around}{outer:List Env}{s s1:Shared}{H:Hp}{E:XK}{us:List Value}{vs:List V}
  (S:aQ N ps scope) (hd:A.handled=none) (e0:lR P w K mg base A outer s H) (hl:vs.length=ps.length) (r:aB vs us)
  (x:InCallC s s.heap.objs.size (bindL (envOfC qual scope s.heap.objs.size f cd).kindOf (ps.zip us) λ_=>none) (cellsFrom (s.heap.objs.size+1) scope.names []) (bindC (envOfC qual scope s.heap.objs.size f cd).kindOf (ps.zip us) λ_=>none) s1) :
  Inv (bQ CX P w K mg base N qual scope f cd A outer s H E) [] (start N vs) H s1:=by
 have hpl:ps.length<=N.length:=by have:=congrArg List.length S.pre;rw[a0g] at this;omega
 obtain⟨h1,tk,rfl,hk⟩:=x.done
 have qc:∀b:Addr,b∉(bQ CX P w K mg base N qual scope f cd A outer s H E).ex:=λb z=>absurd (show b∈([]:List Addr) from z) (by simp)
 refine⟨⟨e0.mod,S.kind,rfl,rfl,Z0 _,λy z c h1 h2=>?_,λy hy=>?_,λy c _ h=>?_,λ_=>hd,Around.frames_deeper e0.frames,.inr ⟨rfl,rfl⟩,λb z=>absurd z (qc b),e0.bs,e0.gJ,λb _ _=>qc b,λb z=>absurd z (qc b),e0.fT,e0.ju⟩,
  rfl,e0.bare,Un.kept hk,⟨_,x.toInCall.ns,λi y v h1 h2 h3=>?_⟩,λy c h=>⟨_,x.cell y c h⟩,e0.am.fresh (Z0 _),λy c h=>?_,λp hp=>absurd (show p∈([]:List (Addr×Obj)) from hp) (by simp),e0.am.kept hk,?_⟩
 ·exact name_of_addr x.apart (PySem.mem_of_lookup h1) (PySem.mem_of_lookup h2)
 ·have hy:scope.names.lookup y=some .cell\/scope.names.lookup y=some .free:=hy
  rcases hy with hy | hy
  ·exact Ew hy
  ·exact absurd rfl (S.Nn _ (PySem.mem_of_lookup hy))
 ·exact a1O (x.above y c (PySem.mem_of_lookup h))
 ·have hi:i<vs.length:=by
   unfold start at h2
   by_cases hi:i<vs.length
   ·exact hi
   ·rw[a0q (by simpa using hi)] at h2
    rw[a1Z] at h2
    split at h2 <;> cases h2
  have ha:vs[i]?=some v:=by
   unfold start at h2
   rw[a0i (by simpa using hi),Z2] at h2
   cases e:vs[i]? with
   | none=>rw[e] at h2;cases h2
   | some a=>rw[e] at h2;cases h2;rfl
  obtain⟨u,hu,rv⟩:=r.get ha
  have hp:ps[i]?=some y:=by
   rw[<-S.pre,List.getElem?_take_of_lt (by omega)];exact h1
  have Ex:ps.Nodup:=by rw[<-S.pre];exact S.nd.sublist (List.take_sublist _ _)
  refine⟨u,rv,?_⟩
  rcases S.par y (Z1 hp) with k | k
  ·exact .inl ⟨k,Eu Ex hp hu k⟩
  ·obtain⟨c,e⟩:=Ew (n:=s.heap.objs.size+1) k
   refine .inr ⟨.inl k,c,e,?_⟩
   have q:=x.cell y c e
   rw[Ev Ex hp hu (by show scope.names.lookup y≠_;rw[k];decide)] at q
   exact q
 ·exact e0.am.fresh (a1O (x.above y c (PySem.mem_of_lookup h)))
 ·unfold start
  show _=N.length
  rw[a0j,ZW,a2i]
  omega
theorem Ey{CX:fY}{P:Program}{w:World}{K:PySem.W.Frag}{mg:Str->Option Value}{base:Heap}{k:Nat}{f:Addr}{name qual:Str}{params:Arguments}{body:List Stmt}{scope:Scope}{dV kV bq pm ae ct oc:Value}{an od:Option Addr}
  {cH:Array (Option Value)} {N ps:List Str} {sp:Sp} (lk:K.lookup f=some ⟨oc,od,.func (PySem.W.fnOf name qual params body scope dV kV bq pm an ae ct),cH⟩) (gj:PySem.W.codeIn K ae qual=true) (S:aQ N ps scope)
  (len:∀vs H Q E,sp vs H Q E->vs.length=ps.length)
  (qd:∀(A:Around) (outer:List Env) (s:Shared) (H:Hp) (vs:List V) (Q:VK) (E:XK),aM k (A.deeper (envOfC qual scope s.heap.objs.size f ae))->sp vs H Q E->
   ∃t,cN (bQ CX P w K mg base N qual scope f ae A outer s H E) body t/\t {nx:=λ_ H'=>Q .aw H',rt:=Q} (start N vs) H) :
  ax P w K mg base CX (k+1) f (PySem.W.fnOf name qual params body scope dV kV bq pm an ae ct) ps sp:=by
 refine⟨len,λA outer s H args us vs Q E hr e0 hb r iT=>?_⟩
 have hl:=len _ _ _ _ iT
 have KX:K.In s.heap:=e0.mod.lC.keeps λb o e=>(e0.bs b o e).1
 have Np:s.heap.NoLimit:=e0.mod.nolimit.keeps λb o e=>(e0.bs b o e).1
 have Nq:∀y∈ps.zip us,scope.names.lookup y.1=some .local\/(scope.names.lookup y.1=some .cell/\((cellsFrom (s.heap.objs.size+1) scope.names []).lookup y.1).isSome=true):=λ⟨n,v⟩ hy=>by
  rcases S.par n (a2O hy).1 with q | q
  ·exact .inl q
  ·exact .inr ⟨q,PySem.W.cellsFrom_some _ _ _ (.inl q)⟩
 refine codeAny_call_function hr.depth (KX _ _ lk) rfl S.co S.gen rfl (PySem.W.codeRec_of KX gj) (hb _ _ _ _ ?_)
 refine wpAny_newFunctionEnv_cells S.kind Nq λenv he s1 x=>?_
 subst he
 refine⟨Np.keeps x.toInCall.keep,codeAny_func ?_⟩
 obtain⟨t,ht,hq⟩:=qd A outer s H vs Q E (hr.deeper _) iT
 have I:Inv (bQ CX P w K mg base N qual scope f ae A outer s H E) [] (start N vs) H s1:=No S hr.hd e0 hl r x
 refine wpAny_mono (ht [] s1 (start N vs) H _ I hq) (λfl s' hs=>?_) λe s' hs=>hs
 have fin:∀ {az:St} {H':Hp} {v:V} {u:Value},Inv (bQ CX P w K mg base N qual scope f ae A outer s H E) [] az H' s'->RelV v u->Q v H'->CE outer P w H s Q u s' :=
  λ{az H' v u} J rv q=>⟨v,H',J.os,J.bare,J.base,J.am,rv,q⟩
 cases fl with
 | ret u =>
  obtain⟨v,az,H',J,rv,q⟩:=hs
  exact fin J rv q
 | next =>
  obtain⟨az,H',J,q⟩:=hs
  exact fin (v:=V.aw) (u:=Value.none) J rfl q
 | brk =>
  obtain⟨_,_,_,q⟩:=hs
  exact False.elim q
 | cont =>
  obtain⟨_,_,_,q⟩:=hs
  exact False.elim q
section
variable{X:Cx}{x:Str}{p pos:Pos}{e:Expr}{es:List Expr}{t:TA}{id T:String}{r:List V->Hp->VK->Prop}
def xD(r:List V->Hp->VK->Prop)(t:TA):TE:=fun σ H Q=>t σ H λvs H1=>r vs H1 Q
theorem r_(hc:dm X (.builtin id) r)(hg:Gl X x)(hm:X.mg x=none)(hv:bootBuiltins x=some (.builtin id))(ha:PA X (e::es) t)(hn:x≠"__name__":=by decide)(dL:(x==("__debug__":Str))=false:=by decide)
  (he:starEach (e::es) X.env=(false,eval e X.env)::starEach es X.env:=by rfl) (hpl:(backTo pos (starEach es X.env)).any (·.1)=false:=by rfl):PE X (.Call (.Name x p) (e::es) [] pos) (xD r t):=by
 intro aa s σ H Q I h
 refine wpAny_Call_Name_kw (iO I hg hm hv ?_ hn dL)
 exact PyProof.Rows.callWith_builtin1 (au (ha pos aa s σ H _ I h) λus s1 ⟨vs,H1,I1,r1,q1⟩=>hc aa s1 σ H1 vs us Q I1 r1 q1) he hpl
theorem lS(hc:dm X (.type T) r)(hg:Gl X x)(hm:X.mg x=none)(hv:bootBuiltins x=some (.type T))(ha:PA X (e::es) t)(hn:x≠"__name__":=by decide)(dL:(x==("__debug__":Str))=false:=by decide)
  (he:starEach (e::es) X.env=(false,eval e X.env)::starEach es X.env:=by rfl) (hpl:(backTo pos (starEach es X.env)).any (·.1)=false:=by rfl):PE X (.Call (.Name x p) (e::es) [] pos) (xD r t):=by
 intro aa s σ H Q I h
 refine wpAny_Call_Name_kw (iO I hg hm hv ?_ hn dL)
 exact PyProof.Rows.callWith_type1 (au (ha pos aa s σ H _ I h) λus s1 ⟨vs,H1,I1,r1,q1⟩=>hc aa s1 σ H1 vs us Q I1 r1 q1) he hpl
end
end L2
namespace HT
open PySem PyProof.Rows
section
open PySem.SeqAt
open PySem.AutoSeq1 (wpAny_loadPart')
open PySem.MeetsSeq PySem.MeetsSeq2 PySem.MeetsSeq3
end
section
variable{prog:Program}{w:World}{A:Around}{E:Value->Shared->Prop}{s:Shared}
def dh(n d:Nat):Option Int->Nat
 | none=>d
 | some v=>if v<0 then (v+(n:Int)).toNat else min v.toNat n
theorem sO(n d:Nat):dh n d none=d:=rfl
theorem qe(n d k:Nat):dh n d (some (k:Int))=min k n:=by
 show(if (k:Int)<0 then ((k:Int)+(n:Int)).toNat else min (k:Int).toNat n)=min k n
 rw[if_neg (by omega),Int.toNat_natCast]
end
end HT
namespace L2
open PySem PySem.Spec PyProof.Rows
abbrev TO:=St->Hp->(Option Int->Hp->Prop)->Prop
def PO(X:Cx)(e:Option Expr)(t:TO):Prop :=
 ∀(aa:List (Addr×Obj)) (s:Shared) (σ:St) (H:Hp) (Q:Option Int->Hp->Prop),Inv X aa σ H s->t σ H Q->
  wpAny (model X.prog X.w) X.A (evalPart e X.env) (λu s'=>∃o H',Inv X aa σ H' s'/\IsPart u o/\Q o H') X.xe s
def Nr:TO:=λ_ H Q=>Q none H
def Nt(t:TE):TO:=fun σ H Q=>t σ H λx H1=>∃i,x=.int i/\Q (some i) H1
section
variable{X:Cx}{e:Expr}{te:TE}{lo hi:Option Expr}{tl th:TO}{pos p2:Pos}
theorem nZ:PO X none Nr:=by
 intro aa s σ H Q I h
 rw[evalPart_none]
 exact wpAny_pure ⟨none,H,I,.none,h⟩
theorem gQ(h:PE X e te):PO X (some e) (Nt te):=by
 intro aa s σ H Q I hw
 rw[evalPart_some]
 refine au (h aa s σ H _ I hw) λu s1 ⟨x,H1,I1,r1,q1⟩=>?_
 obtain⟨i,rfl,q⟩:=q1
 obtain⟨t,rfl⟩:=r1
 exact⟨some i,H1,I1,.int i t,q⟩
def xE(X:Cx)(r:V->Option Int->Option Int->Hp->VK->Prop):Prop :=
 ∀(aa:List (Addr×Obj)) (s:Shared) (σ:St) (H:Hp) (x:V) (v vl vu:Value) (lo hi:Option Int) (sl:Addr) (Q:VK),Inv X aa σ H s->RelV x v->s.heap.IsSliceOf sl vl vu .none->IsPart vl lo->IsPart vu hi->r x lo hi H Q->
  ∃T id,typeLookup (.type T) "__getitem__"=pure (some (.builtin id))/\s.TypeIs v T/\wpAny (model X.prog X.w) X.A (getItem v (.ref sl)) (EP X aa σ Q) X.xe s
def Nu(r:V->Option Int->Option Int->Hp->VK->Prop)(te:TE)(tl th:TO):TE:=fun σ H Q=>te σ H λx H1=>tl σ H1 λl H2=>th σ H2 λu H3=>r x l u H3 Q
theorem kj{r:V->Option Int->Option Int->Hp->VK->Prop}(hr:xE X r)(he:PE X e te)(hl:PO X lo tl)(hu:PO X hi th):PE X (.Subscript e (.Slice lo hi none p2) pos) (Nu r te tl th):=by
 intro aa s σ H Q I h
 refine Subscript_ (au (he aa s σ H _ I h) λv s1 ⟨x,H1,I1,r1,q1⟩=>?_)
 refine wpAny_Slice (au (hl aa s1 σ H1 _ I1 q1) λvl s2 ⟨l,H2,I2,pl,q2⟩=>au (hu aa s2 σ H2 _ I2 q2) λvu s3 ⟨u,H3,I3,pu,q3⟩=>?_)
 rw[evalPart_none]
 refine wpAny_pure ?_
 have I4:Inv X aa σ H3 {s3 with heap:=s3.heap.push {cls:=.type "slice",data:=.fields #[vl,vu,.none]}}:=I3.kept (t':=s3.toks) λb ob q=>ZV _ q
 obtain⟨T,id,hT,ht,hg⟩:=hr aa {s3 with heap:=s3.heap.push {cls:=.type "slice",data:=.fields #[vl,vu,.none]}} σ H3 x v vl vu l u s3.heap.objs.size Q I4 r1 (Heap.IsSliceOf.new ..) pl pu q3
 show wpAny (model X.prog X.w) X.A (subscriptTail e (.Slice lo hi none p2) v (.ref s3.heap.objs.size)) (EP X aa σ Q) X.xe {s3 with heap:=s3.heap.push {cls:=.type "slice",data:=.fields #[vl,vu,.none]}}
 exact tail_any (ops:=[.ref s3.heap.objs.size,v]) ht hT hg (by with_unfolding_all rfl)
def cU(xs:List V)(lo hi:Option Int):List V:=(xs.drop (HT.dh xs.length 0 lo)).take (HT.dh xs.length xs.length hi-HT.dh xs.length 0 lo)
theorem Nv(xs:List V)(lo hi:Option Int):(cU xs lo hi).length<=xs.length:=by
 unfold cU
 rw[a0g,a0B]
 omega
end
def im(n:Nat)(i:Int):Option Nat:=if 0<=i then (if i<n then some i.toNat else none) else if -(n:Int)<=i then some (i+n).toNat else none
def dQ{α:Type}(xs:List α)(i:Int):Option α:=(im xs.length i).bind λj=>xs[j]?
theorem Ez{n:Nat}{i:Int}{j:Nat}(h:im n i=some j):seqIndex? i n=some j/\j<n/\-(n:Int)<=i/\i<n:=by
 unfold im at h
 by_cases h0:0<=i
 ·rw[if_pos h0] at h
  by_cases h1:i<n
  ·rw[if_pos h1] at h
   have e:i.toNat=j:=Z6 h
   exact⟨by rw[seqIndex_of h0 h1,e],by omega,by omega,h1⟩
  ·rw[if_neg h1] at h;cases h
 ·rw[if_neg h0] at h
  by_cases h1 : -(n:Int)<=i
  ·rw[if_pos h1] at h
   have e:(i+n).toNat=j:=Z6 h
   exact⟨by rw[seqIndex_neg (by omega) h1,e],by omega,h1,by omega⟩
  ·rw[if_neg h1] at h;cases h
theorem EA{α:Type}{xs:List α}{i:Int}{v:α}(h:dQ xs i=some v):∃j,seqIndex? i xs.length=some j/\xs[j]?=some v/\j<xs.length/\-(xs.length:Int)<=i/\i<xs.length:=by
 unfold dQ at h
 cases e:im xs.length i with
 | none=>rw[e] at h;cases h
 | some j =>
  rw[e] at h
  obtain⟨h1,h2,h3,h4⟩:=Ez e
  exact⟨j,h1,h,h2,h3,h4⟩
theorem km{α:Type}{xs:List α}{j:Nat}{v:α}(h:xs[j]?=some v):dQ xs (j:Int)=some v:=by
 have hj:j<xs.length:=(ZX.mp h).1
 have e:im xs.length (j:Int)=some j:=by
  unfold im
  rw[if_pos (by omega),if_pos (by omega)];simp
 unfold dQ;rw[e];exact h
theorem xF{α:Type}(xs:List α)(v:α):dQ (xs++[v]) (-1)=some v:=by
 have hl:(xs++[v]).length=xs.length+1:=by simp
 have e:im (xs++[v]).length (-1)=some xs.length:=by
  unfold im
  rw[hl,if_neg (by decide),if_pos (by omega)]
  congr 1
  omega
 unfold dQ
 rw[e]
 show(xs++[v])[xs.length]?=some v
 simp
def oa(b:Expr):Prop:=∀o i,subscripted b false o i=operate [o,i] (getItem o i)
def xG(X:Cx)(r:R2):Prop :=
 ∀(value jz:Expr) (aa:List (Addr×Obj)) (s:Shared) (σ:St) (H:Hp) (x y:V) (v u:Value) (Q:VK),Inv X aa σ H s->RelV x v->RelV y u->r x y H Q->
  subscripted jz false v u=operate [v,u] (getItem v u)->wpAny (model X.prog X.w) X.A (subscriptTail value jz v u) (EP X aa σ Q) X.xe s
def EB(X:Cx)(id:String)(r:V->List V->Hp->VK->Prop):Prop :=
 ∀(aa:List (Addr×Obj)) (s:Shared) (σ:St) (H:Hp) (x:V) (xs:List V) (v:Value) (us:List Value) (Q:VK),Inv X aa σ H s->RelV x v->aB xs us->r x xs H Q->
  wpAny (model X.prog X.w) X.A (call (.builtin id) (v::us)) (EP X aa σ Q) X.xe s
section
variable{X:Cx}{a b:Expr}{ta tb:TE}{pos:Pos}
theorem EC{r:R2}(hr:xG X r)(ha:PE X a ta)(hb:PE X b tb)(hs:oa b):PE X (.Subscript a b pos) (kg r ta tb):=by
 intro aa s σ H Q I h
 exact Subscript_ (xu ha hb I h λv u s2 x y H2 I2 rx ry q=>hr a b aa s2 σ H2 x y v u Q I2 rx ry q (hs _ _))
def sP(K:PySem.W.Frag):R2:=λx y H Q=>∃p xs i v,x=.ref p/\y=.int i/\af K H p xs/\dQ xs i=some v/\Q v H
def sQ(K:PySem.W.Frag):R2:=λx y H Q=>∃p xs i v,x=.ref p/\y=.int i/\bo K H p xs/\dQ xs i=some v/\Q v H
theorem Nw:xG X (sP X.K):=by
 intro value jz aa s σ H x y v u Q I rx ry h hs
 obtain⟨p,xs,i,z,rfl,rfl,hq,he,q⟩:=h
 cases rx
 obtain⟨t,rfl⟩:=ry
 obtain⟨ad,r,pl,hz⟩:=I.list hq
 obtain⟨j,h1,h2,h3,h4,h5⟩:=EA he
 obtain⟨w,ew,eD⟩:=r.get h2
 have hl:=r.length
 have hn:=sJ
 have fin:EP X aa σ Q w s:=⟨z,H,I,eD,q⟩
 by_cases h0:0<=i
 ·have hj:i.toNat=j:=by
   rw[seqIndex_of h0 h5] at h1
   exact Z6 h1
  exact item_listR pl.isList h0 (by omega) (by rw[hj];simpa using ew) fin hs
 ·have hj:(i+(ad.toArray.size:Int)).toNat=j:=by
   rw[seqIndex_neg (by omega) h4] at h1
   rw[Z4,<-hl]
   exact Z6 h1
  exact subscriptTail_builtinR (x:=w) pl.isList.typeIs slot_list_getitem.lookup
   (wpAny_getItem_list_neg (Q:=λr s'=>r=w/\EP X aa σ Q r s') pl.isList (by omega) (by rw[Z4] <;> omega) (by omega) (by rw[hj];simpa using ew) ⟨rfl,fin⟩) hs
theorem Ny:xG X (sQ X.K):=by
 intro value jz aa s σ H x y v u Q I rx ry h hs
 obtain⟨p,xs,i,z,rfl,rfl,hq,he,q⟩:=h
 cases rx
 obtain⟨t,rfl⟩:=ry
 obtain⟨ad,r,pl,hz⟩:=I.tuple hq
 obtain⟨j,h1,h2,h3,h4,h5⟩:=EA he
 obtain⟨w,ew,eD⟩:=r.get h2
 have hl:=r.length
 have hn:=sJ
 have fin:EP X aa σ Q w s:=⟨z,H,I,eD,q⟩
 exact subscriptTail_builtinR (x:=w) pl.typeIs slot_tuple_getitem.lookup
  (getItem_tuple (j:=j) (Q:=λr s'=>r=w/\EP X aa σ Q r s') pl (by omega) (by omega) (by rw[Z4,<-hl];exact h1) (by simpa using ew) ⟨rfl,fin⟩) hs
theorem Nz(ad:List Value)(n j:Nat)(u:Value):Obj.mapSeq (·.setIfInBounds j u) {cls:=.type "list",data:=.seq ad.toArray n}={cls:=.type "list",data:=.seq (ad.set j u).toArray n}:=by
 simp[Obj.mapSeq]
theorem Inv.lst{aa:List (Addr×Obj)}{σ:St}{H:Hp}{s:Shared}{p:Addr}{xs:List V}(I:Inv X aa σ H s)(h:H p=some (.lst xs)) :
  ∃(ad:List Value) (n:Nat),aB xs ad/\s.heap.get? p=some {cls:=.type "list",data:=.seq ad.toArray n}/\xs.length<=sizeLine:=by
 obtain⟨z,ad,n,r,e⟩:=I.am p _ h
 exact⟨ad,n,r,e,z⟩
theorem Inv.NA{aa:List (Addr×Obj)}{σ:St}{H:Hp}{s:Shared}{p:Addr}{xs ys:List V}{ad its':List Value}{n n':Nat}{f:Obj->Obj}(I:Inv X aa σ H s)(h:H p=some (.lst xs))
  (ho:s.heap.get? p=some {cls:=.type "list",data:=.seq ad.toArray n}) (hf:f {cls:=.type "list",data:=.seq ad.toArray n}={cls:=.type "list",data:=.seq its'.toArray n'}) (r:aB ys its') (hz:ys.length<=sizeLine) (t:Nat) :
  Inv X aa σ (upd H p (.lst ys)) {s with heap:=s.heap.update p f,toks:=t}:=by
 have e:(s.heap.update p f).get? p=some {cls:=.type "list",data:=.seq its'.toArray n'}:=by
  rw[a1x f ho (by rw[hf] <;> rfl),hf]
 refine I.write (x:=p) (e:=p) (by rw[h];trivial) (.inl rfl) (λb u hb q=>(a0z _ _ (Ne.symm hb)).trans q) ⟨_,e⟩ ?_
 exact⟨hz,its',n',r,e⟩
def NB:V->V->V->Hp->(Hp->Prop)->Prop:=λo i v H Q=>∃p xs k j,o=.ref p/\i=.int k/\H p=some (.lst xs)/\im xs.length k=some j/\Q (upd H p (.lst (xs.set j v)))
theorem xI:DI X NB:=by
 intro aa s σ H o i v ov iv u Q I ro ri rv h
 obtain⟨p,xs,k,j,rfl,rfl,hp,hj,q⟩:=h
 cases ro
 obtain⟨t,rfl⟩:=ri
 obtain⟨ad,n,r,ho,hz⟩:=I.lst hp
 obtain⟨h1,h2,h3,h4⟩:=Ez hj
 have hl:=r.length
 have hn:=sJ
 have I':Inv X aa σ (upd H p (.lst (xs.set j v))) {s with heap:=s.heap.update p (Obj.mapSeq (·.setIfInBounds j u))} :=
  I.NA hp ho (Nz ad n j u) (r.set rv j) (by rw[a2q];exact hz) s.toks
 by_cases h0:0<=k
 ·have hk:k.toNat=j:=by
   rw[seqIndex_of h0 h4] at h1
   exact Z6 h1
  exact PySem.W.ki_setAt ho h0 (by omega) (by rw[Z4,<-hl];exact h4) (by rw[hk];exact⟨_,I',q⟩)
 ·have hk:(k+(ad.toArray.size:Int)).toNat=j:=by
   rw[seqIndex_neg (by omega) h3] at h1
   rw[Z4,<-hl]
   exact Z6 h1
  exact PySem.W.ki_setBack ho (by omega) (by rw[Z4,<-hl];exact h3) (by omega) (by rw[hk];exact⟨_,I',q⟩)
theorem NC(lo hi:Option Int)(n:Nat):(sliceBounds lo hi none n).1=((HT.dh n 0 lo:Nat):Int)/\(sliceBounds lo hi none n).2.1=((HT.dh n n hi:Nat):Int)/\(sliceBounds lo hi none n).2.2=1:=by
 refine⟨?_,?_,rfl⟩
 ·cases lo with
  | none=>simp[sliceBounds,HT.dh]
  | some i =>
   simp only[sliceBounds,HT.dh,Option.getD_none,show(1:Int)>0 by decide,if_true]
   by_cases h:i<0
   ·simp only[h,if_true] <;> omega
   ·simp only[h,if_false] <;> omega
 ·cases hi with
  | none=>simp[sliceBounds,HT.dh]
  | some i =>
   simp only[sliceBounds,HT.dh,Option.getD_none,show(1:Int)>0 by decide,if_true]
   by_cases h:i<0
   ·simp only[h,if_true] <;> omega
   ·simp only[h,if_false] <;> omega
theorem ND(ad:List Value)(lo hi:Option Int):slicePick ad.toArray lo hi none=((ad.drop (HT.dh ad.length 0 lo)).take (HT.dh ad.length ad.length hi-HT.dh ad.length 0 lo)).toArray:=by
 obtain⟨h1,h2,h3⟩:=NC lo hi ad.toArray.size
 unfold slicePick
 rw[h1,h2,h3]
 simp only[sliceRange_one,pick_run,Z4] <;> rfl
def ED(K:PySem.W.Frag):V->Option Int->Option Int->Hp->VK->Prop:=λx lo hi H Q=>∃a xs,x=.ref a/\af K H a xs/\∀p,H p=none->Q (.ref p) (upd H p (.lst (cU xs lo hi)))
theorem lT:xE X (ED X.K):=by
 intro aa s σ H x v vl vu lo hi sl Q I rx hs pl pu h
 obtain⟨a,xs,rfl,hx,q⟩:=h
 cases rx
 obtain⟨ad,r,ht,hz⟩:=I.list hx
 have b9:=r.length
 refine⟨"list",_,slot_list_getitem.lookup,ht.isList.typeIs,?_⟩
 refine wpAny_getItem_list_slice ht.isList hs pl pu .none (by simp) ?_ (by rw[Z4] <;> omega)
 rw[ND,<-b9]
 refine⟨.ref s.heap.objs.size,_,I.laid (t':=s.toks) (o:=.lst (cU xs lo hi)) (λb ob q=>ZV _ q) (Z0 _) ?_,rfl,q _ (I.am.fresh (Z0 _))⟩
 exact⟨Z9 (Nv xs lo hi) hz,_,0,(r.drop (HT.dh xs.length 0 lo)).take (HT.dh xs.length xs.length hi-HT.dh xs.length 0 lo),Z3 _ rfl⟩
theorem NE:dm X (.builtin "len") (λxs H Q=>∃p ys,xs=[.ref p]/\(af X.K H p ys\/bo X.K H p ys)/\Q (.int ys.length) H):=by
 intro aa s σ H xs us Q I r h
 obtain⟨p,ys,rfl,hq,q⟩:=h
 obtain⟨u,rfl,rx⟩:=vals1 r
 cases rx
 have hn:=sJ
 rcases hq with hq | hq
 ·obtain⟨ad,r',pl,hz⟩:=I.list hq
  have b9:=r'.length
  exact Calls.call_len_list pl.isList (by simp only[Z4] <;> omega) ⟨.int ys.length,H,I.tok _,⟨s.toks+1,by rw[Z4,b9]⟩,q⟩
 ·obtain⟨ad,r',pl,hz⟩:=I.tuple hq
  have b9:=r'.length
  exact len_tuple pl (by simp only[Z4] <;> omega) ⟨.int ys.length,H,I.tok _,⟨s.toks+1,by rw[Z4,b9]⟩,q⟩
theorem sS:dm X (.type "list") (λxs H Q=>∃p ys,xs=[.ref p]/\(af X.K H p ys\/bo X.K H p ys)/\∀l,H l=none->Q (.ref l) (upd H l (.lst ys))):=by
 intro aa s σ H xs us Q I r h
 obtain⟨p,ys,rfl,hq,q⟩:=h
 obtain⟨u,rfl,rx⟩:=vals1 r
 cases rx
 have fin:∀(ad:List Value),aB ys ad->ys.length<=sizeLine->∀(h':Heap) (c':Nat),(∀b o',s.heap.get? b=some o'->h'.get? b=some o')->
   h'.get? s.heap.objs.size=some {cls:=.type "list",dict:=none,data:=.seq ad.toArray c',slots:=#[]}->EP X aa σ Q (.ref s.heap.objs.size) {s with heap:=h'}:=λad r' hz h' c' kp e =>
  ⟨.ref s.heap.objs.size,_,I.laid (t':=s.toks) kp (Z0 _) (show b8 X.prog X.w _ h' _ (.lst ys) from⟨hz,ad,c',r',e⟩),rfl,q _ (I.am.fresh (Z0 _))⟩
 rcases hq with hq | hq
 ·obtain⟨ad,r',pl,hz⟩:=I.list hq
  have b9:=r'.length
  obtain⟨o,ho,hc,n,hd⟩:=pl.isList
  exact call_list_seq p (.inl rfl) ho hc hd (λh' c' kp e=>fin ad r' hz h' c' kp e) (by simp only[Z4] <;> omega)
 ·obtain⟨ad,r',pl,hz⟩:=I.tuple hq
  have b9:=r'.length
  obtain⟨o,ho,hc,n,hd⟩:=pl
  exact call_list_seq p (.inr rfl) ho hc hd (λh' c' kp e=>fin ad r' hz h' c' kp e) (by simp only[Z4] <;> omega)
theorem NG:dm X (.type "tuple") (λxs H Q=>∃p ys,xs=[.ref p]/\((af X.K H p ys/\∀l,H l=none->Q (.ref l) (upd H l (.tup ys)))\/(bo X.K H p ys/\Q (.ref p) H))):=by
 intro aa s σ H xs us Q I r h
 obtain⟨p,ys,rfl,h⟩:=h
 obtain⟨u,rfl,rx⟩:=vals1 r
 cases rx
 rcases h with⟨hq,q⟩ | ⟨hq,q⟩
 ·obtain⟨ad,r',pl,hz⟩:=I.list hq
  have b9:=r'.length
  refine call_tuple_list pl.isList (λh' kp=>?_) (by simp only[Z4] <;> omega)
  have I1:Inv X aa σ H {s with heap:=h'}:=I.kept (t':=s.toks) kp
  have I2:Inv X aa σ (upd H h'.objs.size (.tup ys)) {s with heap:=h'.push {cls:=.type "tuple",data:=.seq ad.toArray}} :=
   I1.laid (t':=s.toks) (λb o e=>ZV _ e) (Z0 _) (show b8 X.prog X.w _ _ _ (.tup ys) from⟨hz,ad,r',IsTup.new _ _⟩)
  exact⟨.ref h'.objs.size,_,I2,rfl,q _ (I1.am.fresh (Z0 _))⟩
 ·obtain⟨ad,r',pl,hz⟩:=I.tuple hq
  exact call_tuple_same pl ⟨.ref p,H,I,rfl,q⟩
def xJ(K:PySem.W.Frag)(T:String)(x:V)(H:Hp):Prop:=match x with
 | .str _=>T="str"
 | .int _=>T="int"
 | .ref p=>(T="list"/\∃xs,af K H p xs)\/(T="tuple"/\∃o,K.lookup p=some o/\o.cls=.type "tuple"/\o.dict=none)\/
   (T="dict"/\((∃kvs,H p=some (.dK kvs))\/∃kvs,H p=some (.dT kvs)))\/(T="set"/\∃S n,H p=some (.set S n))
 | _=>False
theorem EE{aa:List (Addr×Obj)}{σ:St}{H:Hp}{s:Shared}{T:String}{x:V}{v:Value}(I:Inv X aa σ H s)(r:RelV x v)(ty:xJ X.K T x H) :
  s.TypeIs v T/\∀a,v=.ref a->∃ob,s.heap.get? a=some ob/\ob.dict=none:=by
 cases x with
 | str z =>
  obtain⟨t,rfl⟩:=r
  cases (show T="str" from ty)
  exact⟨typeIs_str s z t,λ_ e=>nomatch e⟩
 | int i =>
  obtain⟨t,rfl⟩:=r
  cases (show T="int" from ty)
  exact⟨typeIs_int s i t,λ_ e=>nomatch e⟩
 | ref p =>
  cases r
  rcases ty with⟨rfl,xs,hq⟩ | ⟨rfl,o,hk,hc,hd⟩ | ⟨rfl,hk⟩ | ⟨rfl,S,n,hk⟩
  ·obtain⟨ad,_,pl,_⟩:=I.list hq
   refine⟨pl.isList.typeIs,λa e=>?_⟩
   cases e
   obtain⟨o,n,e,c,hd,_⟩:=pl
   exact⟨o,e,hd⟩
  ·refine⟨⟨o,I.bW p o hk,hc⟩,λa e=>?_⟩
   cases e
   exact⟨o,I.bW _ o hk,hd⟩
  ·have z:∃o,s.heap.get? p=some o/\o.ExactDict:=by
    rcases hk with⟨kvs,hk⟩ | ⟨kvs,hk⟩
    ·obtain⟨_,_,_,_,o,_,_,e,ex,_⟩:=I.am p _ hk
     exact⟨o,e,ex⟩
    ·obtain⟨_,_,_,_,o,_,_,e,ex,_⟩:=I.am p _ hk
     exact⟨o,e,ex⟩
   obtain⟨o,e,ex⟩:=z
   refine⟨⟨o,e,ex.1⟩,λa e2=>?_⟩
   cases e2
   exact⟨o,e,ex.2.1⟩
  ·obtain⟨o,_,_,_,e,ex,_⟩:=I.am p _ hk
   refine⟨⟨o,e,ex.1⟩,λa e2=>?_⟩
   cases e2
   exact⟨o,e,ex.2.1⟩
 | _=>exact False.elim ty
def NH(K:PySem.W.Frag)(T:String)(r:V->List V->Hp->VK->Prop)(to:TE):TE:=fun σ H Q=>to σ H λx H1=>xJ K T x H1/\r x [] H1 Q
def NI(K:PySem.W.Frag)(T:String)(r:V->List V->Hp->VK->Prop)(to:TE)(t:TA):TE:=fun σ H Q=>to σ H λx H1=>xJ K T x H1/\t σ H1 λxs H2=>r x xs H2 Q
variable{o e:Expr}{es:List Expr}{to:TE}{t:TA}{name:Str}{bH cV:Pos}{T id:String}{r:V->List V->Hp->VK->Prop}
theorem NJ(pa:PlainAttrs T)(slot:Slot T name id)(xK:typeOf (.builtin id)=pure (.type "method_descriptor"))(hm:EB X id r)(ho:PE X o to)
  (qf:attributeBase o name X.env (eval o X.env)=eval o X.env:=by rfl) (qg:(bH.endLine==cV.line)=true:=by rfl):PE X (.Call (.Attribute o name bH) [] [] cV) (NH X.K T r to):=by
 intro aa s σ H Q I h
 refine wpAny_Call_method0_late qf qg (au (ho aa s σ H _ I h) λv s1 ⟨x,H1,I1,r1,ty,q1⟩=>?_)
 obtain⟨h1,h2⟩:=EE I1 r1 ty
 exact⟨T,id,pa,slot,xK,h1,h2,Calls.callWith_builtin rfl (PySem.evalArgs_none (hm aa s1 σ H1 x [] v [] Q I1 r1 .nil q1))⟩
theorem kn(pa:PlainAttrs T)(slot:Slot T name id)(xK:typeOf (.builtin id)=pure (.type "method_descriptor"))(hm:EB X id r)(ho:PE X o to)(ha:PA X (e::es) t)
  (qf:attributeBase o name X.env (eval o X.env)=eval o X.env:=by rfl)
  (NK:((backTo cV (starEach (e::es) X.env)).all (λx=>!x.1)&&(backToKw cV (keywordEach [] X.env)).all (λx=>x.1.isSome)
   && decide ((e::es).length+([]:List Keyword).length+(if ([]:List Keyword).isEmpty then 0 else 1)<30))=true:=by rfl)
  (qg:(bH.endLine==cV.line)=true:=by rfl) (hs:starEach (e::es) X.env=(false,eval e X.env)::starEach es X.env:=by rfl) (NL:(backTo cV (starEach es X.env)).any (·.1)=false:=by rfl) :
  PE X (.Call (.Attribute o name bH) (e::es) [] cV) (NI X.K T r to t):=by
 intro aa s σ H Q I h
 refine wpAny_Call_method_late qf NK qg rfl (au (ho aa s σ H _ I h) λv s1 ⟨x,H1,I1,r1,ty,q1⟩=>?_)
 obtain⟨h1,h2⟩:=EE I1 r1 ty
 refine⟨T,id,pa,slot,xK,h1,h2,?_⟩
 have hA:=ha cV aa s1 σ H1 _ I1 q1
 rw[hs] at hA⊢
 refine Calls.callWith_builtin (by show(false || (backTo cV (starEach es X.env)).any (·.1))=false;rw[NL] <;> rfl) (Calls.evalArgs_plain ?_)
 exact au hA λus s2 ⟨vs,H2,I2,r2,q2⟩=>hm aa s2 σ H2 x vs v us Q I2 r1 r2 q2
end
def xL(X:Cx)(id:String)(r:V->List V->Hp->VK->Prop):Prop :=
 ∀(aa:List (Addr×Obj)) (s:Shared) (σ:St) (H:Hp) (x:V) (xs:List V) (v:Value) (us:List Value) (Q:VK),Inv X aa σ H s->RelV x v->aB xs us->r x xs H Q->
  wpAny (model X.prog X.w) X.A (call (.builtin id) (v::us)) (EP X aa σ Q) X.xe s
theorem aB.one:∀ {x:V} {us:List Value},aB [x] us->∃u,us=[u]/\RelV x u
 | _,_,.cons r .nil=>⟨_,rfl,r⟩
theorem aB.two:∀ {x y:V} {us:List Value},aB [x,y] us->∃u v,us=[u,v]/\RelV x u/\RelV y v
 | _,_,_,.cons r (.cons q .nil)=>⟨_,_,rfl,r,q⟩
theorem aB.zero:∀ {us:List Value},aB [] us->us=[]
 | _,.nil=>rfl
theorem aB.dropLast{xs:List V}{us:List Value}(h:aB xs us):aB xs.dropLast us.dropLast:=by
 induction h with
 | nil=>exact .nil
 | cons r t ih =>
  cases t with
  | nil=>exact .nil
  | cons q t'=>exact .cons r ih
theorem aB.reverse{xs:List V}{us:List Value}(h:aB xs us):aB xs.reverse us.reverse:=by
 induction h with
 | nil=>exact .nil
 | cons r t ih=>rw[List.reverse_cons,List.reverse_cons];exact aB.append ih (.cons r .nil)
theorem aB.rep{xs:List V}{us:List Value}(h:aB xs us):∀k:Nat,aB (List.replicate k xs).flatten (List.replicate k us).flatten
 | 0=>.nil
 | k+1=>by
  rw[a0E,a0E,a1l,a1l]
  exact aB.append h (aB.rep h k)
theorem NM{α:Type}(l:List α):l.eraseIdx (l.length-1)=l.dropLast:=by
 induction l with
 | nil=>rfl
 | cons a r ih =>
  cases r with
  | nil=>rfl
  | cons b r =>
   have e:(a::b::r).length-1=((b::r).length-1)+1:=by
    have h1:(a::b::r).length=r.length+2:=rfl
    have h2:(b::r).length=r.length+1:=rfl
    omega
   rw[e,List.eraseIdx_cons_succ,ih]
   all_goals rfl
theorem EF(ad:List Value):∀(k:Nat) (acc:List Value),
  List.foldl (λx1 x2=>x1++x2) acc.toArray (List.replicate k ad.toArray)=(acc++(List.replicate k ad).flatten).toArray
 | 0,acc=>by simp
 | k+1,acc=>by
  have e:acc.toArray++ad.toArray=(acc++ad).toArray:=by simp
  have e2:(acc++ad)++(List.replicate k ad).flatten=acc++(List.replicate (k+1) ad).flatten:=by
   rw[a0E,a1l,a0C]
  rw[<-e2,<-EF ad k (acc++ad),<-e,a0E,a0d]
section
variable{X:Cx}{aa:List (Addr×Obj)}{σ:St}{H:Hp}{s:Shared}{l b:Addr}{xs ys zs:List V}
theorem Inv.xM{ad its':List Value}{n:Nat}{f:Array Value->Array Value}{t':Nat}(I:Inv X aa σ H s)(hH:H l=some (.lst xs))
  (e:s.heap.get? l=some {cls:=.type "list",data:=.seq ad.toArray n}) (hf:f ad.toArray=its'.toArray) (hv:aB ys its') (hz:ys.length<=sizeLine) :
  Inv X aa σ (upd H l (.lst ys)) {s with heap:=s.heap.update l (Obj.mapSeq f),toks:=t'}:=by
 have q:=PySem.IsL.update e f
 rw[hf] at q
 refine I.write (x:=l) (e:=l) (by rw[hH];exact trivial) (.inl rfl) (λb' u hb hu=>(a0z s.heap (Obj.mapSeq f) (Ne.symm hb)).trans hu) ⟨_,q⟩ ?_
 exact⟨hz,its',_,hv,q⟩
theorem Inv.EG{ad:List Value}{t':Nat}(I:Inv X aa σ H s)(hv:aB ys ad)(hz:ys.length<=sizeLine) :
  Inv X aa σ (upd H s.heap.objs.size (.lst ys)) {s with heap:=s.heap.push {cls:=.type "list",data:=.seq ad.toArray},toks:=t'} :=
 I.laid (λ_ _ q=>ZV _ q) (Z0 _) ⟨hz,ad,0,hv,Z3 _ rfl⟩
theorem Inv.fresh(I:Inv X aa σ H s):H s.heap.objs.size=none:=I.am.fresh (Z0 _)
theorem Inv.lU(I:Inv X aa σ H s)(hH:H l=some (.lst xs)):xs.length<=sizeLine/\∃(ad:List Value) (n:Nat),aB xs ad/\xs.length=ad.length/\s.heap.get? l=some {cls:=.type "list",data:=.seq ad.toArray n}:=by
 obtain⟨z,ad,n,r,e⟩:=I.am l _ hH
 exact⟨z,ad,n,r,r.length,e⟩
theorem EH{n:Nat}(h:n<=sizeLine):Builtin.List.listTooLong n=false:=by
 unfold Builtin.List.listTooLong
 exact decide_eq_false (by omega)
end
section
variable{X:Cx}
def NN:V->List V->Hp->VK->Prop:=λx vs H Q=>∃l xs y,x=.ref l/\vs=[y]/\H l=some (.lst xs)/\xs.length<sizeLine/\Q .aw (upd H l (.lst (xs++[y])))
theorem ko:xL X "list.append" NN:=by
 intro aa s σ H x vs v us Q I rx rv h
 obtain⟨l,xs,y,rfl,rfl,hH,hz,q⟩:=h
 cases rx
 obtain⟨u,rfl,ru⟩:=rv.one
 obtain⟨z,ad,n,r,hl,e⟩:=I.lU hH
 refine call_meets F.slot_list_append ⟨_,e,rfl⟩ F.entry_list_append (F.args_list_append_2 _ _) (PySem.list_append l ad.toArray n u (by rw[Z4];omega)) ⟨e,?_⟩
 refine⟨.aw,_,I.xM (its':=ad++[u]) hH e (by simp) (r.append (.cons ru .nil)) ?_,rfl,q⟩
 rw[a0j,a0W]
 omega
def NO:V->List V->Hp->VK->Prop:=λx vs H Q=>∃l b xs zs,x=.ref l/\vs=[.ref b]/\H l=some (.lst xs)/\H b=some (.lst zs)/\xs.length+zs.length<=sizeLine/\Q .aw (upd H l (.lst (xs++zs)))
theorem Y2:xL X "list.extend" NO:=by
 intro aa s σ H x vs v us Q I rx rv h
 obtain⟨l,b,xs,zs,rfl,rfl,hH,hB,hz,q⟩:=h
 cases rx
 obtain⟨u,rfl,ru⟩:=rv.one
 cases ru
 obtain⟨z,ad,n,r,hl,e⟩:=I.lU hH
 obtain⟨z2,kq,n2,r2,bM,e2⟩:=I.lU hB
 have hsz:ad.toArray.size+kq.toArray.size<=sizeLine:=by rw[Z4,Z4];omega
 have xN:¬ (!ad.toArray.isEmpty&&Builtin.List.listTooLong (ad.toArray.size+kq.toArray.size))=true:=by
  rw[EH hsz,a2c]
  exact a0b
 refine call_meets F.slot_list_extend ⟨_,e,rfl⟩ F.entry_list_extend (F.args_list_extend_2 _ _)
  (AutoSeq1.list_extend_list_list_0 l ad.toArray n b kq.toArray n2 xN (by rw[Z4];omega) (by omega)) ⟨e,e2,?_⟩
 refine⟨.aw,_,I.xM (its':=ad++kq) hH e (by simp) (r.append r2) ?_,rfl,q⟩
 rw[a0j]
 omega
def NP:V->List V->Hp->VK->Prop:=λx vs H Q=>∃l xs y,x=.ref l/\vs=[]/\H l=some (.lst xs)/\xs[xs.length-1]?=some y/\Q y (upd H l (.lst xs.dropLast))
theorem NQ:xL X "list.pop" NP:=by
 intro aa s σ H x vs v us Q I rx rv h
 obtain⟨l,xs,y,rfl,rfl,hH,hy,q⟩:=h
 cases rx
 have NS:=rv.zero
 subst NS
 obtain⟨z,ad,n,r,hl,e⟩:=I.lU hH
 obtain⟨u,hu,ru⟩:=r.get hy
 have cz:ad.toArray[ad.toArray.size-1]?=some u:=by
  show ad.toArray[ad.length-1]?=some u
  rw[<-Array.getElem?_toList,<-hl]
  exact hu
 refine call_meets F.slot_list_pop ⟨_,e,rfl⟩ F.entry_list_pop (F.args_list_pop_1 _) (MeetsSeq.list_pop_last l ad.toArray n u cz (by rw[Z4];omega)) ⟨e,?_⟩
 refine⟨y,_,I.xM (its':=ad.dropLast) hH e ?_ r.dropLast ?_,ru,q⟩
 ·show ad.toArray.eraseIdxIfInBounds (ad.toArray.size-1)=ad.dropLast.toArray
  rw[Z4,List.eraseIdxIfInBounds_toArray,NM]
 ·rw[List.length_dropLast]
  omega
def NT:R2:=λx y H Q=>∃l b xs zs,x=.ref l/\y=.ref b/\H l=some (.lst xs)/\H b=some (.lst zs)/\xs.length+zs.length<=sizeLine/\∀p,H p=none->Q (.ref p) (upd H p (.lst (xs++zs)))
theorem io:cu X (binaryOp .Add) NT:=by
 intro aa s σ H x y v u Q I rx ry h
 obtain⟨l,b,xs,zs,rfl,rfl,hH,hB,hz,q⟩:=h
 cases rx
 cases ry
 obtain⟨z,ad,n,r,hl,e⟩:=I.lU hH
 obtain⟨z2,kq,n2,r2,bM,e2⟩:=I.lU hB
 refine PySem.P.add_list e e2 ?_ (by rw[Z4,Z4];omega)
 have ea:ad.toArray++kq.toArray=(ad++kq).toArray:=by simp
 rw[ea]
 exact⟨.ref _,_,I.EG (t':=s.toks) (r.append r2) (by rw[a0j];omega),rfl,q _ I.fresh⟩
def NU:R2:=λx y H Q=>∃l k xs,x=.ref l/\y=.int k/\H l=some (.lst xs)/\-(2 ^ 63)<=k/\k<2 ^ 63/\xs.length*k.toNat<=sizeLine/\
 ∀p,H p=none->Q (.ref p) (upd H p (.lst (List.replicate k.toNat xs).flatten))
theorem sU{α:Type}(xs:List α)(k:Nat):(List.replicate k xs).flatten.length=k*xs.length:=by
 induction k with
 | zero=>simp
 | succ k ih=>rw[a0E,a1l,a0j,ih,Nat.succ_mul,Nat.add_comm]
theorem sV:cu X (binaryOp .Mult) NU:=by
 intro aa s σ H x y v u Q I rx ry h
 obtain⟨l,k,xs,rfl,rfl,hH,h1,h2,hz,q⟩:=h
 cases rx
 obtain⟨t,rfl⟩:=ry
 obtain⟨z,ad,n,r,hl,e⟩:=I.lU hH
 have b9:ad.toArray.size*k.toNat<=sizeLine:=by rw[Z4,<-hl];exact hz
 have NV:¬ ad.toArray.size*k.toNat>(2 ^ 63-1) / 8:=by
  have:(sizeLine:Nat)<=(2 ^ 63-1) / 8:=by decide
  omega
 have NW:¬ (!Builtin.List.listFitsIndex k)=true:=by
  rw[fitsIndex_both h1 h2]
  exact a0b
 have xN:¬ Builtin.List.listTooLong (ad.toArray.size*k.toNat)=true:=by
  rw[EH b9]
  exact a0b
 have kr:List.foldl (λx1 x2=>x1++x2) #[] (List.replicate (if ad.toArray.isEmpty=true then 0 else k.toNat) ad.toArray)=(List.replicate k.toNat ad).flatten.toArray:=by
  have f0:∀m:Nat,List.foldl (λx1 x2=>x1++x2) #[] (List.replicate m ad.toArray)=(List.replicate m ad).flatten.toArray:=λm=>by
   have:=EF ad m []
   rw[List.nil_append] at this
   exact this
  rw[f0]
  cases ad with
  | nil=>simp
  | cons a r'=>rw[if_neg (by simp)]
 refine wpAny_binaryOp_repeat_ref (T:="list") (U:="int") (by decide) ⟨_,e,rfl⟩ (λs'=>typeIs_int s' k t) noFill_list_mul F.fills_int_mul F.slot_int_rmul repeat_list F.slot_int_index.lookup
  (call_meets F.slot_int_rmul (typeIs_int s k t) F.entry_int_rmul (F.args_int_rmul_2 _ _) (int___rmul___int_list k t l ad.toArray n)
   ⟨e,rfl,⟨_,e,rfl⟩,call_meets F.slot_list_mul ⟨_,e,rfl⟩ F.entry_list_mul (F.args_list_mul_2 _ _) (AutoListH.list___mul___list_int_3 l ad.toArray n k t NW NV xN) ⟨e,?_⟩⟩)
 rw[kr]
 exact⟨.ref _,_,I.EG (t':=s.toks) (r.rep k.toNat) (by rw[sU,a0H];exact hz),rfl,q _ I.fresh⟩
end
section
variable{prog:Program}{w:World}{A:Around}{E:Value->Shared->Prop}{s:Shared}
end
section
variable{X:Cx}
end
end L2
namespace Att
open PySem PySem.W PySem.Calls PyProof.Rows
theorem NY{P:Params}{h:Heap}:∀(ns:List Int) (vs:List Value),WellAll P h vs (ns.map WData.int)->IntsAre vs ns:=by
 intro ns
 induction ns with
 | nil =>
  intro vs w
  rw[a2d] at w
  cases w
  exact .nil
 | cons n ns ih =>
  intro vs w
  rw[a0f] at w
  cases w with
  | cons a b =>
   cases a
   exact .cons _ _ (ih _ b)
theorem NZ{l:OpenLaw}{n:Nat}(hn:l.most=some n){P:Params}{h:Heap}{args:List WData}{xO:List Value}
  (sW:l.row.toRowW.claim.pre args=true) (fK:WellAll P h xO args) :
  ∃a vs ns,xO=[Value.ref a]/\args=[WData.list (ns.map WData.int)]/\h.get? a=some {cls:=.type "list",data:=.seq vs.toArray}/\IntsAre vs ns/\ns.length<=n:=by
 have lV:WShape.hasAll [] args [.list .int]=true:=(pre_splitW sW).1
 have hc:l.pre.holds [] {args:=args}=true:=(pre_splitW sW).2
 obtain⟨d,r,rfl,h1,h2⟩:=hasAllW_cons lV
 obtain rfl:=hasAllW_nil h2
 obtain⟨xs,rfl,h3⟩:=hasW_list h1
 obtain⟨ns,rfl⟩:=items_int h3
 have b9:ns.length<=n:=by
  unfold OpenLaw.pre at hc
  have h4:(WTm.not (.lt (.lit (.int (n:Int))) (.len (.arg 0)))).holds [] {args:=[.list (ns.map .int)]}=true:=by
   have h4:=(holds_andW hc).1
   rw[hn] at h4
   exact h4
  have h5:=condW_of h4 (w_not (w_lt w_lit (w_len_list (w_arg rfl))))
  rw[ZW] at h5
  refine Nat.le_of_not_lt λq=>?_
  have q':(n:Int)<((ns.length:Nat):Int):=by omega
  first
   | (rw[decide_eq_true q'] at h5;exact absurd h5 (by decide))
   | (simp at h5;omega)
 cases fK with
 | cons w1 w2 =>
  cases w2
  cases w1 with
  | list ho xP=>exact⟨_,_,ns,rfl,rfl,ho,NY ns _ xP,b9⟩
theorem N0(l:OpenLaw)(args:List WData):l.row.toRowW.claim.post args (.bool true) args=true :=
 postW_of (r:=l.row.toRowW) (X:=(true==true))
  (show WShape.has [] (.bool true) .bool=true by first | rfl | decide | simp[WShape.has,WShape.arms,WShape.armsAll])
  (show(WTm.eq .res (.lit (.bool true))).value [] {args:=args,res:=some (.bool true),after:=args}=some (.bool (true==true)) from w_eq_bool (w_res rfl) w_lit) rfl
theorem N1{l:OpenLaw}{n:Nat}{q:Program}{og:List Str}{XP:(Str->Option Value)->Heap->Prop}{YP:World->Heap->Prop}{d:DefRec}
  (hn:l.most=some n) (qh:d.params.defaults=[])
  (call:∀(w:World) (cy bf:Shared) (mg mb:Str->Option Value) (fa:Addr) (o:Obj) (pm cd bq:Value) (a:Addr) (vs:List Value) (ns:List Int),
   Ground q og [] XP w cy mg mb bf.heap->YP w bf.heap->
   bf.heap.get? fa=some o->o.data=.func (docDef d.name d.params d.body d.scope pm cd bq)->bf.heap.CodeRec cd d.name->mg d.name=some (.ref fa)->
   bf.heap.get? a=some {cls:=.type "list",data:=.seq vs.toArray}->IntsAre vs ns->ns.length<=n->bf.gens=#[]->
   codeAny (model l.prog w) callerA (.call (.ref fa) ⟨[.ref a],[]⟩) (λr s'=>r=.ok (.ret (.bool true))/\OldK bf.heap s'.heap/\s'.os=bf.os/\AllBare s'.gens) bf) :
  WalkO q og XP YP l.row.toRowW d [] (λf vs=>PySem.call f vs):=by
 intro w cy bf mg mb G Y fa o pm cd bq dV kV ho hd gj hD qi hg args xO as sW EI Y3 fK jA
 obtain rfl:dV=.none:=Dflts.none hD qh
 obtain rfl:kV=.none:=Dflts.noKw hD
 obtain⟨a,vs,ns,rfl,rfl,xQ,xR,b9⟩:=NZ hn sW fK
 refine enter_call (codeAny_mono (call w cy bf mg mb fa o pm cd bq a vs ns G Y ho (fd_plain hd) gj qi xQ xR b9 hg) λr s' hq=>?_)
 obtain⟨rfl,h2,h3,h4⟩:=hq
 exact⟨.inl ⟨.bool true,.bool true,[],rfl,λ_=>rfl,.bool true,N0 l _,λ_=>⟨List.Pairwise.nil,λ_ hm=>(nomatch hm)⟩⟩,h2,h3,h4⟩
section
variable{prog:Program}{w:World}{A:Around}{E:Value->Shared->Prop}{s:Shared}{K:Frag}
def Y4(h:Heap)(L d:Addr):List (Addr×Obj):=(List.range h.objs.size).filterMap λa=>if a=L\/a=d then none else (h.get? a).map λo=>(a,o)
end
end Att
namespace L2
open PySem PySem.Spec PyProof.Rows
theorem EJ{vs:List Value}{ns:List Int}(h:IntsAre vs ns):aB (ns.map V.int) vs:=by
 induction h with
 | nil=>exact .nil
 | cons n t _ ih=>exact .cons ⟨t,rfl⟩ ih
def xS(H:Hp):Prop:=∀b,H b=none\/∃o xs,H b=some (.ce o (.lst xs))
theorem N2{P:Program}{w:World}{K:PySem.W.Frag}{mg mb:Str->Option Value}{CX:fY}{k:Nat}{fa a:Addr}{fd:FuncData}{x:Str}{sp:Sp}{bf:Shared}{vs:List Value}{ns:List Int}
  (KX:K.In bf.heap) (gR:bf.heap.Ns mainGlobals mg) (hb:bf.heap.Ns builtinsNs mb) (iU:∀x:Str,x≠"__name__"->mb x=bootBuiltins x) (N3:bf.heap.NoLimit) (hg:bf.gens=#[])
  (ha:bf.heap.get? a=some {cls:=.type "list",data:=.seq vs.toArray}) (hi:IntsAre vs ns) (hl:ns.length<=sizeLine) (hr:aM k callerA)
  (F:∀base:Heap,K.In base->base.Ns mainGlobals mg->ax P w K mg base CX k fa fd [x] sp) (N4:∀(s:Shared) (u:Value),BindsTo s fd ⟨[u],[]⟩ [(x,u)])
  (iT:∀H:Hp,xS H->af K H a (ns.map V.int)->sp [.ref a] H (λv _=>v=.bl true) λ_ _ _=>False)
  (xT:∀H e s',CX [] H bf (λ_ _ _=>False) e s'->False) :
  codeAny (model P w) callerA (.call (.ref fa) ⟨[.ref a],[]⟩) (λr s'=>r=.ok (.ret (.bool true))/\OldK bf.heap s'.heap/\s'.os=bf.os/\AllBare s'.gens) bf:=by
 have rv:=EJ hi
 have N5:=hi.length
 have EK:∀H:Hp,xS H->af K H a (ns.map V.int)->bC P w H bf.heap->(∀b,H b≠none->b=a)->(H a≠none->K.lookup a=none)->
   codeAny (model P w) callerA (.call (.ref fa) ⟨[.ref a],[]⟩) (λr s'=>r=.ok (.ret (.bool true))/\OldK bf.heap s'.heap/\s'.os=bf.os/\AllBare s'.gens) bf:=by
  intro H hO hS am hA hK
  have EL:∀ {b:Addr} {o:Obj},bf.heap.get? b=some o->H b=none->(js bf.heap H).get? b=some o:=λe n=>LU e n
  have qc:∀ {b:Addr} {o:Obj} {es:Array DictEntry} {ep:Nat},bf.heap.get? b=some o->o.data=.dict es ep->H b=none:=λ{b o es ep} e d=>by
   cases q:H b with
   | none=>rfl
   | some u =>
    have e':b=a:=hA b (by rw[q];simp)
    subst e'
    rw[ha] at e;cases e
    have d':Data.seq vs.toArray _=Data.dict es ep:=d
    cases d'
  have sX:∀ {b:Addr} {m:Str->Option Value},bf.heap.Ns b m->(js bf.heap H).Ns b m:=λ{b m} ⟨o,es,ep,e,d,r⟩=>⟨o,es,ep,EL e (qc e d),d,r⟩
  have EM:K.In (js bf.heap H):=λb o e=>EL (KX b o e) (by
   cases q:H b with
   | none=>rfl
   | some u =>
    have e':b=a:=hA b (by rw[q];simp)
    subst e'
    rw[hK (by rw[q];simp)] at e;cases e)
  have hM:Mod K mg (js bf.heap H):=⟨EM,sX gR,⟨mb,sX hb,iU⟩,let ⟨mc,h1,h2⟩:=N3;⟨mc,sX h1,h2⟩⟩
  have e0:lR P w K mg (js bf.heap H) callerA [] bf H:=⟨rfl,hM,λb o e=>LV e,Nat.le_of_eq (LT _ _),trivial,λb hb=>absurd (show b∈([]:List Addr) from hb) (by simp),am,.of_eq hg⟩
  refine codeAny_mono ((F _ EM (sX gR)).run callerA [] bf H ⟨[.ref a],[]⟩ [.ref a] [.ref a] _ _ hr e0 (N4 bf (.ref a)) (.cons rfl .nil) (iT H hO hS)) λr s' h=>?_
  cases r with
  | error e=>exact(xT H e s' h).elim
  | ok fl =>
   cases fl with
   | next=>exact False.elim h
   | brk=>exact False.elim h
   | cont=>exact False.elim h
   | ret u =>
    obtain⟨v,H',os,bare,un,N6,r',q⟩:=h
    have q':v=.bl true:=q
    subst q'
    obtain rfl:u=Value.bool true:=r'
    refine⟨rfl,OldK.of_keep λb o e=>?_,os,bare⟩
    cases q:H b with
    | none=>exact un.keep b o e q (by intro z;exact absurd (show b∈([]:List Addr) from z) (by simp)) (by simp)
    | some u =>
     rcases hO b with z | ⟨ob,xs,z⟩
     ·rw[q] at z;cases z
     ·have z2:=un.d7 b ob _ z
      obtain⟨e1,_⟩:=am b _ z
      obtain⟨e2,_⟩:=N6 b _ z2
      rw[e] at e1;cases e1
      exact e2
 cases hk:K.lookup a with
 | some o =>
  have e:=KX a o hk
  rw[ha] at e
  cases e
  refine EK (λ_=>none) (λ_=>.inl rfl) (.inr ⟨_,vs.toArray,_,hk,rfl,rfl,rfl,by rw[Z4,N5];exact hl,by simpa using rv⟩) (λb u z=>by have z':(none:Option HO)=some u:=z;cases z') (λb z=>absurd rfl z) λz=>absurd rfl z
 | none =>
  refine EK (λb=>if b=a then some (.ce {cls:=.type "list",data:=.seq vs.toArray} (.lst (ns.map V.int))) else none) (λb=>?_) (.inl (.inr ⟨{cls:=.type "list",data:=.seq vs.toArray},if_pos rfl⟩)) (λb u z=>?_) (λb z=>?_) λ_=>hk
  ·by_cases hb:b=a
   ·exact .inr ⟨_,_,if_pos hb⟩
   ·exact .inl (if_neg hb)
  ·by_cases hb:b=a
   ·have z':=(if_pos hb).symm.trans z
    cases z'
    subst hb
    exact⟨ha,by rw[ZW];exact hl,vs,_,rv,ha⟩
   ·have z':=(if_neg hb).symm.trans z
    cases z'
  ·by_cases hb:b=a
   ·exact hb
   ·exact absurd (if_neg hb) z
abbrev Y5{K:PySem.W.Frag}{h:Heap}(_:K.In h):PySem.W.Frag:=K
theorem N7{l:PySem.W.OpenLaw}{n k:Nat}{q:Program}{og:List Str}{XP:(Str->Option Value)->Heap->Prop}{YP:World->Heap->Prop}{d:DefRec}{K:Params->PySem.W.Frag}{CX:World->fY}{sp:World->Sp}{x:Str}
  (hn:l.most=some n) (fJ:n<=sizeLine) (qh:d.params.defaults=[]) (hr:aM k callerA)
  (hY:∀(w:World) (h:Heap),YP w h->(K w.params).In h)
  (F:∀(w:World) (mg:Str->Option Value) (fa:Addr) (h:Heap),(K w.params).In h->h.Ns mainGlobals mg->mg d.name=some (.ref fa)->
   ∃fd:FuncData,(∀(s:Shared) (u:Value),BindsTo s fd ⟨[u],[]⟩ [(x,u)])/\
    ∀base:Heap,(K w.params).In base->base.Ns mainGlobals mg->ax l.prog w (K w.params) mg base (CX w) k fa fd [x] (sp w))
  (iT:∀(w:World) (H:Hp) (a:Addr) (ns:List Int),ns.length<=n->xS H->af (K w.params) H a (ns.map V.int)->sp w [.ref a] H (λv _=>v=.bl true) λ_ _ _=>False)
  (xT:∀(w:World) (H:Hp) (s:Shared) (e:Value) (s':Shared),CX w [] H s (λ_ _ _=>False) e s'->False) :
  PySem.W.WalkO q og XP YP l.row.toRowW d [] (λf vs=>PySem.call f vs):=by
 refine Att.N1 hn qh λw cy bf mg mb fa o pm cd bq a vs ns G Y ho hd gj qi xQ xR b9 hg=>?_
 have KX:=hY w _ Y
 obtain⟨fd,hb,hF⟩:=F w mg fa _ KX G.T.g qi
 exact N2 KX G.T.g G.T.b G.T.builtins G.T.nolimit hg xQ xR (Z9 b9 fJ) hr hF hb (λH hO hS=>iT w H a ns b9 hO hS) λH e s'=>xT w H bf e s'
def lW(s:Stmt)(j:Nat):Stmt:=match s with
 | .ClassDef _ _ _ body _ _ _ _ _ _ _=>body.getD j (.Pass ⟨0,0,0,0⟩)
 | _=>.Pass ⟨0,0,0,0⟩
def fL(s:Stmt):Arguments:=match s with
 | .FunctionDef _ a _ _ _ _ _ _ _ _=>a
 | _=>{posonlyargs:=[],args:=[],vararg:=none,kwonlyargs:=[],kw_defaults:=[],kwarg:=none,defaults:=[]}
def z_(s:Stmt):List Stmt:=match s with
 | .FunctionDef _ _ b _ _ _ _ _ _ _=>b
 | _=>[]
def g_(s:Stmt):Scope:=match s with
 | .FunctionDef _ _ _ _ _ _ sc _ _ _=>sc
 | _=>{kind:=.function,names:=[],isGenerator:=false,isCoroutine:=false}
abbrev aK:fY:=λ_ _ _ _ _ _=>False
abbrev E0:XK:=λ_ _ _=>False
theorem sY{X:Cx}:ki aK X E0:=λ_ _ _ _ _ _ _ h=>h.elim
structure aG(K:PySem.W.Frag)(x qual:Str)(st:Stmt)(f:Addr)(fd:FuncData):Prop where
 ex:∃(oc:Value) (od:Option Addr) (kV bq pm:Value) (an:Option Addr) (ae ct:Value) (cH:Array (Option Value)),
  fd=PySem.W.fnOf x qual (fL st) (z_ st) (g_ st) .none kV bq pm an ae ct/\K.lookup f=some ⟨oc,od,.func fd,cH⟩/\PySem.W.codeIn K ae qual=true
 kp:PySem.W.keepIn K (.ref f)=true
section
variable{P:Program}{w:World}{K:PySem.W.Frag}{mg:Str->Option Value}{base:Heap}
theorem aG.ok{x qual:Str}{st:Stmt}{f:Addr}{fd:FuncData}{N ps:List Str}{k:Nat}{sp:Sp}(F:aG K x qual st f fd)(S:aQ N ps (g_ st))(len:∀vs H Q E,sp vs H Q E->vs.length=ps.length)
  (qd:∀(ae:Value) (A:Around) (outer:List Env) (s:Shared) (H:Hp) (vs:List V) (Q:VK) (E:XK),aM k (A.deeper (envOfC qual (g_ st) s.heap.objs.size f ae))->sp vs H Q E->
   ∃t,cN (bQ aK P w K mg base N qual (g_ st) f ae A outer s H E).gk (z_ st) t/\t {nx:=λ_ H'=>Q .aw H',rt:=Q} (start N vs) H):ax P w K mg base aK (k+1) f fd ps sp:=by
 obtain⟨oc,od,kV,bq,pm,an,ae,ct,cH,rfl,lk,gj⟩:=F.ex
 refine Ey lk gj S len λA outer s H vs Q E hr iT=>?_
 obtain⟨t,h,q⟩:=qd ae A outer s H vs Q E hr iT
 exact⟨t,h.gk,q⟩
theorem aG.binds{x qual:Str}{st:Stmt}{f:Addr}{fd:FuncData}{ps:List Str}(F:aG K x qual st f fd)
  (h:∀(kV bq pm:Value) (an:Option Addr) (ae ct:Value) (us:List Value),us.length=ps.length->bindArgs (PySem.W.fnOf x qual (fL st) (z_ st) (g_ st) .none kV bq pm an ae ct) ⟨us,[]⟩=pure (ps.zip us)):Binds K fd ps []:=by
 obtain⟨oc,od,kV,bq,pm,an,ae,ct,cH,rfl,lk,gj⟩:=F.ex
 exact .all (h kV bq pm an ae ct)
theorem lX{x qual:Str}{st:Stmt}{f:Addr}{oc:Value}{od an:Option Addr}{cH:Array (Option Value)}{kV bq pm ae ct:Value}(l:K.lookup f=some ⟨oc,od,.func (PySem.W.fnOf x qual (fL st) (z_ st) (g_ st) .none kV bq pm an ae ct),cH⟩)
  (c:PySem.W.codeIn K ae qual=true) (k:PySem.W.keepIn K (.ref f)=true):aG K x qual st f (PySem.W.fnOf x qual (fL st) (z_ st) (g_ st) .none kV bq pm an ae ct):=⟨⟨oc,od,kV,bq,pm,an,ae,ct,cH,rfl,l,c⟩,k⟩
end
theorem oh{A:Around}{k:Nat}(hr:aM k A):A.units+1<cLine:=a1v (Nat.add_le_add_left (by decide:1<=64) _) hr.units
section
variable{X:Cx}
theorem pv(i:Nat){x:Str}{pos:Pos}(hN:X.N[i]?=some x:=by rfl)(hv:nL X.env.scope x:=by first | exact Or.inl rfl | exact Or.inr (Or.inl rfl) | exact Or.inr (Or.inr rfl))(hd:(x==("__debug__":Str))=false:=by decide)
  (gj:(x==("__classdict__":Str))=false:=by decide):PE X (.Name x pos) (lJ i):=L4 hN hv hd gj
end
theorem aX{A B:Prop}(h:B):if false=true then A else B:=by
 rw[if_neg a0b]
 exact h
theorem cf{A B:Prop}(h:A):if true=true then A else B:=by
 rw[if_pos rfl]
 exact h
theorem jB{c A B:Prop}[Decidable c](h1:c->A)(h2:¬ c->B):if c then A else B:=by
 by_cases h:c
 ·rw[if_pos h]
  exact h1 h
 ·rw[if_neg h]
  exact h2 h
def ag(H H':Hp):Prop:=∀b o,H b=some o->H' b=some o
theorem ag.refl(H:Hp):ag H H:=λ_ _ h=>h
theorem ag.trans{H H1 H2:Hp}(a:ag H H1)(b:ag H1 H2):ag H H2:=λc o h=>b c o (a c o h)
theorem ag.free{H H':Hp}(e:ag H H'){l:Addr}(h:H' l=Option.none):H l=Option.none:=by
 cases q:H l with
 | none=>rfl
 | some o =>
  rw[e l o q] at h
  cases h
theorem ag.seq{K:PySem.W.Frag}{H H':Hp}{a:Addr}{xs:List V}(e:ag H H')(h:af K H a xs):af K H' a xs:=by
 rcases h with(h | ⟨o,h⟩) | h
 ·exact .inl (.inl (e _ _ h))
 ·exact .inl (.inr ⟨o,e _ _ h⟩)
 ·exact .inr h
end L2
set_option maxHeartbeats 4000000
namespace L2
open PySem PySem.Spec PyProof.Rows
theorem EN{al be:Type}{l:List al}{f:al->be->Sem (ForInStep be)}(R:List al->be->Prop):∀(pre bv:List al) (c:be),l=pre++bv->R pre c->
  (∀pre x post c,l=pre++x::post->R pre c->∃d,f x c=pure (.yield d)/\R (pre++[x]) d)->∃d,forIn bv c f=pure d/\R l d
 | pre,[],c,e,h0,_=>⟨c,rfl,by rw[e,a0F];exact h0⟩
 | pre,x::bv,c,e,h0,h=>by
  obtain⟨d,e1,r1⟩:=h pre x bv c e h0
  obtain⟨d',e2,r2⟩:=EN R (pre++[x]) bv d (by rw[e];simp) r1 h
  exact⟨d',by rw[a2P,e1,pure_bind];exact e2,r2⟩
theorem EO{scope:Scope}{env:Env}(h:∀y,(y,NameKind.free)∈scope.names->∃c,env.cells.lookup y=some c) :
  ∃cl,closureFor scope env=pure cl/\(∀y c,cl.lookup y=some c->env.cells.lookup y=some c)/\∀y,(y,NameKind.free)∈scope.names->∃c,cl.lookup y=some c:=by
 have aP:=EN (l:=scope.names) (be:=List (Str×Addr)) (f:=λx r=>if (x.2==NameKind.free)=true then do let a <-cellOf env x.1;pure (ForInStep.yield ((x.1,a)::r)) else pure (ForInStep.yield r))
  (λpre cs=>(∀y c,cs.lookup y=some c->env.cells.lookup y=some c)/\∀y,(y,NameKind.free)∈pre->∃c,cs.lookup y=some c) [] scope.names [] (by simp)
  ⟨λy c e=>by simp at e,λy hy=>by simp at hy⟩ (by
   rintro pre ⟨n,k⟩ post cs e ⟨r1,r2⟩
   by_cases hk:k=NameKind.free
   ·subst hk
    obtain⟨c,hc⟩:=h n (by rw[e];simp)
    refine⟨(n,c)::cs,?_,λy d q=>?_,λy hy=>?_⟩
    ·have N8:cellOf env n=pure c:=by unfold cellOf;rw[hc]
     simp only[beq_self_eq_true,if_true,N8,pure_bind]
    ·by_cases hy:y=n
     ·subst hy
      rw[a1g,beq_self_eq_true] at q
      cases q;exact hc
     ·have hb:(y==n)=false:=by simpa using hy
      rw[a1g,hb] at q
      exact r1 y d q
    ·by_cases hn:y=n
     ·exact⟨c,by rw[hn,a1g,beq_self_eq_true]⟩
     ·have hb:(y==n)=false:=by simpa using hn
      rw[a1g,hb]
      refine r2 y ?_
      rcases a0s.mp hy with z | z
      ·exact z
      ·simp at z;exact absurd z hn
   ·refine⟨cs,?_,r1,λy hy=>r2 y ?_⟩
    ·have hb:(k==NameKind.free)=false:=by simpa using hk
     simp only[hb,a0O,if_false]
    ·rcases a0s.mp hy with z | z
     ·exact z
     ·simp at z;exact absurd z.2.symm hk)
 obtain⟨cl,e,r⟩:=aP
 refine⟨cl,?_,r⟩
 have e':closureFor scope env=forIn scope.names ([]:List (Str×Addr)) (λx r=>if (x.2==NameKind.free)=true then do let a <-cellOf env x.1;pure (ForInStep.yield ((x.1,a)::r)) else pure (ForInStep.yield r)):=by
  simp only[closureFor,bind_pure]
 rw[e',e]
def Cx.cmp(X:Cx)(N:List Str)(scope:Scope)(cl:List (Str×Addr))(C:Addr)(s:Shared)(H:Hp)(fp:List Addr):Cx where
 prog:=X.prog
 w:=X.w
 K:=X.K
 mg:=X.mg
 base:=X.base
 A:=X.A
 N:=N
 cy:=s
 jt:=H
 env:=compEnvC scope cl C X.env
 outer:=X.stack
 stack:=X.stack
 ex:=fp
 fn:=λ_=>false
 calm:=X.calm
 pn:=[]
 xe:=λ_ _=>False
theorem EQ{names:List (Str×NameKind)}{q:Str->NameKind->Bool}{y:Str}:(names.map λ(n,k)=>if q n k=true then (n,NameKind.cell) else (n,k)).lookup y=(names.lookup y).map λk=>if q y k=true then NameKind.cell else k:=by
 induction names with
 | nil=>rfl
 | cons p r ih =>
  obtain⟨n,k⟩:=p
  rw[a0f]
  by_cases hy:y=n
  ·subst hy
   by_cases hq:q y k=true
   ·simp[a1g,hq]
   ·simp[a1g,hq]
  ·have hb:(y==n)=false:=by simpa using hy
   by_cases hq:q n k=true
   ·simp only[hq,if_true,a1g,hb];exact ih
   ·simp only[hq,a0O,if_false,a1g,hb];exact ih
section
variable{X:Cx}{aa:List (Addr×Obj)}{σ:St}{H:Hp}{s:Shared}{fp:List Addr}{scope:Scope}{cl:List (Str×Addr)}{N:List Str}{C:Addr}
structure oj(X:Cx)(N:List Str)(scope:Scope):Prop where
 kind:scope.kind=.function
 ER:∀y∈scope.names,y.2≠.cell
 loc:∀y∈scope.names,y.2=.local->scope.names.lookup y.1=some .local
 N9:∀y,scope.names.lookup y=some .free->X.env.kindOf y=some .cell
 ES:∀y,(y,NameKind.free)∈scope.names->X.env.kindOf y=some .cell
 nd:N.Nodup
 sZ:∀y,scope.names.lookup y=some .free->(y,NameKind.free)∈scope.names
theorem N'(S:oj X N scope)(I:Inv X aa σ H s)(hf:∀b∈fp,gn X aa H b)(ho:∀b∈fp,∃o,s.heap.get? b=some o)(fM:∀y c,cl.lookup y=some c->X.env.cells.lookup y=some c)
  (iV:∀y,(y,NameKind.free)∈scope.names->∃c,cl.lookup y=some c) (hC:s.heap.objs.size<=C):(X.cmp N scope cl C s H fp).Ok where
 mod:=I.ok.mod
 kind:=S.kind
 glob:=I.ok.glob
 blt:=I.ok.blt
 above:=hC
 inj:=λx y c h1 h2=>I.ok.inj x y c (fM x c h1) (fM y c h2)
 has:=λy hy=>by
  have cz:(relabel scope X.env).names.lookup y=some .cell\/(relabel scope X.env).names.lookup y=some .free:=hy
  have e:(relabel scope X.env).names.lookup y=(scope.names.lookup y).map λk=>if (k==.free&&X.env.scope.kind==.function&&X.env.kindOf y==some .cell)=true then NameKind.cell else k :=
   EQ (q:=λn k=>k==.free&&X.env.scope.kind==.function&&X.env.kindOf n==some .cell)
  rw[e] at cz
  cases q:scope.names.lookup y with
  | none=>rw[q] at cz;simp at cz
  | some k =>
   by_cases hk:k=NameKind.free
   ·subst hk
    exact iV y (S.sZ y q)
   ·exfalso
    have hb:(k==NameKind.free)=false:=by simpa using hk
    rw[q] at cz
    simp only[Option.map_some,hb,a2b,a0O,if_false,Option.some.injEq] at cz
    rcases cz with z | z
    ·exact S.ER _ (PySem.mem_of_lookup q) z
    ·exact hk z
 lD:=λy c h _=>nomatch h
 hd:=I.ok.hd
 frames:=I.ok.frames
 nM:=.inl rfl
 pU:=λb hb=>by
  obtain⟨o,e⟩:=ho b hb
  obtain⟨_,_,_,_,f4,_⟩:=hf b hb
  exact⟨a0c (Z7 (ZY e) hC),λx c q=>f4 x c (fM x c q)⟩
 bs:=I.bs
 gJ:=Z9 I.ok.gJ I.sz
 lE:=λb o e hb=>by
  obtain⟨_,_,_,f3,_,_⟩:=hf b hb
  rcases f3 with z | z
  ·exact I.ok.lE b o e z
  ·exact absurd (Z7 (ZY e) (Z9 I.ok.gJ z)) (a0G _)
 lF:=λb hb z=>by
  obtain⟨_,f1,f2,_⟩:=hf b hb
  rcases ZZ.mp (I.wY b z) with e | e
  ·exact f1 e
  ·exact f2 e
 fT:=I.stack
 ju:=I.jv
def U_(k:Nat)(fr:List Nat)(σ:St):St:=List.replicate k none++fr.map λi=>(σ[i]?).join
structure qj(X:Cx)(N:List Str)(scope:Scope)(k:Nat)(fr:List Nat):Prop where
 len:N.length=k+fr.length
 ku:∀(j i:Nat) (y:Str),fr[j]?=some i->N[k+j]?=some y->X.N[i]?=some y/\scope.names.lookup y=some .free
theorem Oa(S:oj X N scope){k:Nat}{fr:List Nat}(F:qj X N scope k fr)(I:Inv X aa σ H s)(hf:∀b∈fp,gn X aa H b)(ho:∀b∈fp,∃o,s.heap.get? b=some o)
  (fM:∀y c,cl.lookup y=some c->X.env.cells.lookup y=some c) (iV:∀y,(y,NameKind.free)∈scope.names->∃c,cl.lookup y=some c) (hC:s.heap.objs.size<=C)
  {s1:Shared} {m:Str->Option Value} {D:Addr} {oD:Obj} (Ob:s1.os=s.os) (hg:s1.gens=s.gens) (kp:∀b o,s.heap.get? b=some o->s1.heap.get? b=some o) (hn:s1.heap.Ns C m)
  (hD:s1.heap.get? D=some oD) (tf:s.heap.objs.size<=D) (ip:D≠C) (Oc:∀v,oD.data≠.cell v) :
  Inv (X.cmp N scope cl C s H fp) [(D,oD)] (U_ k fr σ) H s1:=by
 have xU:D∉bz X.stack:=λz=>by
  obtain⟨_,o,q,_⟩:=I.stack.mem z
  exact absurd (Z7 (ZY q) tf) (a0G _)
 refine⟨N' S I hf ho fM iV hC,Ob,by rw[hg];exact I.bare,Un.kept kp,⟨m,hn,λi x v e1 e2 e3=>?_⟩,λy c e=>?_,I.am.fresh hC,λy c e=>I.d8 y c (fM y c e),λp hp=>?_,I.am.kept kp,?_⟩
 ·
  unfold U_ at e2
  by_cases hi:i<k
  ·rw[a0i (by simpa using hi),a1Z] at e2
   split at e2 <;> cases e2
  ·obtain⟨j,rfl⟩:∃j,i=k+j:=⟨i-k,by lia⟩
   rw[a0q (by simp),a2i,a1F,Z2] at e2
   cases q:fr[j]? with
   | none=>rw[q] at e2;cases e2
   | some i' =>
    rw[q] at e2
    have tj:(σ[i']?).join=some v:=Z6 e2
    obtain⟨a1,a2⟩:=F.ku j i' x q e1
    have hk:=S.N9 x a2
    obtain⟨m0,Y6,EU⟩:=I.loc
    have hv:σ[i']?=some (some v):=by
     cases z:σ[i']? with
     | none=>rw[z] at tj;cases tj
     | some w=>rw[z] at tj;rw[show w=some v from tj]
    obtain⟨u,r,l⟩:=EU i' x v a1 hv (.inr (.inl hk))
    refine⟨u,r,.inr ⟨.inl ?_,?_⟩⟩
    ·show(relabel scope X.env).names.lookup x=some .cell
     have e:(relabel scope X.env).names.lookup x=(scope.names.lookup x).map λk=>if (k==.free&&X.env.scope.kind==.function&&X.env.kindOf x==some .cell)=true then NameKind.cell else k :=
      EQ (q:=λn k=>k==.free&&X.env.scope.kind==.function&&X.env.kindOf n==some .cell)
     rw[e,a2,hk,I.ok.kind]
     rfl
    ·obtain⟨c,hc⟩:=iV x (S.sZ x a2)
     refine⟨c,hc,?_⟩
     rcases l with⟨z,_⟩ | ⟨_,c',fU,z⟩
     ·rw[hk] at z;cases z
     ·have ec:=fM x c hc
      rw[fU] at ec;cases ec
      obtain⟨o,ho,hd⟩:=z
      exact⟨o,kp _ _ ho,hd⟩
 ·obtain⟨v,o,q,d⟩:=I.cell y c (fM y c e)
  exact⟨v,o,kp _ _ q,d⟩
 ·have lY:p=(D,oD):=by simpa [Cx.cmp] using hp
  subst lY
  exact⟨hD,I.am.fresh tf,ip,xU,Oc⟩
 ·unfold U_
  show _=N.length
  rw[a0j,a2i,ZW,F.len]
abbrev fN(ad:List Value)(n:Nat):Obj:={cls:=.type "list",data:=.seq ad.toArray n}
theorem EV{az:St}{H':Hp}{s':Shared}{D:Addr}{ad:List Value}{n:Nat}{ys:List V}(I:Inv X aa σ H s)(hf:∀b∈fp,gn X aa H b)(J:Inv (X.cmp N scope cl C s H fp) [(D,fN ad n)] az H' s')(r:aB ys ad)
  (hz:ys.length<=sizeLine) (tf:s.heap.objs.size<=D):H' D=none/\Inv X aa σ (upd H' D (.lst ys)) s':=by
 obtain⟨e1,hn,_,_,_⟩:=J.pin (D,fN ad n) (by simp[Cx.cmp])
 have e1:s'.heap.get? D=some (fN ad n):=e1
 have hn:H' D=none:=hn
 have u:=J.base
 have Od:∀b o,s.heap.get? b=some o->b≠D:=λb o q=>a0c (Z7 (ZY q) tf)
 have u':Un (bz X.stack) fp H (upd H' D (.lst ys)) s.heap s'.heap :=
  ⟨u.keep,u.slot,λb o q z hx=>by rw[i_ (Od b o q)];exact u.free b o q z hx,u.there,λb xs q=>by rw[i_ (l_ (u.eQ b xs q) hn)];exact u.eQ b xs q,
   λb o x q=>by rw[i_ (l_ (u.d7 b o x q) hn)];exact u.d7 b o x q,λb ps q=>by
    obtain⟨more,z⟩:=u.fC b ps q
    exact⟨more,by rw[i_ (l_ z hn)];exact z⟩⟩
 have am:bC X.prog X.w (upd H' D (.lst ys)) s'.heap:=λb o q=>by
  by_cases hb:b=D
  ·subst hb
   rw[d_] at q
   cases q
   exact⟨hz,ad,n,r,e1⟩
  ·rw[i_ hb] at q
   exact(J.am b o q).cE (λc v _ z=>z) (λc z=>by rw[i_ (l_ z hn)];exact z) λc xs z=>by rw[i_ (l_ z hn)];exact z
 refine⟨hn,?_⟩
 have os:=J.os
 have bare:=J.bare
 obtain⟨hh,g,d,t,xA⟩:=s'
 obtain rfl:xA=s.os:=os
 exact I.call (h':=hh) (g':=g) (d':=d) (t':=t) (ch:=fp) u' am bare λb hb=>by
  obtain⟨_,f1,_,f3,f4,f5⟩:=hf b hb
  exact⟨f3,f1,f4,f5⟩
end
def PF(X:Cx)(di:List Expr)(t:TT):Prop :=
 ∀(aa:List (Addr×Obj)) (s:Shared) (σ:St) (H:Hp) (Q:Bool->Hp->Prop),Inv X aa σ H s->t σ H Q->
  wpAny (model X.prog X.w) X.A (forIn di true λc r=>if r=true then do let ok <-isTrue c X.env (eval c X.env);pure (ForInStep.yield ok) else pure (ForInStep.yield r)) (TP X aa σ Q) X.xe s
def Oe:TT:=λ_ H Q=>Q true H
theorem fZ{X:Cx}:PF X [] Oe:=λ_ _ _ H _ I h=>wpAny_tests_nil ⟨H,I,h⟩
theorem xV{X:Cx}{c:Expr}{tc:TT}(hc:PT X c tc):PF X [c] tc:=λaa s σ H Q I h=>wpAny_tests_one (hc aa s σ H Q I h)
section
variable{prog:Program}{w:World}{A:Around}
theorem ol{al:Type}{t:Sem al}{Q:al->Shared->Prop}{E:Value->Shared->Prop}{s:Shared}(h:wpAny (model prog w) A t Q (λ_ _=>False) s):wpAny (model prog w) A t Q E s :=
 wpAny_mono h (λ_ _ x=>x) λ_ _ f=>f.elim
theorem Of{R:Result->Shared->Prop}{s:Shared}{dA tg iter:Expr}{di:List Expr}{scope:Scope}{pos:Pos}{it acc:Value}{env:Env}(I:Nat->Shared->Prop)
  (ii:∀n s,I n s->wpAny (model prog w) A (pyNext it) (λr s1=>(r=none/\R (.ok .next) s1)\/∃v,r=some v/\
   wpAny (model prog w) A (letOwnedTupleGo tg it v) (λ_ s2=>wpAny (model prog w) A (assign tg env v) (λ_ s3 =>
    wpAny (model prog w) A (forIn di true λc r=>if r=true then do let ok <-isTrue c env (eval c env);pure (ForInStep.yield ok) else pure (ForInStep.yield r)) (λok s4 =>
     if ok=true then wpAny (model prog w) A (eval dA env) (λx s5 =>
      wpAny (model prog w) A (call (.builtin "list.append") [acc,x]) (λ_ s6=>∃m,m<n/\I m s6) (λ_ _=>False) s5) (λ_ _=>False) s4
     else ∃m,m<n/\I m s4) (λ_ _=>False) s3) (λ_ _=>False) s2) (λ_ _=>False) s1) (λ_ _=>False) s)
  (n:Nat) (h:I n s):codeAny (model prog w) A (.compLoop (.ListComp dA [⟨tg,iter,di,0⟩] scope pos) 0 it acc env) R s:=by
 refine codeAny_loop rfl I (λn s hI=>?_) n h
 show wpAny _ A ((compTurn (.ListComp dA [⟨tg,iter,di,0⟩] scope pos) 0 it acc env).onRaise (λx=>do noteFrame x env;theTreesLotGoes x)) _ _ s
 refine wpAny_noted ?_
 rw[compTurn_list]
 refine wpAny_bind (wpAny_standAt (wpAny_bind (ol (au (ii n s hI) λr s1 h1=>?_))))
 rcases h1 with⟨rfl,h1⟩ | ⟨v,rfl,h1⟩
 ·exact wpAny_pure h1
 ·refine wpAny_bind (ol (au h1 λ_ s2 h2=>wpAny_bind (ol (au h2 λ_ s3 h3=>wpAny_bind (ol (au h3 λok s4 h4=>?_))))))
  cases ok with
  | false=>exact wpAny_pure ⟨rfl,h4⟩
  | true=>exact wpAny_bind (wpAny_bind (ol (au h4 λx s5 h5=>wpAny_bind (ol (au h5 λ_ s6 h6=>wpAny_pure (wpAny_pure ⟨rfl,h6⟩))))))
end
def qk(k:Nat)(g:TG):Prop:=∀v σ H Q,g v σ H Q->g v σ H λcr H2=>(cr.length=σ.length/\∀i,k<=i->cr[i]?=σ[i]?)/\Q cr H2
theorem EW{k i:Nat}(h:i<k):qk k (jw i):=λv σ H Q q=>⟨⟨a2q,λj hj=>a1j (by lia)⟩,q⟩
def tm(k:Nat)(fr:List Nat)(wi:TI)(g:TG)(tc:TT)(te:TE):TE:=fun σ H Q=>wi σ H λJ H1=>∃W:Nat->Nat->List V->Hp->Prop,(∃m,W 0 m [] H1)/\∀i m ys H,W i m ys H->
 (J.stop i H/\∀D,H D=none->Q (.ref D) (upd H D (.lst ys)))\/
 (J.go i H/\ys.length<sizeLine/\∃Nx:List V->Hp->Prop,(∀cJ H',Nx cJ H'->∃m',m'<m/\W (i+1) m' cJ H')/\
  ∀x H',J.gN i H x H'->g x (U_ k fr σ) H' λcr H2=>tc cr H2 λb H3=>if b=true then te cr H3 λy H4=>Nx (ys++[y]) H4 else Nx ys H3)
section
variable{X:Cx}{aa:List (Addr×Obj)}{σ:St}{tg dA iter:Expr}{di:List Expr}{scope:Scope}{pos:Pos}{N:List Str}{k:Nat}{fr:List Nat}{wi:TI}{g:TG}{tc:TT}{te:TE}
theorem EX(S:oj X N scope)(F:qj X N scope k fr)(hc:X.calm=true)
  (hg:∀cl C s H fp,PG (X.cmp N scope cl C s H fp) tg g) (hk:qk k g) (hi:∀cl C s H fp,PF (X.cmp N scope cl C s H fp) di tc) (he:∀cl C s H fp,PE (X.cmp N scope cl C s H fp) dA te)
  {s2:Shared} {it:Addr} {fp:List Addr} {tn:Nat->Heap->Prop} {J:It} {H2:Hp} (I:Inv X aa σ H2 s2) (T:j8 X.prog X.w X.K tg J fp it tn) (st:tn 0 s2.heap) (f2:∀b∈fp,gn X aa H2 b)
  {W:Nat->Nat->List V->Hp->Prop} {m0:Nat} (w0:W 0 m0 [] H2) {Fin:List V->Hp->Prop}
  (ii:∀i m ys H,W i m ys H->(J.stop i H/\Fin ys H)\/
   (J.go i H/\ys.length<sizeLine/\∃Nx:List V->Hp->Prop,(∀cJ H',Nx cJ H'->∃m',m'<m/\W (i+1) m' cJ H')/\
    ∀x H',J.gN i H x H'->g x (U_ k fr σ) H' λcr H2=>tc cr H2 λb H3=>if b=true then te cr H3 λy H4=>Nx (ys++[y]) H4 else Nx ys H3))
  {cl:List (Str×Addr)} (fM:∀y c,cl.lookup y=some c->X.env.cells.lookup y=some c) (iV:∀y,(y,NameKind.free)∈scope.names->∃c,cl.lookup y=some c)
  {RR:Value->Addr->Result->Shared->Prop} {E:Value->Shared->Prop}
  (Og:∀D C s' ad n ys H' az,s2.heap.objs.size<=D->s2.heap.objs.size<=C->D≠C->Inv (X.cmp N scope cl C s2 H2 fp) [(D,fN ad n)] az H' s'->aB ys ad->ys.length<=sizeLine->Fin ys H'->RR (.ref D) C (.ok .next) s') :
  wpAny (model X.prog X.w) X.A (newList []) (λacc s3=>wpAny (model X.prog X.w) X.A (newFunctionEnv scope X.env.globals cl [] X.env.qual none .none (some X.env)) (λEY s4 =>
   codeAny (model X.prog X.w) X.A (.compStart (.ListComp dA [⟨tg,iter,di,0⟩] scope pos) 0 (.ref it) acc {EY with scope:=relabel scope X.env}) (RR acc EY.locals) s4) E s3) E s2:=by
 refine wpAny_newObj_type (wpAny_newFunctionEnv S.ER (by intro y hy;simp at hy) (λh1 gR sb=>?_) S.kind)
 dsimp only at gR sb⊢
 generalize hG:s2.heap.push {cls:=.type "list",dict:=none,data:=.seq ([]:List Value).toArray}=G at gR sb⊢
 have hC:G.objs.size=s2.heap.objs.size+1:=by rw[<-hG,a0x]
 have ip:s2.heap.objs.size≠G.objs.size:=by rw[hC];exact a0c (a0I _)
 have eU:∀b o,s2.heap.get? b=some o->h1.get? b=some o:=λb o e =>
  sb.extBut b o (by rw[hC];exact a0c (a1c (ZY e))) (ZV _ (hG▸ZV _ e))
 have dR:h1.get? s2.heap.objs.size=some (fN [] 0):=sb.extBut _ _ ip (ZV _ (hG▸Z3 _ rfl))
 have EZ:∀b∈fp,∃o,s2.heap.get? b=some o:=λb hb=>let ⟨o,e,_⟩:=T.obj 0 _ st b hb;⟨o,e⟩
 have xW:∀b∈fp,b≠s2.heap.objs.size:=λb hb=>let ⟨o,e⟩:=EZ b hb;a0c (ZY e)
 generalize hX:X.cmp N scope cl G.objs.size s2 H2 fp=X'
 have I0:Inv X' [(s2.heap.objs.size,fN [] 0)] (U_ k fr σ) H2 {s2 with heap:=h1,toks:=s2.toks+([]:List (Str×Value)).length}:=by
  rw[<-hX]
  exact Oa S F I f2 EZ fM iV (by rw[hC];exact a1Y _) rfl rfl eU gR dR (Z0 _) ip λv z=>by cases z
 have eP:X'.prog=X.prog:=by rw[<-hX];rfl
 have eW:X'.w=X.w:=by rw[<-hX];rfl
 have eK:X'.K=X.K:=by rw[<-hX];rfl
 have eA:X'.A=X.A:=by rw[<-hX];rfl
 have eC:X'.calm=true:=by rw[<-hX];exact hc
 have eE:X'.env=compEnvC scope cl G.objs.size X.env:=by rw[<-hX];rfl
 have eX:X'.xe=λ_ _=>False:=by rw[<-hX];rfl
 have eF:X'.ex=fp:=by rw[<-hX];rfl
 have eS:X'.cy=s2:=by rw[<-hX];rfl
 have Fa:X'.pn=[]:=by rw[<-hX];rfl
 have T':j8 X'.prog X'.w X'.K tg J fp it tn:=by rw[eP,eW,eK];exact T
 have om:PG X' tg g:=by rw[<-hX];exact hg _ _ _ _ _
 have dr:PF X' di tc:=by rw[<-hX];exact hi _ _ _ _ _
 have Oh:PE X' dA te:=by rw[<-hX];exact he _ _ _ _ _
 have lK:∀ {o:Obj} {H':Hp},(∀b∈fp,H' b=none)->∀b∈fp,gn X' [(s2.heap.objs.size,o)] H' b:=λ{o H'} hn b hb=>by
  have ok:=I0.ok
  obtain⟨z1,z2⟩:=ok.pU b (by rw[eF];exact hb)
  refine⟨hn b hb,z1,ok.lF b (by rw[eF];exact hb),.inl (by rw[eF];exact hb),z2,λp hp=>?_⟩
  rw[Fa] at hp
  have lY:p=(s2.heap.objs.size,o):=by simpa using hp
  rw[lY]
  exact λz=>xW b hb z.symm
 have Fb:∀ {pl:List (Addr×Obj)} {iQ:St} {H6:Hp} {s6:Shared},Inv X' pl iQ H6 s6->(iQ.length=(U_ k fr σ).length/\∀i,k<=i->iQ[i]?=(U_ k fr σ)[i]?)->Inv X' pl (U_ k fr σ) H6 s6:=λ{pl iQ H6 s6} I6 ⟨l1,l2⟩ =>
  I6.weak l1.symm λi v e=>by
   by_cases Oi:i<k
   ·unfold U_ at e
    rw[a0i (by simpa using Oi),a1Z] at e
    split at e <;> cases e
   ·rw[l2 i (by lia)];exact e
 have loop:codeAny (model X.prog X.w) X.A (.compLoop (.ListComp dA [⟨tg,iter,di,0⟩] scope pos) 0 (.ref it) (.ref s2.heap.objs.size) (compEnvC scope cl G.objs.size X.env))
   (RR (.ref s2.heap.objs.size) G.objs.size) {s2 with heap:=h1,toks:=s2.toks+([]:List (Str×Value)).length}:=by
  rw[<-eP,<-eW,<-eA,<-eE]
  refine Of (λn s'=>∃i ys ad nn H',Inv X' [(s2.heap.objs.size,fN ad nn)] (U_ k fr σ) H' s'/\aB ys ad/\ys.length<=sizeLine/\tn i s'.heap/\(∀b∈fp,H' b=none)/\W i n ys H') ?_ m0
   ⟨0,[],[],0,H2,I0,.nil,a0w _,T.keep _ _ _ st λb _ o e=>eU b o e,λb hb=>(f2 b hb).1,w0⟩
  rintro n s' ⟨i,ys,ad,nn,H',I',rv,hz,ap,Fc,w'⟩
  rcases ii i n ys H' w' with⟨stop,fin⟩ | ⟨go,aT,Nx,hN,step⟩
  ·refine au (T'.done X' rfl rfl rfl eC i _ s' _ H' _ I' (lK Fc) ap stop) λr s1 ⟨hr,I1⟩=>.inl ⟨hr,?_⟩
   rw[<-hX] at I1
   exact Og _ _ s1 ad nn ys H' _ (Z0 _) (by rw[hC];exact a1Y _) ip I1 rv hz fin
  ·refine au (T'.item X' rfl rfl rfl eC i _ s' _ H' _ I' (lK Fc) ap go) λr s1 ⟨u,hr,h4⟩=>.inr ⟨u,hr,au h4 λ_ s5 ⟨x,H5,I5,r5,y5,lL,xo⟩=>?_⟩
   have xq:=I5.pinned (lK xo) (T.obj _ _ lL)
   have Fd:=om _ s5 _ H5 x u _ xq r5 (hk _ _ _ _ (step x H5 y5))
   rw[eX] at Fd
   refine au Fd λ_ s6 ⟨iQ,H6,I6,l6,q6⟩=>?_
   have Fe:=dr _ s6 iQ H6 _ I6 q6
   rw[eX] at Fe
   have Oj:∀ {dI:St} {H7:Hp} {s7:Shared},Inv X' ([(s2.heap.objs.size,fN ad nn)]++ke fp s5.heap) dI H7 s7->s7.heap.get? s2.heap.objs.size=some (fN ad nn)/\H7 s2.heap.objs.size=none/\s2.heap.objs.size≠X'.env.locals:=λI7=>by
    obtain⟨z1,z2,z3,_⟩:=I7.pin (s2.heap.objs.size,fN ad nn) (a0m _ (a0N _ (by simp)))
    exact⟨z1,z2,z3⟩
   have Ff:∀ {dI:St} {H7:Hp} {s7:Shared},Inv X' ([(s2.heap.objs.size,fN ad nn)]++ke fp s5.heap) dI H7 s7->tn (i+1) s7.heap/\∀b∈fp,H7 b=none:=λ{dI H7 s7} I7 =>
    ⟨T.keep _ _ _ lL λb hb o e=>(I7.pin (b,o) (a0m _ (a0m _ (sC hb e)))).1,λb hb=>by
     obtain⟨o,e,d⟩:=T.obj _ _ lL b hb
     exact(I7.pin (b,o) (a0m _ (a0m _ (sC hb e)))).2.1⟩
   refine au Fe λok s7 ⟨H7,I7,q7⟩=>?_
   cases ok with
   | false =>
    obtain⟨m',hm,w7⟩:=hN _ _ (show Nx ys H7 from q7)
    obtain⟨a1,a2⟩:=Ff I7
    exact⟨m',hm,i+1,ys,ad,nn,H7,Fb I7.sD l6,rv,hz,a1,a2,w7⟩
   | true =>
    have tq:=Oh _ s7 iQ H7 _ I7 (show te iQ H7 _ from q7)
    rw[eX] at tq
    refine au tq λv s8 ⟨y,H8,I8,r8,q8⟩=>?_
    obtain⟨z1,z2,z3⟩:=Oj I8
    obtain⟨a1,a2⟩:=Ff I8
    obtain⟨m',hm,w8⟩:=hN _ _ q8
    have hl:=rv.length
    refine append_at (hsz:=by show ad.toArray.size<=sizeLine;rw[Z4];lia) z1 λh9 Fg Ol=>?_
    have Om:Inv X' (ke fp s5.heap) (U_ k fr σ) H8 s8:=(Fb I8 l6).sk λp hp=>I8.pin p (a0m _ (a0m _ hp))
    have I9:Inv X' (ke fp s5.heap) (U_ k fr σ) H8 {s8 with heap:=h9}:=Om.turned (t':=s8.toks) (it:=s2.heap.objs.size) (λb o hb e=>(Fg.2 b hb).trans e) z2 z3 (.inr (by rw[eS];exact Z0 _))
     (λy c e z=>by
      obtain⟨v',q⟩:=I0.cell y c e
      have On:cl.lookup y=some c:=by rw[eE] at e;exact e
      obtain⟨v2,q2⟩:=I.cell y c (fM y c On)
      rw[z] at q2
      exact absurd q2.lt (a0G _))
     (λp hp z=>by
      rw[Fa] at hp
      exact xW p.1 (DZ hp).1 z)
    have Oo:Inv X' [(s2.heap.objs.size,fN (ad++[v]) (nn+1))] (U_ k fr σ) H8 {s8 with heap:=h9}:=I9.sk λp hp=>by
     have lY:p=(s2.heap.objs.size,fN (ad++[v]) (nn+1)):=by simpa using hp
     rw[lY]
     refine⟨?_,z2,z3,?_,λv z=>by cases z⟩
     ·show h9.get? _=_
      rw[Ol]
      simp[fN]
     ·exact(I8.pin (s2.heap.objs.size,fN ad nn) (a0m _ (a0N _ (by simp)))).2.2.2.1
    refine⟨m',hm,i+1,ys++[y],ad++[v],nn+1,H8,Oo,rv.append (.cons r8 .nil),by rw[a0j];simp;lia,?_,a2,w8⟩
    exact T.keep _ _ _ a1 λb hb o e=>(Fg.2 b (xW b hb)).trans e
 exact codeAny_compStart_list loop (T.self _ 0 _ _ _ (T.keep _ _ _ st λb _ o e=>eU b o e) loop)
theorem Fh{s2 s':Shared}{fp:List Addr}{cl:List (Str×Addr)}{H2 H':Hp}{az:St}{D C:Addr}{o:Obj}{u:HO}{h':Heap}{Fj:St}(I:Inv X aa σ H2 s2)(hC:s2.heap.objs.size<=C)(ip:D≠C)
  (J:Inv (X.cmp N scope cl C s2 H2 fp) [(D,o)] az H' s') {s9:Shared} (I':Inv X aa Fj (upd H' D u) s9) (sb:Heap.SameBut C s9.heap h'):Inv X aa Fj (upd H' D u) {s9 with heap:=h'}:=by
 refine I'.turned (t':=s9.toks) (it:=C) (λb o hb e=>(sb.2 b hb).trans e) (by rw[i_ (Ne.symm ip)];exact J.free) (a0M (Z7 I.lt hC)) (.inr (Z9 I.sz hC)) (λy c e z=>?_) λp hp z=>?_
 ·obtain⟨v,q⟩:=I.cell y c e
  exact absurd (Z7 q.lt (by rw[z];exact hC)) (a0G _)
 ·exact absurd (Z7 (ZY (I.pin p hp).1) (by rw[z];exact hC)) (a0G _)
theorem xX(S:oj X N scope)(F:qj X N scope k fr)(hc:X.calm=true)(cF:PI X tg iter wi)
  (hg:∀cl C s H fp,PG (X.cmp N scope cl C s H fp) tg g) (hk:qk k g) (hi:∀cl C s H fp,PF (X.cmp N scope cl C s H fp) di tc) (he:∀cl C s H fp,PE (X.cmp N scope cl C s H fp) dA te)
  (hs:∀x,foldedSetIterable iter X.env x=pure x:=by intro _;rfl):PE X (.ListComp dA [⟨tg,iter,di,0⟩] scope pos) (tm k fr wi g tc te):=by
 intro aa s σ H Q I h
 rw[eval_ListComp]
 obtain⟨cl,xY,fM,iV⟩:=EO (scope:=scope) (env:=X.env) λy hy=>I.ok.has y (.inl (S.ES y hy))
 refine wpAny_comprehension_free (use:=none) rfl hs xY S.kind S.loc (au (cF aa s σ H _ I h) λv s1 h1=>au h1 λsB s2 h2=>?_)
 obtain⟨it,fp,tn,J,H2,e,I2,T,bh,f2,W,⟨m0,w0⟩,ii⟩:=h2
 subst e
 refine EX S F hc hg hk hi he I2 T bh f2 w0 (Fin:=λys H'=>∀D,H' D=none->Q (.ref D) (upd H' D (.lst ys))) ii fM iV (RR:=λacc C=>compPost (model X.prog X.w) X.A X.xe none (EP X aa σ Q) acc C) ?_
 intro D C s' ad n ys H' az hD hC ip J' rv hz fin
 obtain⟨hn,I'⟩:=EV I2 f2 J' rv hz hD
 obtain⟨m,hm,_⟩:=J'.loc
 exact⟨m,hm,λh' sb=>⟨.ref D,_,Fh I2 hC ip J' I' sb,rfl,fin D hn⟩⟩
theorem Fk{i:Nat}{y:Str}{py oo:Pos}(hN:X.N.Nodup)(dr:X.N[i]?=some y)(hx:Loc X.env.scope y)(S:oj X N scope)(F:qj X N scope k fr)(hc:X.calm=true)(cF:PI X tg iter wi)
  (hg:∀cl C s H fp,PG (X.cmp N scope cl C s H fp) tg g) (hk:qk k g) (hi:∀cl C s H fp,PF (X.cmp N scope cl C s H fp) di tc) (he:∀cl C s H fp,PE (X.cmp N scope cl C s H fp) dA te)
  (xZ:swapsWith (.ListComp dA [⟨tg,iter,di,0⟩] scope pos) (some (.Name y py)) oo.line X.env=pure true)
  (hs:∀x,foldedSetIterable iter X.env x=pure x:=by intro _;rfl) (hf:X.fn y=true\/X.env.scope.names.lookup y=some .local:=by first | exact .inl rfl | exact .inr rfl | assumption) :
  PS X (.Assign [.Name y py] (.ListComp dA [⟨tg,iter,di,0⟩] scope pos) oo) (su (tm k fr wi g tc te) (jw i)):=by
 intro aa s σ H D0 I h
 obtain⟨cl,xY,fM,iV⟩:=EO (scope:=scope) (env:=X.env) λy hy=>I.ok.has y (.inl (S.ES y hy))
 rw[exec_Assign_Name_used _ _ _ _ xZ]
 refine wpAny_bind (wpAny_standAt (wpAny_bind ?_))
 show wpAny _ X.A (do let _ <-comprehension (.ListComp dA [⟨tg,iter,di,0⟩] scope pos) scope X.env _ (newList []) false (eval iter X.env) (some (assign (.Name y py) X.env))) _ _ s
 refine wpAny_bind (wpAny_mono (wpAny_comprehension_free (use:=some (assign (.Name y py) X.env)) (Q:=λ_ s'=>SP X aa D0 .next s') rfl hs xY S.kind S.loc
  (au (cF aa s σ H _ I h) λv s1 h1=>au h1 λsB s2 h2=>?_)) (λ_ s' hq=>wpAny_pure (wpAny_pure hq)) λ_ _ e=>e)
 obtain⟨it,fp,tn,J,H2,e,I2,T,bh,f2,W,⟨m0,w0⟩,ii⟩:=h2
 subst e
 refine EX S F hc hg hk hi he I2 T bh f2 w0 (Fin:=λys H'=>∀D,H' D=none->D0.nx (σ.set i (some (.ref D))) (upd H' D (.lst ys))) ii fM iV
  (RR:=λacc C=>compPost (model X.prog X.w) X.A X.xe (some (assign (.Name y py) X.env)) (λ_ s'=>SP X aa D0 .next s') acc C) ?_
 intro D C s' ad n ys H' az hD hC ip J' rv hz fin
 obtain⟨hn,I'⟩:=EV I2 f2 J' rv hz hD
 obtain⟨m,hm,_⟩:=J'.loc
 show wpAny _ _ (assign (.Name y py) X.env (.ref D)) _ _ s'
 refine wpAny_assign_Name (Dw I' hN dr hx (v:=.ref D) rfl (λs9 I9 ⟨a,Op,ha⟩=>?_) hf)
 have Oq:C≠a:=by
  rcases ha with z | z
  ·rw[z];exact a0M (Z7 I2.lt hC)
  ·obtain⟨v,q⟩:=I2.cell y a z
   exact λz=>absurd (Z7 q.lt (by rw[<-z];exact hC)) (a0G _)
 exact⟨m,hm.sameBut Op Oq,λh' sb=>⟨_,_,Fh I2 hC ip J' I9 sb,fin D hn⟩⟩
end
def kz(sc scope:Scope)(NX N:List Str)(k:Nat)(fr:List Nat):Bool :=
 scope.names.all (λp=>p.2 != .cell)&&(scope.names.all (λp=>p.2 != .local || scope.names.lookup p.1==some .local)&&(scope.names.all (λp=>p.2 != .free || sc.names.lookup p.1==some .cell) &&
  (decide N.Nodup&&(N.length==k+fr.length&&(fr.zip (N.drop k)).all λq=>NX[q.1]?==some q.2&&scope.names.lookup q.2==some .free))))
theorem ql{X:Cx}{sc scope:Scope}{NX N:List Str}{k:Nat}{fr:List Nat}(hX:X.env.scope=sc)(hk:scope.kind=.function)(h:kz sc scope NX N k fr=true):oj X N scope:=by
 unfold kz at h
 simp only[a0J,a1h,decide_eq_true_eq] at h
 obtain⟨h1,h2,h3,h4,h5,h6⟩:=h
 have f2:∀y,(y,NameKind.free)∈scope.names->X.env.kindOf y=some .cell:=λy hy=>by
  have:=h3 _ hy
  show X.env.scope.names.lookup y=some .cell
  rw[hX]
  simpa using this
 refine⟨hk,λy hy=>by simpa using h1 y hy,λy hy e=>?_,λy e=>f2 y (PySem.mem_of_lookup e),f2,h4,λy e=>PySem.mem_of_lookup e⟩
 have:=h2 y hy
 rw[e] at this
 simpa using this
theorem qm{X:Cx}{sc scope:Scope}{NX N:List Str}{k:Nat}{fr:List Nat}(hN:X.N=NX)(h:kz sc scope NX N k fr=true):qj X N scope k fr:=by
 unfold kz at h
 simp only[a0J,a1h,decide_eq_true_eq] at h
 obtain⟨h1,h2,h3,h4,h5,h6⟩:=h
 refine⟨by simpa using h5,λj i y e1 e2=>?_⟩
 have hm:(i,y)∈fr.zip (N.drop k):=by
  refine Z1 (i:=j) ?_
  rw[List.getElem?_zip_eq_some]
  exact⟨e1,by rw[List.getElem?_drop];exact e2⟩
 have:=h6 _ hm
 rw[hN]
 simpa using this
section
variable{X:Cx}{dA iter:Expr}{di:List Expr}{scope:Scope}{pos px:Pos}{wi:TI}{tc:TT}{te:TE}{x:Str}
theorem Fl{sc scope:Scope}{NX N:List Str}{k:Nat}{fr:List Nat}(h:kz sc scope NX N k fr=true):N.Nodup:=by
 unfold kz at h
 simp only[a0J,decide_eq_true_eq] at h
 exact h.2.2.2.1
theorem iW(sc:Scope)(NX:List Str)(fs:List Str)(fr:List Nat)(hc:X.calm=true)(cF:PI X (.Name x px) iter wi)(hi:∀cl C s H fp,PF (X.cmp (x::fs) scope cl C s H fp) di tc)(he:∀cl C s H fp,PE (X.cmp (x::fs) scope cl C s H fp) dA te)
  (ok:kz sc scope NX (x::fs) 1 fr=true) (hX:X.env.scope=sc:=by rfl) (hN:X.N=NX:=by rfl) (hk:scope.kind=.function:=by rfl) (hx:scope.names.lookup x=some .local:=by rfl)
  (hs:∀x,foldedSetIterable iter X.env x=pure x:=by intro _;rfl):PE X (.ListComp dA [⟨.Name x px,iter,di,0⟩] scope pos) (tm 1 fr wi (jw 0) tc te) :=
 xX (ql hX hk ok) (qm hN ok) hc cF (λcl C s H fp=>q_ (i:=0) (Fl ok) rfl (Or.inl (lookup_relabel_local hx)) (.inr (lookup_relabel_local hx))) (EW (by decide)) hi he hs
theorem tD(sc:Scope)(NX:List Str)(fs:List Str)(fr:List Nat){i:Nat}{y:Str}{py oo:Pos}(Os:X.N.Nodup)(dr:X.N[i]?=some y)(hy:Loc X.env.scope y)(hc:X.calm=true)(cF:PI X (.Name x px) iter wi)
  (hi:∀cl C s H fp,PF (X.cmp (x::fs) scope cl C s H fp) di tc) (he:∀cl C s H fp,PE (X.cmp (x::fs) scope cl C s H fp) dA te)
  (ok:kz sc scope NX (x::fs) 1 fr=true) (xZ:swapsWith (.ListComp dA [⟨.Name x px,iter,di,0⟩] scope pos) (some (.Name y py)) oo.line X.env=pure true)
  (hX:X.env.scope=sc:=by rfl) (hN:X.N=NX:=by rfl) (hk:scope.kind=.function:=by rfl) (hx:scope.names.lookup x=some .local:=by rfl)
  (hs:∀x,foldedSetIterable iter X.env x=pure x:=by intro _;rfl) (hf:X.fn y=true\/X.env.scope.names.lookup y=some .local:=by first | exact .inl rfl | exact .inr rfl | assumption) :
  PS X (.Assign [.Name y py] (.ListComp dA [⟨.Name x px,iter,di,0⟩] scope pos) oo) (su (tm 1 fr wi (jw 0) tc te) (jw i)) :=
 Fk Os dr hy (ql hX hk ok) (qm hN ok) hc cF (λcl C s H fp=>q_ (i:=0) (Fl ok) rfl (Or.inl (lookup_relabel_local hx)) (.inr (lookup_relabel_local hx))) (EW (by decide)) hi he xZ hs hf
end
theorem qo{lo:Int}{n:Nat}{G:V->Hp->(List V->Hp->Prop)->List V->Prop}{Fin:List V->Hp->Prop}{H:Hp}(Pv:Nat->List V->Hp->Prop)(h0:Pv 0 [] H)
  (hs:∀i ys H,i<n->Pv i ys H->ys.length<sizeLine/\G (.int (lo+i)) H (Pv (i+1)) ys) (hd:∀ys H,Pv n ys H->Fin ys H) :
  ∃W:Nat->Nat->List V->Hp->Prop,(∃m,W 0 m [] H)/\∀i m ys H,W i m ys H->
   ((iP lo n).stop i H/\Fin ys H)\/((iP lo n).go i H/\ys.length<sizeLine/\∃Nx:List V->Hp->Prop,(∀cJ H',Nx cJ H'->∃m',m'<m/\W (i+1) m' cJ H')/\∀x H',(iP lo n).gN i H x H'->G x H' Nx ys):=by
 refine⟨λi m ys H=>m=n-i/\i<=n/\Pv i ys H,⟨n,by simp,a0w _,h0⟩,?_⟩
 rintro i m ys H ⟨rfl,hi,p⟩
 by_cases aT:i<n
 ·obtain⟨a1,a2⟩:=hs i ys H aT p
  refine .inr ⟨aT,a1,Pv (i+1),λcJ H' p'=>⟨n-(i+1),by lia,rfl,aT,p'⟩,λx H' y=>?_⟩
  obtain⟨e,y⟩:=y
  subst e y
  exact a2
 ·have e:i=n:=by lia
  subst e
  exact .inl ⟨Z0 _,hd ys H p⟩
theorem iX{K:PySem.W.Frag}{a:Addr}{xs:List V}{G:V->Hp->(List V->Hp->Prop)->List V->Prop}{Fin:List V->Hp->Prop}{H:Hp}(Pv:Nat->List V->Hp->Prop)(h0:Pv 0 [] H)(hl:∀i ys H,i<=xs.length->Pv i ys H->af K H a xs)
  (hs:∀i x ys H,xs[i]?=some x->Pv i ys H->ys.length<sizeLine/\G x H (Pv (i+1)) ys) (hd:∀ys H,Pv xs.length ys H->Fin ys H) :
  ∃W:Nat->Nat->List V->Hp->Prop,(∃m,W 0 m [] H)/\∀i m ys H,W i m ys H->
   ((j9 K a).stop i H/\Fin ys H)\/((j9 K a).go i H/\ys.length<sizeLine/\∃Nx:List V->Hp->Prop,(∀cJ H',Nx cJ H'->∃m',m'<m/\W (i+1) m' cJ H')/\∀x H',(j9 K a).gN i H x H'->G x H' Nx ys):=by
 refine⟨λi m ys H=>m=xs.length-i/\i<=xs.length/\Pv i ys H,⟨xs.length,by simp,a0w _,h0⟩,?_⟩
 rintro i m ys H ⟨rfl,hi,p⟩
 have q:=hl i ys H hi p
 by_cases aT:i<xs.length
 ·obtain⟨a1,a2⟩:=hs i xs[i] ys H (by simp[aT]) p
  refine .inr ⟨⟨xs,xs[i],q,by simp[aT]⟩,a1,Pv (i+1),λcJ H' p'=>⟨xs.length-(i+1),by lia,rfl,aT,p'⟩,λx H' y=>?_⟩
  obtain⟨e,y⟩:=y
  subst e
  have hx:=y xs q
  rw[show xs[i]?=some xs[i] by simp[aT]] at hx
  cases hx
  exact a2
 ·have e:i=xs.length:=by lia
  subst e
  exact .inl ⟨⟨xs,q,Z0 _⟩,hd ys H p⟩
section
variable{X:Cx}
theorem tE:dm X (.builtin "isinstance") (λxs H Q=>∃x t c b,xs=[x,.ty c]/\fX X.K H x t/\PySem.W.kitOne X.K t (.type c)=some b/\Q (.bl b) H):=by
 intro aa s σ H xs us Q I r h
 obtain⟨x,t,c,b,rfl,ty,e,q⟩:=h
 obtain⟨u,v,rfl,rx,ry⟩:=vals2 r
 cases ry
 exact Nf I rx ty e λtk=>⟨.bl b,H,I.tok tk,rfl,q⟩
theorem seen{aa:List (Addr×Obj)}{σ:St}{H:Hp}{s:Shared}{l:Addr}{h':Heap}{tk:Nat}(I:Inv X aa σ H s)(hk:∀b o,b∉[s.heap.objs.size]->(s.heap.push {cls:=.type "list_iterator",data:=.fields #[.ref l,.int 0 0]}).get? b=some o->h'.get? b=some o) :
  Inv X aa σ H {s with heap:=h',toks:=tk}:=I.kept (old_kept hk)
theorem Ot{bs:List Bool}:((List.range bs.length).all λi=>(bs[i]?).getD true)=bs.all id:=by
 induction bs with
 | nil=>rfl
 | cons b r ih =>
  rw[a0k,List.range_succ_eq_map,a2m,List.all_map,a2m]
  congr 1
theorem Ou(hc:X.calm=true):dm X (.builtin "all") (λxs H Q=>∃(p:Addr) (bs:List Bool),xs=[.ref p]/\af X.K H p (bs.map V.bl)/\Q (.bl (bs.all id)) H):=by
 intro aa s σ H xs us Q I r h
 obtain⟨p,bs,rfl,hq,q⟩:=h
 obtain⟨u,rfl,rx⟩:=vals1 r
 cases rx
 obtain⟨ad,rv,pl,hz⟩:=I.list hq
 have hl:=pl.isList
 have aT:p<s.heap.objs.size:=by obtain⟨_,e,_⟩:=hl;exact ZY e
 have hn:ad.toArray.size=bs.length:=by rw[Z4,<-rv.length,ZW]
 refine call_all_walk (wpAny_pyIter_list hl ?_)
 refine⟨_,_,_,_,_,_,λi=>(bs[i]?).getD true,rfl,Walks.list (A:=X.A.in1) (I.ok.hd hc) s.heap.objs.size p (a0c aT) ad.toArray,⟨⟨_,Z3 _ rfl,rfl,rfl⟩,hl.push _⟩,?_,λh' tk hk=>?_⟩
 ·intro i v s' Q' E' hP hQ
  have hv:ad[i]?=some v:=by simpa using hP
  cases eb:bs[i]? with
  | none =>
   have:=rv.none_of (i:=i) (by rw[Z2,eb];rfl)
   rw[this] at hv;cases hv
  | some b =>
   obtain⟨u,hu,ru⟩:=rv.get (i:=i) (x:=.bl b) (by rw[Z2,eb];rfl)
   rw[hu] at hv;cases hv
   cases ru
   refine wpAny_truthy_bool ?_
   have e:(bs[i]?).getD true=b:=by rw[eb];rfl
   rw[<-e];exact hQ
 ·rw[hn,Ot]
  exact⟨.bl _,H,(show Inv X aa σ H {s with heap:=h',toks:=tk} from seen I hk),rfl,q⟩
theorem qp(ns:List Int):∀k,k<=ns.length->preSum (λi=>(ns[i]?).getD 0) k=(ns.take k).sum
 | 0,_=>by simp[preSum]
 | k+1,h=>by
  have e:ns[k]?=some (ns[k]'(by lia)):=by simp
  rw[preSum,qp ns k (by lia),Z8,e,a0T]
  simp
theorem Fm{B:Int}:∀(ns:List Int),(∀n∈ns,-B<=n/\n<=B)->-(ns.length*B)<=ns.sum/\ns.sum<=ns.length*B
 | [],_=>by simp
 | n::r,h=>by
  have h1:=h n (by simp)
  have h2:=Fm r λm hm=>h m (Z5 _ hm)
  rw[a0r,a0k]
  have e:((r.length+1:Nat):Int)*B=r.length*B+B:=by rw[Int.natCast_add,a2F];simp
  lia
theorem x6(hc:X.calm=true):dm X (.builtin "sum") (λxs H Q=>∃(p:Addr) (ns:List Int),xs=[.ref p]/\af X.K H p (ns.map V.int)/\(ns.length<=1000/\∀n∈ns,-1000000000<=n/\n<=1000000000)/\Q (.int ns.sum) H):=by
 intro aa s σ H xs us Q I r h
 obtain⟨p,ns,rfl,hq,⟨Fn,hb⟩,q⟩:=h
 obtain⟨u,rfl,rx⟩:=vals1 r
 cases rx
 obtain⟨ad,rv,pl,hz⟩:=I.list hq
 have hl:=pl.isList
 have aT:p<s.heap.objs.size:=by obtain⟨_,e,_⟩:=hl;exact ZY e
 have hn:ad.toArray.size=ns.length:=by rw[Z4,<-rv.length,ZW]
 refine call_sum_walk (wpAny_pyIter_list hl ?_)
 refine⟨_,_,_,_,_,_,λi=>(ns[i]?).getD 0,rfl,Walks.list (A:=X.A.in1) (I.ok.hd hc) s.heap.objs.size p (a0c aT) ad.toArray,⟨⟨_,Z3 _ rfl,rfl,rfl⟩,hl.push _⟩,λb cv=>?_,λi v hP=>?_,λj hj=>?_,λh' tk t' hk=>?_⟩
 ·show b<(s.heap.push _).objs.size
  rw[a0x]
  rcases ZZ.mp cv with rfl | cv
  ·exact a0I _
  ·have e:b=p:=by simpa using cv
   rw[e];exact a1c aT
 ·have hv:ad[i]?=some v:=by simpa using hP
  cases eb:ns[i]? with
  | none =>
   have:=rv.none_of (i:=i) (by rw[Z2,eb];rfl)
   rw[this] at hv;cases hv
  | some b =>
   obtain⟨u,hu,ru⟩:=rv.get (i:=i) (x:=.int b) (by rw[Z2,eb];rfl)
   rw[hu] at hv;cases hv
   obtain⟨t,rfl⟩:=ru
   exact⟨t,by simp[eb]⟩
 ·rw[hn] at hj
  have e:ns[j]?=some ns[j]:=by simp[hj]
  have b1:=hb ns[j] (List.getElem_mem hj)
  have b2:=Fm (B:=1000000000) (ns.take (j+1)) λm hm=>hb m (a1a hm)
  rw[qp ns (j+1) (by lia)]
  have e3:(ns.take (j+1)).length=j+1:=by rw[a0g];lia
  rw[e3] at b2
  refine⟨⟨?_,?_⟩,?_,?_⟩
  ·show _<=(ns[j]?).getD 0
   rw[e];show _<=ns[j];lia
  ·show(ns[j]?).getD 0<_
   rw[e];show ns[j]<_;lia
  ·lia
  ·lia
 ·rw[hn,qp ns ns.length (Z0 _),a0e]
  exact⟨.int _,H,(show Inv X aa σ H {s with heap:=h',toks:=tk} from seen I hk),⟨_,rfl⟩,q⟩
def eV(P:Program)(w:World)(H:Hp)(x:V)(d:PyData):Prop:=∀(h:Heap) (v:Value),bC P w H h->RelV x v->∃as,Reads h v d as
section
variable{P:Program}{w:World}{H:Hp}
theorem jC(i:Int):eV P w H (.int i) (.int i):=λh v _ r=>by obtain⟨t,rfl⟩:=r;exact⟨_,.int i t⟩
theorem Ov:eV P w H .aw .none:=λh v _ r=>by cases r;exact⟨_,.none⟩
theorem x8(x:Str):eV P w H (.str x) (.str x):=λh v _ r=>by obtain⟨t,rfl⟩:=r;exact⟨_,.str x t⟩
theorem Fo{h:Heap}(ok:bC P w H h){xs:List V}{ad:List Value}{ds:List PyData}(a:aB xs ad)(b:Paired (eV P w H) xs ds):∃as,ReadsAll h ad ds as:=by
 induction a generalizing ds with
 | nil=>cases b;exact⟨_,.nil⟩
 | cons r t ih =>
  cases b with
  | cons q u =>
   obtain⟨as,h1⟩:=q _ _ ok r
   obtain⟨bs,h2⟩:=ih u
   exact⟨_,.cons h1 h2⟩
theorem kB{a:Addr}{xs:List V}{ds:List PyData}(e:H a=some (.lst xs))(r:Paired (eV P w H) xs ds):eV P w H (.ref a) (.list ds):=λh v ok rv=>by
 cases rv
 obtain⟨_,ad,n,rs,e1⟩:=ok a _ e
 obtain⟨as,h1⟩:=Fo ok rs r
 exact⟨_,.list e1 rfl rfl (by simpa using h1)⟩
theorem Ow{a:Addr}{xs:List V}{ds:List PyData}(e:H a=some (.tup xs))(r:Paired (eV P w H) xs ds):eV P w H (.ref a) (.tuple ds):=λh v ok rv=>by
 cases rv
 obtain⟨_,ad,rs,o,e1,c,n,d⟩:=ok a _ e
 obtain⟨as,h1⟩:=Fo ok rs r
 exact⟨_,.tuple e1 c d (by simpa using h1)⟩
theorem x9:∀ns:List Int,Paired (eV P w H) (ns.map V.int) (ns.map PyData.int)
 | []=>.nil
 | n::r=>.cons (jC n) (x9 r)
end
theorem Fp:∀ns:List Int,PyData.canLayAll0 (ns.map PyData.int)=true
 | []=>rfl
 | n::r=>by
  rw[a0f,PyData.canLayAll0,Fp r]
  rfl
theorem Fq:∀ns:List Int,PyData.depthAll (ns.map PyData.int)=0
 | []=>rfl
 | n::r=>by
  rw[a0f,PyData.depthAll,Fq r]
  rfl
def qq(P:Program)(w:World)(neg:Bool):R2:=λx y H Q=>∃dx dy,eV P w H x dx/\eV P w H y dy/\(dx.canLay0=true/\dy.canLay0=true/\dx.depth<=60)/\Q (.bl (if neg=true then !PyData.eqv dx dy else PyData.eqv dx dy)) H
theorem Ox(hu:X.A.units+64<cLine):cu X (compareOp .Eq) (qq X.prog X.w false):=by
 intro aa s σ H x y v u Q I rx ry h
 obtain⟨dx,dy,h1,h2,⟨c1,c2,c3⟩,q⟩:=h
 obtain⟨as,r1⟩:=h1 _ _ I.am rx
 obtain⟨bs,r2⟩:=h2 _ _ I.am ry
 refine SeqAt.compareEq_reads r1 r2 c1 c2 ?_ ⟨.bl _,H,I,rfl,q⟩
 have:min dx.depth dy.depth<=dx.depth:=Nat.min_le_left _ _
 lia
theorem Oy(hu:X.A.units+64<cLine):cu X (compareOp .NotEq) (qq X.prog X.w true):=by
 intro aa s σ H x y v u Q I rx ry h
 obtain⟨dx,dy,h1,h2,⟨c1,c2,c3⟩,q⟩:=h
 obtain⟨as,r1⟩:=h1 _ _ I.am rx
 obtain⟨bs,r2⟩:=h2 _ _ I.am ry
 refine SeqAt.compareNe_reads r1 r2 c1 c2 ?_ ⟨.bl _,H,I,rfl,q⟩
 have:min dx.depth dy.depth<=dx.depth:=Nat.min_le_left _ _
 lia
theorem tF{P:Program}{w:World}{neg:Bool}{x y:V}{H:Hp}{Q:VK}{d:PyData}(h1:eV P w H x d)(h2:eV P w H y d)(c1:d.canLay0=true)(c2:d.depth<=60)(q:Q (.bl (!neg)) H):qq P w neg x y H Q:=by
 refine⟨d,d,h1,h2,⟨c1,c1,c2⟩,?_⟩
 rw[SeqAt.eqv_refl d c1]
 cases neg <;> exact q
end
theorem Oz:typeLookup (.type "list_reverseiterator") "__len__"=pure none:=by rw[typeLookup_type,builtinLookup_eq_fast];kernel_rfl
theorem OA:typeLookup (.type "list_reverseiterator") "__length_hint__"=pure (some (.builtin "list_reverseiterator.__length_hint__")):=by rw[typeLookup_type,builtinLookup_eq_fast];kernel_rfl
theorem OB:isSubtype (.type "list_reverseiterator") (.type "list_reverseiterator")=pure true:=by rw[isSubtype_type];kernel_rfl
section
variable{prog:Program}{w:World}{A:Around}{s:Shared}
theorem OC{E:Value->Shared->Prop}{J l:Addr}{i:Int}{Q:Bool->Shared->Prop}(cF:s.heap.IsRevIter J l i)(h:Q false s):wpAny (model prog w) A (Builtin.List.listLengthHint (.ref J)) Q E s:=by
 unfold Builtin.List.listLengthHint
 refine wpAny_bind (wpAny_specialOf cF.typeIs Oz ?_)
 show wpAny _ A (specialOf (Value.ref J) (Str.ofString "__length_hint__")>>=_) _ _ _
 refine wpAny_bind (wpAny_specialOf cF.typeIs OA ?_)
 generalize Fs:("list_reverseiterator.__length_hint__":String)=OD
 wp_delta
 rw[show splitId OD=some ("list_reverseiterator","__length_hint__") from by subst Fs;decide +kernel]
 subst Fs
 refine wpAny_bind (wpAny_isInstance (T:="list_reverseiterator") (b:=true) cF.typeIs OB ?_)
 refine wpAny_ite_split (λiq=>absurd iq (by decide)) (λ_=>?_)
 refine wpAny_ite_split (λ_=>?_) (λiq=>absurd (by decide +kernel) iq)
 refine wpAny_ite_split (λiq=>absurd iq (by decide +kernel)) (λ_=>?_)
 exact wpAny_pure h
theorem OE{R:Result->Shared->Prop}{J l:Addr}{items:Array Value}(hh:A.handled=none)(aZ:l≠J)(cF:s.heap.IsRevIter J l ((items.size:Int)-1))(hl:s.heap.IsList l items)(hz:items.size<=sizeLine)(S:Addr)(res:Value)(c0:Nat)
  (hS:s.heap.get? S=some {cls:=.type "list",data:=.seq #[] c0}) (qr:S≠J) (tG:S≠l)
  (hR:∀h' tk acc c',(∀b o,b≠S->b≠J->s.heap.get? b=some o->h'.get? b=some o)->h'.get? S=some {cls:=.type "list",dict:=none,data:=.seq acc c',slots:=#[]}->
   ItemsOf (λi v=>items[items.size-1-i]?=some v) acc items.size->R (.ok (.ret res)) {s with heap:=h',toks:=tk}) :
  wpAny (model prog w) A.in1 (Builtin.List.listExtendWith (.ref S) (.ref J) res)
   (λfin s'=>match fin with | .done f=>R (.ok f) s' | .again c'=>c'.quiet=true/\codeAny (model prog w) A c' R s') (λe s'=>R (.error e) s') s:=by
 have W:=(Walks.listRev (prog:=prog) (w:=w) (A:=A.in1) hh J l aZ items).toS
 have oq:S∉[J,l]:=λhm=>by
  rcases ZZ.mp hm with e | hm
  ·exact qr e
  ·exact tG (by simpa using hm)
 unfold Builtin.List.listExtendWith
 refine wpAny_bind (wpAny_typeOf cF.typeIs ?_)
 have h1:Builtin.List.listSameRef (.ref S) (.ref J)=false:=by simp[Builtin.List.listSameRef,qr]
 have h2:(Value.type "list_reverseiterator"==Value.type "list")=false:=by decide
 have h3:(Value.type "list_reverseiterator"==Value.type "tuple")=false:=by decide
 simp only[h1,h2,h3,Bool.or_false,a0O,if_false]
 refine wpAny_bind (wpAny_pyIter_revIter cF ?_)
 refine wpAny_bind (wpAny_holding (OC cF ?_))
 refine wpAny_ite_split (λiq=>absurd iq (by decide)) (λ_=>?_)
 refine wpAny_pure ⟨plainId_quiet F.plain_extend_loop _,?_⟩
 refine codeAny_extend_loopS W hz S oq res items.size 0 s #[] c0 rfl (a0w _) ⟨a0w _,by simpa using cF,hl⟩ hS (ItemsOf.nil _) λs' qt c' hm lZ dR=>?_
 rw[Moved.eq_with hm]
 refine hR s'.heap s'.toks qt c' (λb o hb l7 e=>hm.heap b o (λz=>?_) e) lZ dR
 rcases ZZ.mp z with z | z
 ·exact hb z
 ·exact l7 (by simpa using z)
theorem OG{R:Result->Shared->Prop}{J l:Addr}{items:Array Value}(hh:A.handled=none)(aZ:l≠J)(cF:s.heap.IsRevIter J l ((items.size:Int)-1))(hl:s.heap.IsList l items)(hz:items.size<=sizeLine)(S:Addr)
  (hS:s.heap.get? S=some {cls:=.type "list",data:=.seq #[]}) (qr:S≠J) (tG:S≠l)
  (hR:∀h' tk acc c',(∀b o,b≠S->b≠J->s.heap.get? b=some o->h'.get? b=some o)->h'.get? S=some {cls:=.type "list",dict:=none,data:=.seq acc c',slots:=#[]}->
   ItemsOf (λi v=>items[items.size-1-i]?=some v) acc items.size->R (.ok (.ret .none)) {s with heap:=h',toks:=tk}) :
  wpAny (model prog w) A.in1 (Builtin.«list.__init__» ⟨[.ref S,.ref J],[]⟩)
   (λfin s'=>match fin with | .done f=>R (.ok f) s' | .again c'=>c'.quiet=true/\codeAny (model prog w) A c' R s') (λe s'=>R (.error e) s') s:=by
 show wpAny _ _ (do let eU <-Builtin.List.listItems (.ref S);Builtin.List.listUpdate (.ref S) (λ_=>#[]);letGo eU.toList.reverse;Builtin.List.listExtendWith (.ref S) (.ref J) .none) _ _ s
 refine wpAny_bind ?_
 unfold Builtin.List.listItems
 refine wpAny_bind (wpAny_seqItems hS rfl (wpAny_pure ?_))
 show wpAny _ _ (updateSeq S (λ_=>#[])>>=λ_=>letGo (#[]:Array Value).toList.reverse>>=λ_=>Builtin.List.listExtendWith (.ref S) (.ref J) .none) _ _ s
 refine wpAny_bind (wpAny_updateSeq hS rfl ?_)
 have g2:=a1x (Obj.mapSeq (λ_=>(#[]:Array Value))) hS rfl
 have fO:∀b o,b≠S->s.heap.get? b=some o->(s.heap.update S (Obj.mapSeq (λ_=>(#[]:Array Value)))).get? b=some o :=
  λb o hb e=>(a0z _ _ (Ne.symm hb)).trans e
 refine wpAny_bind (wpAny_letGo ?_)
 refine OE hh aZ (cF.at λo e=>fO J o (Ne.symm qr) e) (hl.at λo e=>fO l o (Ne.symm tG) e) hz S .none _ g2 qr tG λh' tk qt c' hk lZ dR=>?_
 exact hR h' tk qt c' (λb o hb l7 e=>hk b o hb l7 (fO b o hb e)) lZ dR
theorem OH{E:Value->Shared->Prop}{Q:Value->Shared->Prop}{J l:Addr}{items:Array Value}(hh:A.handled=none)(aZ:l≠J)(cF:s.heap.IsRevIter J l ((items.size:Int)-1))(hl:s.heap.IsList l items)(hz:items.size<=sizeLine)
  (hQ:∀h' tk acc c',(∀b o,b≠J->s.heap.get? b=some o->h'.get? b=some o)->h'.get? s.heap.objs.size=some {cls:=.type "list",dict:=none,data:=.seq acc c',slots:=#[]}->
   ItemsOf (λi v=>items[items.size-1-i]?=some v) acc items.size->Q (.ref s.heap.objs.size) {s with heap:=h',toks:=tk}) :
  wpAny (model prog w) A (call (.type "list") [.ref J]) Q E s:=by
 have OI:J<s.heap.objs.size:=by obtain⟨o,e,_⟩:=cF;exact ZY e
 have ya:l<s.heap.objs.size:=by obtain⟨o,e,_⟩:=hl;exact ZY e
 refine callType_codes (Q₁:=λobj s1=>obj=.ref s.heap.objs.size/\s1={s with heap:=s.heap.push {cls:=.type "list",data:=.seq #[]}}) F.called_list (F.typeCall_list_1 _) F.entry_list_init
  (code_list_new _ ⟨rfl,rfl⟩) λobj s1 h1=>?_
 obtain⟨rfl,rfl⟩:=h1
 have hS:(s.heap.push {cls:=.type "list",data:=.seq #[]}).get? s.heap.objs.size=some {cls:=.type "list",data:=.seq #[]}:=Z3 _ rfl
 refine⟨⟨_,hS,rfl⟩,F.args_list_init_2 _ _,OG (A:=A.in1) hh aZ (cF.at λo e=>ZV _ e) (hl.at λo e=>ZV _ e) hz _ hS (a0M OI) (a0M ya) λh' tk qt c' hk lZ dR=>?_⟩
 exact⟨rfl,hQ h' tk qt c' (λb o hb e=>hk b o (a0c (ZY e)) hb (ZV _ e)) lZ dR⟩
end
section
variable{X:Cx}{e:Expr}{te:TE}
def OJ(K:PySem.W.Frag)(te:TE):TE:=fun σ H Q=>te σ H λx H1=>∃a xs,x=.ref a/\af K H1 a xs/\∀p,H1 p=none->Q (.ref p) (upd H1 p (.lst xs.reverse))
theorem OL{ad:List Value}{acc:Array Value}(h:ItemsOf (λi v=>ad.toArray[ad.toArray.size-1-i]?=some v) acc ad.toArray.size):acc.toList=ad.reverse:=by
 obtain⟨h0,h2⟩:=h
 have h1:acc.size=ad.length:=by rw[h0];simp
 apply a2G
 intro i
 by_cases hi:i<acc.size
 ·have e:=h2 i acc[i] (by simp[hi])
  have e':ad[ad.length-1-i]?=some acc[i]:=by simpa using e
  rw[List.getElem?_reverse (by lia),e']
  simp[hi]
 ·rw[a1y (by simpa using hi),a1y (by rw[List.length_reverse];lia)]
theorem OM{p1 p2 q1 q2:Pos}(hc:X.calm=true)(gS:X.mg "list"=none)(dB:X.mg "reversed"=none)(yb:Gl X "list")(qu:Gl X "reversed")(he:PE X e te)(h1:starEach [e] X.env=[(false,eval e X.env)]:=by rfl) :
  PE X (.Call (.Name "list" p1) [.Call (.Name "reversed" p2) [e] [] q2] [] q1) (OJ X.K te):=by
 intro aa s σ H Q I h
 refine wpAny_Call_Name_kw (iO I yb gS boot_list ?_)
 refine PyProof.Rows.callWith_type1 ?_ rfl rfl
 show wpAny _ _ (spliced ((false,eval (.Call (.Name "reversed" p2) [e] [] q2) X.env)::backTo q1 (starEach [] X.env))) _ _ s
 refine Calls.spliced_cons ?_
 refine wpAny_Call_Name_kw (iO I qu dB boot_reversed ?_)
 refine PyProof.Rows.callWith_type1 ?_ h1 rfl
 rw[h1]
 show wpAny _ _ (spliced ((false,eval e X.env)::backTo q2 (starEach [] X.env))) _ _ s
 refine Calls.spliced_cons (au (he aa s σ H _ I h) λu s1 ⟨x,H1,I1,r1,q1⟩=>?_)
 obtain⟨a,xs,rfl,hq,q⟩:=q1
 cases r1
 obtain⟨ad,rv,pl,hz⟩:=I1.list hq
 have hl:=pl.isList
 have b9:=rv.length
 have ya:a<s1.heap.objs.size:=by obtain⟨o,e,_⟩:=hl;exact ZY e
 refine Calls.spliced_nil ?_
 refine call_reversed_list hl ?_
 refine Calls.spliced_nil ?_
 refine OH (items:=ad.toArray) (I1.ok.hd hc) (a0c ya) ⟨_,Z3 _ rfl,rfl,rfl⟩ (hl.at λo e=>ZV _ e) (by rw[Z4];lia) λh' tk acc c' hk hS dR=>?_
 have eS:(s1.heap.push (revObj a ((ad.toArray.size:Int)-1))).objs.size=s1.heap.objs.size+1:=a0x ..
 have kr:s1.heap.objs.size<=(s1.heap.push (revObj a ((ad.toArray.size:Int)-1))).objs.size:=by rw[eS];exact a1Y _
 have ea:=OL dR
 refine⟨.ref _,_,I1.laid (t':=tk) (o:=.lst xs.reverse) (λb o e=>hk b o (a0c (ZY e)) (ZV _ e)) kr ⟨by rw[List.length_reverse];exact hz,ad.reverse,c',rv.reverse,?_⟩,rfl,q _ (I1.am.fresh kr)⟩
 rw[hS,<-ea]
end
section
variable{X:Cx}{aa:List (Addr×Obj)}{σ:St}{H:Hp}{s:Shared}{h':Heap}
theorem Inv.Ft{ch:List Addr}{T:Addr}{o:HO}{t':Nat}(I:Inv X aa σ H s)(k:∀b u,b∉ch->s.heap.get? b=some u->h'.get? b=some u)(hf:∀b∈ch,gn X aa H b)(hT:s.heap.objs.size<=T)
  (new:b8 X.prog X.w (upd H T o) h' T o):Inv X aa σ (upd H T o) {s with heap:=h',toks:=t'}:=by
 have hn:=I.am.fresh hT
 have lt:∀b u,s.heap.get? b=some u->b≠T:=λb u e=>a0c (Z7 (ZY e) hT)
 have tr:∀b u,H b=some u->b∉ch:=λb u e hb=>by
  obtain⟨f0,_⟩:=hf b hb
  rw[e] at f0;cases f0
 refine I.step (g':=s.gens) (d':=s.drawn) (ch:=ch) (λb hb=>?_) (λb u _ _ hc e _=>k b u hc e) (λb u _ _ hc e _=>⟨u.slots,k b u hc e⟩) (λb u _ e n=>by rw[i_ (lt b u e)];exact n)
  (λb u hc e=>⟨u,k b u hc e⟩) (λb xs e=>by rw[i_ (l_ e hn)];exact e) (λb u x e=>by rw[i_ (l_ e hn)];exact e) (λb ps e=>⟨#[],by rw[i_ (l_ e hn),e];simp⟩) (λm hm=>?_) (λb u e=>?_) I.bare
 ·obtain⟨_,f1,_,f3,f4,f5⟩:=hf b hb
  exact⟨f3,f1,f4,f5⟩
 ·obtain⟨u,es,ep,hu,r⟩:=hm
  exact⟨u,es,ep,k _ u (λz=>(hf _ z).2.1 rfl) hu,r⟩
 ·by_cases hb:b=T
  ·subst hb
   rw[d_] at e;cases e
   exact new
  ·rw[i_ hb] at e
   refine(I.am b u e).cE (λc v hc q=>k c v ?_ q) (λc q=>by rw[i_ (l_ q hn)];exact q) λc xs q=>by rw[i_ (l_ q hn)];exact q
   rcases hc with rfl | hc
   ·exact tr _ _ e
   ·exact tr _ _ hc
theorem Inv.Fu{ch:List Addr}{t':Nat}(I:Inv X aa σ H s)(k:∀b u,b∉ch->s.heap.get? b=some u->h'.get? b=some u)(hf:∀b∈ch,gn X aa H b):Inv X aa σ H {s with heap:=h',toks:=t'}:=by
 have tr:∀b u,H b=some u->b∉ch:=λb u e hb=>by
  obtain⟨f0,_⟩:=hf b hb
  rw[e] at f0;cases f0
 refine I.step (g':=s.gens) (d':=s.drawn) (ch:=ch) (λb hb=>?_) (λb u _ _ hc e _=>k b u hc e) (λb u _ _ hc e _=>⟨u.slots,k b u hc e⟩) (λ_ _ _ _ n=>n)
  (λb u hc e=>⟨u,k b u hc e⟩) (λ_ _ e=>e) (λ_ _ _ e=>e) (λb ps e=>⟨#[],by rw[e];simp⟩) (λm hm=>?_) (λb u e=>?_) I.bare
 ·obtain⟨_,f1,_,f3,f4,f5⟩:=hf b hb
  exact⟨f3,f1,f4,f5⟩
 ·obtain⟨u,es,ep,hu,r⟩:=hm
  exact⟨u,es,ep,k _ u (λz=>(hf _ z).2.1 rfl) hu,r⟩
 ·refine(I.am b u e).cE (λc v hc q=>k c v ?_ q) (λ_ q=>q) λ_ _ q=>q
  rcases hc with rfl | hc
  ·exact tr _ _ e
  ·exact tr _ _ hc
end
def kD(K:PySem.W.Frag)(a b:Addr):It :=
 ⟨λi H=>∃xs ys x y,af K H a xs/\af K H b ys/\xs[i]?=some x/\ys[i]?=some y,
  λi H v H'=>∃t x y,v=.ref t/\H t=none/\(∀xs,af K H a xs->xs[i]?=some x)/\(∀ys,af K H b ys->ys[i]?=some y)/\H'=upd H t (.tup [x,y]),
  λi H=>∃xs ys,af K H a xs/\af K H b ys/\(xs.length<=i\/ys.length<=i)⟩
theorem ON{P:Program}{w:World}{K:PySem.W.Frag}{elts:List Expr}{x1}{pos:Pos}(a b z TI TO i1 i2:Addr)(D:ZipApart z TI TO i1 i2 a b):j8 P w K (.Tuple elts x1 pos) (kD K a b) [z,TI,TO,i1,i2] z
  (λi h=>IsZip h z TI TO .none/\IsPair h TI (.ref i1) (.ref i2)/\(∃u v,IsPair h TO u v)/\h.IsListIter i1 a i/\h.IsListIter i2 b i) where
 mem:=by simp
 obj:=λi h st c hb=>by
  obtain⟨h1,h2,⟨u,v,h3⟩,⟨o4,h4,_,d4⟩,⟨o5,h5,_,d5⟩⟩:=st
  simp only[ZZ,a0l,or_false] at hb
  rcases hb with rfl | rfl | rfl | rfl | rfl
  ·exact⟨_,h1,λv z=>by cases z⟩
  ·exact⟨_,h2,λv z=>by cases z⟩
  ·exact⟨_,h3,λv z=>by cases z⟩
  ·exact⟨o4,h4,λv z=>by rw[d4] at z;cases z⟩
  ·exact⟨o5,h5,λv z=>by rw[d5] at z;cases z⟩
 keep:=λi h h' st k=>by
  obtain⟨h1,h2,⟨u,v,h3⟩,h4,h5⟩:=st
  exact⟨k z (by simp) _ h1,k TI (by simp) _ h2,⟨u,v,k TO (by simp) _ h3⟩,h4.at λo q=>k i1 (by simp) o q,h5.at λo q=>k i2 (by simp) o q⟩
 item:=by
  intro X hP hw hK hc i aa s σ H E I hf st hg
  subst hP hw hK
  obtain⟨h1,h2,⟨u0,v0,h3⟩,h4,h5⟩:=st
  obtain⟨xs,ys,x,y,gq,ir,hx,hy⟩:=hg
  obtain⟨ad,rv,p,hz⟩:=I.list gq
  obtain⟨tH,eD,p',aR⟩:=I.list ir
  obtain⟨u,hu,ru⟩:=rv.get hx
  obtain⟨v,hv,qv⟩:=eD.get hy
  have e1:=ZY h1
  have yc:∀c∈[z,TI,TO,i1,i2],∃o,s.heap.get? c=some o:=λc hb=>by
   obtain⟨o4,q4,_⟩:=h4
   obtain⟨o5,q5,_⟩:=h5
   simp only[ZZ,a0l,or_false] at hb
   rcases hb with rfl | rfl | rfl | rfl | rfl
   ·exact⟨_,h1⟩
   ·exact⟨_,h2⟩
   ·exact⟨_,h3⟩
   ·exact⟨_,q4⟩
   ·exact⟨_,q5⟩
  refine wpAny_pyNext_zip_item D h1 h2 h3 h4 h5 p.isList p'.isList (x:=u) (y:=v) (by simpa using hu) (by simpa using hv) λh' g1 g2 g3 g4 g5 g6 g7=>⟨_,rfl,?_⟩
  refine wpAny_letOwnedTupleGo_zip g1 λkE g8 g9=>?_
  have kk:∀c o,c∉[z,TI,TO,i1,i2]->s.heap.get? c=some o->kE.get? c=some o:=λc o hb q =>
   g9.extBut c o (λq=>hb (by simp[q])) (g7 c o (λq=>hb (by simp[q])) (λq=>hb (by simp[q])) (λq=>hb (by simp[q])) (λq=>hb (by simp[q])) q)
  have tT:kE.get? s.heap.objs.size=some {cls:=.type "tuple",data:=.seq #[u,v]}:=g9.extBut _ _ (a0M e1) g5
  have I1:=I.Ft (t':=s.toks) (T:=s.heap.objs.size) (o:=.tup [x,y]) kk hf (Z0 _) ⟨by show 2<=sizeLine;decide,[u,v],.cons ru (.cons qv .nil),⟨_,tT,rfl,_,rfl⟩⟩
  have hn:H s.heap.objs.size=none:=I.am.fresh (Z0 _)
  refine⟨.ref s.heap.objs.size,_,I1,rfl,⟨_,x,y,rfl,hn,λzs cz=>by rw[I.nU cz gq];exact hx,λzs cz=>by rw[I.nU cz ir];exact hy,rfl⟩,⟨g8,?_,⟨u,v,?_⟩,?_,?_⟩,λc hb=>?_⟩
  ·exact g9.extBut _ _ D.TIz (g7 _ _ D.TIz D.TITO D.TIi1 D.TIi2 h2)
  ·exact g9.extBut _ _ D.TOz g2
  ·exact g3.extBut g9.extBut D.i1z
  ·exact g4.extBut g9.extBut D.i2z
  ·obtain⟨f0,_⟩:=hf c hb
   obtain⟨o,q⟩:=yc c hb
   rw[i_ (a0c (ZY q))];exact f0
 done:=by
  intro X hP hw hK hc i aa s σ H E I hf st hg
  subst hP hw hK
  obtain⟨h1,h2,⟨u0,v0,h3⟩,h4,h5⟩:=st
  obtain⟨xs,ys,gq,ir,hx⟩:=hg
  obtain⟨ad,rv,p,hz⟩:=I.list gq
  obtain⟨tH,eD,p',aR⟩:=I.list ir
  have hl:=rv.length
  have cT:=eD.length
  refine wpAny_pyNext_zip_end (I.ok.hd hc) D h1 h2 h3 h4 h5 p.isList p'.isList ?_ λh' eb=>⟨rfl,I.Fu (t':=s.toks) (ch:=[z,TI,TO,i1,i2]) (λc o hb q=>eb c o (λq=>hb (by simp[q])) (λq=>hb (by simp[q])) (λq=>hb (by simp[q])) (λq=>hb (by simp[q])) q) hf⟩
  rcases hx with hx | hx
  ·exact .inl (by simp;lia)
  ·exact .inr (by simp;lia)
 self:=λ_ _ _ _ _ st h=>wpAny_pyIter_zip st.1 h
section
variable{X:Cx}{l l2:Expr}{tl jD:TE}{elts:List Expr}{p pos lP:Pos}
def OO(K:PySem.W.Frag)(tl jD:TE):TI:=fun σ H R=>tl σ H λx H1=>jD σ H1 λy H2=>∃a b,x=.ref a/\y=.ref b/\(∃xs,af K H2 a xs)/\(∃ys,af K H2 b ys)/\R (kD K a b) H2
theorem Fv{x1}(hg:Gl X "zip")(hm:X.mg "zip"=none)(hl:PE X l tl)(bM:PE X l2 jD)(hs:starEach [l,l2] X.env=[(false,eval l X.env),(false,eval l2 X.env)]:=by rfl)(df:starEach [l2] X.env=[(false,eval l2 X.env)]:=by rfl) :
  PI X (.Tuple elts x1 lP) (.Call (.Name "zip" p) [l,l2] [] pos) (OO X.K tl jD):=by
 intro aa s σ H R I h
 refine Call_ (iO I hg hm boot_zip (PyProof.Rows.callWith_type1 ?_ (by rw[hs,df]) (by rw[df];rfl)))
 rw[hs]
 show wpAny _ _ (spliced ((false,eval l X.env)::(false,eval l2 X.env)::backTo pos (starEach [] X.env))) _ _ s
 refine Calls.spliced_cons (au (hl aa s σ H _ I h) λu s1 ⟨x,H1,I1,r1,q1⟩=>Calls.spliced_cons (au (bM aa s1 σ H1 _ I1 q1) λu2 s2 ⟨y,H2,I2,r2,q2⟩=>Calls.spliced_nil ?_))
 obtain⟨a,b,rfl,rfl,⟨xs,gq⟩,⟨ys,ir⟩,q⟩:=q2
 cases r1
 cases r2
 obtain⟨ad,rv,pl,hz⟩:=I2.list gq
 obtain⟨tH,qv,qw,aR⟩:=I2.list ir
 have la:a<s2.heap.objs.size:=by obtain⟨_,e,_⟩:=pl.isList;exact ZY e
 have lb:b<s2.heap.objs.size:=by obtain⟨_,e,_⟩:=qw.isList;exact ZY e
 refine call_zip_2 pl.isList qw.isList λh' g1 g2 g3 g4 g5 g6 g7=>?_
 have D:ZipApart (s2.heap.objs.size+4) (s2.heap.objs.size+2) (s2.heap.objs.size+3) s2.heap.objs.size (s2.heap.objs.size+1) a b:=zipApart_new la lb
 have T:=ON (P:=X.prog) (w:=X.w) (K:=X.K) (elts:=elts) (x1:=x1) (pos:=lP) a b _ _ _ _ _ D
 refine T.self _ 0 _ _ _ ⟨g1,g2,⟨_,_,g3⟩,g4,g5⟩ ?_
 refine⟨s2.heap.objs.size+4,_,_,_,H2,rfl,I2.kept (t':=s2.toks) g7,T,⟨g1,g2,⟨_,_,g3⟩,g4,g5⟩,λc hb=>?_,q⟩
 have cv:s2.heap.objs.size<=c:=by
  simp only[ZZ,a0l,or_false] at hb
  rcases hb with rfl | rfl | rfl | rfl | rfl
  ·exact a1b _ _
  ·exact a1b _ _
  ·exact a1b _ _
  ·exact Z0 _
  ·exact a1b _ _
 exact I2.pZ cv (I2.am.fresh cv)
end
theorem OP{K:PySem.W.Frag}{a b:Addr}{xs ys:List V}{G:V->Hp->(List V->Hp->Prop)->List V->Prop}{Fin:List V->Hp->Prop}{H:Hp}(Pv:Nat->List V->Hp->Prop)(b9:xs.length=ys.length)(h0:Pv 0 [] H)
  (hl:∀i zs H,i<=xs.length->Pv i zs H->af K H a xs/\af K H b ys) (hz:∀i zs H,i<xs.length->Pv i zs H->zs.length<sizeLine)
  (hs:∀i x y zs H t,xs[i]?=some x->ys[i]?=some y->Pv i zs H->H t=none->G (.ref t) (upd H t (.tup [x,y])) (Pv (i+1)) zs) (hd:∀zs H,Pv xs.length zs H->Fin zs H) :
  ∃W:Nat->Nat->List V->Hp->Prop,(∃m,W 0 m [] H)/\∀i m zs H,W i m zs H->
   ((kD K a b).stop i H/\Fin zs H)\/((kD K a b).go i H/\zs.length<sizeLine/\∃Nx:List V->Hp->Prop,(∀cJ H',Nx cJ H'->∃m',m'<m/\W (i+1) m' cJ H')/\∀x H',(kD K a b).gN i H x H'->G x H' Nx zs):=by
 refine⟨λi m zs H=>m=xs.length-i/\i<=xs.length/\Pv i zs H,⟨xs.length,by simp,a0w _,h0⟩,?_⟩
 rintro i m zs H ⟨rfl,hi,p⟩
 obtain⟨q1,q2⟩:=hl i zs H hi p
 by_cases aT:i<xs.length
 ·have e1:xs[i]?=some xs[i]:=by simp[aT]
  have e2:ys[i]?=some (ys[i]'(by lia)):=by simp
  refine .inr ⟨⟨xs,ys,_,_,q1,q2,e1,e2⟩,hz i zs H aT p,Pv (i+1),λcJ H' p'=>⟨xs.length-(i+1),by lia,rfl,aT,p'⟩,λv H' y=>?_⟩
  obtain⟨t,x,y,rfl,ht,y1,y2,rfl⟩:=y
  exact hs i x y zs H t (y1 xs q1) (y2 ys q2) p ht
 ·have e:i=xs.length:=by lia
  subst e
  exact .inl ⟨⟨xs,ys,q1,q2,.inl (Z0 _)⟩,hd zs H p⟩
end L2
namespace Ma
def ups(b n L:Nat):List Nat:=(List.range L).map λj=>n / b ^ j % b
def aI(b n L i:Nat):List Nat:=(List.range i).map λj=>n / b ^ (L-1-j) % b
theorem OQ(b n i:Nat):ups b n (i+1)=ups b n i++[n / b ^ i % b]:=by
 unfold ups;rw[a2r,a0p];rfl
theorem yd(b n L i:Nat):aI b n L (i+1)=aI b n L i++[n / b ^ (L-1-i) % b]:=by
 unfold aI;rw[a2r,a0p];rfl
theorem OR(b n L:Nat):(ups b n L).length=L:=by simp[ups]
theorem W_(b n L i:Nat):(aI b n L i).length=i:=by simp[aI]
theorem OS(b n L:Nat):(ups b n L).reverse=aI b n L L:=by
 apply List.ext_getElem
 ·simp[ups,aI]
 ·intro i h1 h2
  simp[ups,aI]
theorem OT(b n i:Nat):n / b ^ i / b=n / b ^ (i+1):=by rw[a0U,a1q]
theorem ye:∀(ps:List Nat),(∀p∈ps,1<=p/\p<=6)->ps.length<=ps.sum/\ps.sum<=6*ps.length
 | [],_=>by simp
 | p::r,h=>by
  have h1:=h p (by simp)
  have h2:=ye r λq hq=>h q (Z5 _ hq)
  simp only[a0r,a0k]
  lia
theorem tI:∀(ps:List Nat),(ps.map λ(p:Nat)=>(p:Int)).sum=((ps.sum:Nat):Int)
 | []=>rfl
 | p::r=>by simp[tI r]
end Ma
namespace Ma
def a9:List Nat->List Int->List (List Int)
 | [],_=>[]
 | p::ps,xs=>xs.take p::a9 ps (xs.drop p)
def tJ(ps:List Nat)(xs:List Int):List Int:=(a9 ps xs).map List.sum
def OU:Nat->List Nat->List Nat
 | _,[]=>[]
 | o,p::ps=>(o+p)::OU (o+p) ps
end Ma
namespace Ma
def eG(b n L:Nat)(ws:List Int):List Int:=List.zipWith (λ(d:Nat) (x:Int)=>(d:Int)*x) (aI b n L L) ws
theorem Fw(b n L:Nat)(ws:List Int)(h:ws.length=L):(eG b n L ws).length=L:=by
 unfold eG;rw[List.length_zipWith,W_,h,Nat.min_self]
theorem OV{b n L d:Nat}(hb:0<b)(h:d∈aI b n L L):d<b:=by
 unfold aI at h
 obtain⟨j,_,rfl⟩:=a0a.mp h
 exact a2j _ hb
theorem iu(ps:List Nat):∀xs:List Int,(a9 ps xs).length=ps.length:=by
 induction ps with
 | nil=>intro xs;rfl
 | cons p ps ih=>intro xs;simp[a9,ih]
theorem tL(ps:List Nat):∀(xs:List Int) (i p:Nat),ps[i]?=some p->(a9 ps xs)[i]?=some ((xs.drop (ps.take i).sum).take p):=by
 induction ps with
 | nil=>intro xs i p h;simp at h
 | cons q ps ih =>
  intro xs i p h
  cases i with
  | zero=>simp at h;subst h;simp[a9]
  | succ i =>
   have h':ps[i]?=some p:=by simpa using h
   have:=ih (xs.drop q) i p h'
   simp only[a9,a1m,this,List.take_succ_cons,a0r,a2e]
theorem qx{ps:List Nat}:∀ {xs row:List Int},row∈a9 ps xs->∀x∈row,x∈xs:=by
 induction ps with
 | nil=>intro xs row h;simp[a9] at h
 | cons p ps ih =>
  intro xs row h x hx
  rcases ZZ.mp h with rfl | h
  ·exact a1a hx
  ·exact a1A (ih h x hx)
theorem qy{ps:List Nat}(hp:∀p∈ps,p<=6):∀ {xs row:List Int},row∈a9 ps xs->row.length<=6:=by
 induction ps with
 | nil=>intro xs row h;simp[a9] at h
 | cons p ps ih =>
  intro xs row h
  rcases ZZ.mp h with rfl | h
  ·have:=hp p (by simp);rw[a0g];lia
  ·exact ih (λq hq=>hp q (Z5 _ hq)) h
end Ma
namespace Ma
def bD:List Int->Int
 | []=>0
 | [x]=>x
 | x::r=>max x (bD r)
def aV:List Int->Int
 | []=>0
 | [x]=>x
 | x::r=>min x (aV r)
theorem L_:∀ns:List Int,0<ns.length->bD ns∈ns/\∀n∈ns,n<=bD ns
 | [],h=>by simp at h
 | [x],_=>by simp[bD]
 | x::y::r,_=>by
  have ih:=L_ (y::r) (by simp)
  have e:bD (x::y::r)=max x (bD (y::r)):=rfl
  rw[e]
  refine⟨?_,λn hn=>?_⟩
  ·rcases Int.le_total x (bD (y::r)) with h | h
   ·rw[Int.max_eq_right h];exact Z5 _ ih.1
   ·rw[Int.max_eq_left h];simp
  ·rcases ZZ.mp hn with rfl | hn
   ·exact Int.le_max_left _ _
   ·exact a1P (ih.2 n hn) (Int.le_max_right _ _)
theorem E_:∀ns:List Int,0<ns.length->aV ns∈ns/\∀n∈ns,aV ns<=n
 | [],h=>by simp at h
 | [x],_=>by simp[aV]
 | x::y::r,_=>by
  have ih:=E_ (y::r) (by simp)
  have e:aV (x::y::r)=min x (aV (y::r)):=rfl
  rw[e]
  refine⟨?_,λn hn=>?_⟩
  ·rcases Int.le_total x (aV (y::r)) with h | h
   ·rw[Int.min_eq_left h];simp
   ·rw[Int.min_eq_right h];exact Z5 _ ih.1
  ·rcases ZZ.mp hn with rfl | hn
   ·exact Int.min_le_left _ _
   ·exact a1P (Int.min_le_right _ _) (ih.2 n hn)
theorem Fx{ns:List Int}{m:Int}(h1:m∈ns)(h2:∀n∈ns,n<=m):m=bD ns:=by
 have h:=L_ ns (a1d h1)
 exact Int.le_antisymm (h.2 m h1) (h2 _ h.1)
theorem Fy{ns:List Int}{m:Int}(h1:m∈ns)(h2:∀n∈ns,m<=n):m=aV ns:=by
 have h:=E_ ns (a1d h1)
 exact Int.le_antisymm (h2 _ h.1) (h.2 m h1)
end Ma
namespace L2
open PySem PySem.Spec PyProof.Rows
structure ak(P:Program)(w:World)(K:PySem.W.Frag)(mg:Str->Option Value)(base:Heap)(k:Nat)(x:Str)(ps:List Str)(sp:Sp):Prop where
 ex:∃f fd,ax P w K mg base aK k f fd ps sp/\mg x=some (.ref f)/\PySem.W.keepIn K (.ref f)=true/\Binds K fd ps []
section
variable{X:Cx}{k:Nat}{x:Str}{ps:List Str}{sp:Sp}{e a b c:Expr}{es:List Expr}{t:TA}{ta tb tc te:TE}{p pos:Pos}
theorem o_(D:ak X.prog X.w X.K X.mg X.base k x ps sp)(hr:aM k X.A)(hg:Gl X x)(ha:PA X (e::es) t)(dL:(x==("__debug__":Str))=false:=by decide)
  (he:starEach (e::es) X.env=(false,eval e X.env)::starEach es X.env:=by rfl) (hpl:(backTo pos (starEach es X.env)).any (·.1)=false:=by rfl):PE X (.Call (.Name x p) (e::es) [] pos) (xB sp [] E0 t):=by
 obtain⟨f,fd,G,h1,h2,h3⟩:=D.ex
 exact Er G hr hg h1 h2 h3 .nil sY ha dL he hpl
theorem cg(ha:PE X a ta)(hb:PE X b tb)(hs:oa b:=by intro _ _;rfl):PE X (.Subscript a b pos) (kg (sP X.K) ta tb):=EC Nw ha hb hs
theorem bX(ha:PE X a ta)(hb:PE X b tb)(hs:oa b:=by intro _ _;rfl):PE X (.Subscript a b pos) (kg (sQ X.K) ta tb):=EC Ny ha hb hs
theorem dC(hm:X.mg "len"=none)(hg:Gl X "len")(ha:PE X a ta)(hs:starEach [a] X.env=[(false,eval a X.env)]:=by rfl) :
  PE X (.Call (.Name "len" p) [a] [] pos) (xD (λxs H Q=>∃p ys,xs=[.ref p]/\(af X.K H p ys\/bo X.K H p ys)/\Q (.int ys.length) H) (gP ta lQ)):=r_ NE hg hm PySem.boot_len (a_ ha e_ hs) (he:=hs)
theorem Fz(K:PySem.W.Frag)(hK:X.K=K)(ha:PE X a ta)(hb:PE X b tb)(hs:oa b:=by intro _ _;rfl):PE X (.Subscript a b pos) (kg (sP K) ta tb):=by
 subst hK
 exact cg ha hb hs
theorem FA(K:PySem.W.Frag)(hK:X.K=K)(ha:PE X a ta)(hb:PE X b tb)(hs:oa b:=by intro _ _;rfl):PE X (.Subscript a b pos) (kg (sQ K) ta tb):=by
 subst hK
 exact bX ha hb hs
theorem FB(K:PySem.W.Frag)(hK:X.K=K):xE X (ED K):=by
 subst hK
 exact lT
theorem yf(K:PySem.W.Frag)(hK:X.K=K){k n:Nat}{u:j7}(hc:X.calm=true)(h:pY X es u)(hn:(assignEach es X.env).length=n:=by rfl)(eh:(assignEach es X.env).findIdx? (·.1)=none:=by rfl):PG X (.Tuple es k pos) (xk K n u):=by
 subst hK
 exact ss hc h hn eh
theorem tM(P:Program)(w:World)(hP:X.prog=P)(hw:X.w=w)(hu:X.A.units+64<cLine):cu X (compareOp .NotEq) (qq P w true):=by
 subst hP hw
 exact Oy hu
theorem yg{K:PySem.W.Frag}:qk 2 (xk K 2 (xj (jw 0) (xj (jw 1) DU))):=λv σ H Q q=>by
 obtain⟨a,xs,e,h1,h2,v0,r0,e0,v1,r1,e1,e2,q⟩:=q
 exact⟨a,xs,e,h1,h2,v0,r0,e0,v1,r1,e1,e2,⟨by simp,λi hi=>by rw[a1j (by lia),a1j (by lia)]⟩,q⟩
theorem qz{y:Str}{T:String}(hm:X.mg y=none)(hv:bootBuiltins y=some (.type T))(hg:Gl X y:=by rfl)(hn:y≠"__name__":=by decide)(hd:(y==("__debug__":Str))=false:=by decide):PE X (.Name y pos) (tC (.ty T)) :=
 L7 (v:=.ty T) hg hm hv rfl hn hd
theorem eY{K:PySem.W.Frag}{H:Hp}{q:Addr}{xs:List V}{i:Int}{v:V}{Q:VK}(h:H q=some (.lst xs))(e:dQ xs i=some v)(k:Q v H):sP K (.ref q) (.int i) H Q:=⟨q,xs,i,v,rfl,rfl,af.of h,e,k⟩
theorem tN{K:PySem.W.Frag}{H:Hp}{q:Addr}{xs:List V}{i:Int}{v:V}{Q:VK}(h:H q=some (.tup xs))(e:dQ xs i=some v)(k:Q v H):sQ K (.ref q) (.int i) H Q:=⟨q,xs,i,v,rfl,rfl,bo.of h,e,k⟩
theorem yh{xs:List V}{i:Int}{Pr:V->Prop}(h0:0<=i)(h1:i<xs.length)(h:∀x∈xs,Pr x):∃v,dQ xs i=some v/\Pr v:=by
 obtain⟨j,rfl⟩:∃j:Nat,i=j:=⟨i.toNat,by lia⟩
 have hj:j<xs.length:=by lia
 exact⟨xs[j],km (by simp[hj]),h _ (List.getElem_mem hj)⟩
end
end L2
namespace Hv
open PySem L2
theorem sz{n:Nat}(h:n<=1000000):n<=sizeLine:=Z9 h (by decide)
theorem cq{n:Nat}(h:n<=1000000):n<sizeLine:=a1v h (by decide)
def Kp(fp:List Addr)(H H':Hp):Prop:=∀b o,H b=some o->b∉fp->H' b=some o
theorem Kp.refl{fp:List Addr}{H:Hp}:Kp fp H H:=λ_ _ h _=>h
theorem Kp.trans{fp:List Addr}{H H1 H2:Hp}(a:Kp fp H H1)(b:Kp fp H1 H2):Kp fp H H2:=λc o h n=>b c o (a c o h n) n
theorem Kp.of{fp:List Addr}{H H':Hp}(a:ag H H'):Kp fp H H':=λc o h _=>a c o h
theorem Kp.same{fp:List Addr}{H H1 H2:Hp}(a:Kp fp H H1)(b:ag H1 H2):Kp fp H H2:=λc o h n=>b c o (a c o h n)
theorem b_{H:Hp}{a:Addr}{o:HO}(h:H a=none):ag H (upd H a o):=λb u e=>by rw[i_ (l_ e h)];exact e
theorem iY{H H':Hp}{a:Addr}{o:HO}(s:ag H H')(h:H a=none):ag H (upd H' a o):=λb u e=>by rw[i_ (l_ e h)];exact s b u e
theorem l8{fp:List Addr}{H H':Hp}{a:Addr}{o:HO}(s:Kp fp H H')(h:a∈fp\/H a=none):Kp fp H (upd H' a o):=λb u e n=>by
 have:b≠a:=by
  rcases h with h | h
  ·exact λz=>n (z▸h)
  ·exact l_ e h
 rw[i_ this];exact s b u e n
structure l9(b:Nat)(ps:List Nat)(ws:List Int):Prop where
 b2:2<=b
 dS:b<=16
 l2:2<=ps.length
 l4:ps.length<=4
 pr:∀p∈ps,1<=p/\p<=6
 wl:ws.length=ps.sum
 wr:∀x∈ws,-9<=x/\x<=9
abbrev ay(ps:List Nat):List V:=ps.map λ(p:Nat)=>V.int (p:Int)
theorem tO(ps:List Nat):ay ps=(ps.map λ(p:Nat)=>(p:Int)).map V.int:=by simp[ay]
structure aS(H:Hp)(f a c:Addr)(b:Nat)(ps:List Nat)(ws:List Int):Prop where
 tp:H f=some (.tup [.int b,.ref a,.ref c])
 hp:H a=some (.lst (ay ps))
 hw:H c=some (.lst (ws.map V.int))
 ok:l9 b ps ws
theorem aS.keep{H H':Hp}{f a c:Addr}{b:Nat}{ps:List Nat}{ws:List Int}(F:aS H f a c b ps ws)(s:ag H H'):aS H' f a c b ps ws:=⟨s _ _ F.tp,s _ _ F.hp,s _ _ F.hw,F.ok⟩
theorem l9.sum{b:Nat}{ps:List Nat}{ws:List Int}(F:l9 b ps ws):2<=ps.sum/\ps.sum<=24:=by
 have h:=Ma.ye ps F.pr
 have h1:=F.l2
 have h2:=F.l4
 lia
theorem Kp.free{fp:List Addr}{H H':Hp}(s:Kp fp H H'){l:Addr}(h:H' l=none)(n:l∉fp):H l=none:=by
 cases q:H l with
 | none=>rfl
 | some o =>
  rw[s l o q n] at h
  cases h
theorem boot_isinstance:bootBuiltins "isinstance"=some (.builtin "isinstance"):=PyProof.Rows.boot_isinstance
theorem boot_int:bootBuiltins "int"=some (.type "int"):=PyProof.Rows.boot_int
theorem boot_bool:bootBuiltins "bool"=some (.type "bool"):=PyProof.Rows.boot_bool
theorem boot_list:bootBuiltins "list"=some (.type "list"):=PyProof.Rows.boot_list
theorem boot_tuple:bootBuiltins "tuple"=some (.type "tuple"):=PyProof.Rows.boot_tuple
theorem boot_all:bootBuiltins "all"=some (.builtin "all"):=PyProof.Rows.boot_all
theorem boot_sum:bootBuiltins "sum"=some (.builtin "sum"):=PyProof.Rows.boot_sum
theorem boot_max:bootBuiltins "max"=some (.builtin "max"):=PyProof.Rows.boot_max
theorem boot_min:bootBuiltins "min"=some (.builtin "min"):=PyProof.Rows.boot_min
structure Txt(mg:Str->Option Value):Prop where
 eI:mg "isinstance"=none
 int:mg "int"=none
 bool:mg "bool"=none
 list:mg "list"=none
 tuple:mg "tuple"=none
 all:mg "all"=none
 len:mg "len"=none
 sum:mg "sum"=none
 range:mg "range"=none
 max:mg "max"=none
 min:mg "min"=none
 rev:mg "reversed"=none
 zip:mg "zip"=none
 enum:mg "enumerate"=none
section
variable{K:PySem.W.Frag}
theorem OW:PySem.W.kitOne K (.type "int") (.type "int")=some true:=by kernel_rfl
theorem OX:PySem.W.kitOne K (.type "int") (.type "bool")=some false:=by kernel_rfl
theorem OY:PySem.W.kitOne K (.type "bool") (.type "int")=some true:=by kernel_rfl
theorem OZ:PySem.W.kitOne K (.type "bool") (.type "bool")=some true:=by kernel_rfl
theorem O0:PySem.W.kitOne K (.type "NoneType") (.type "int")=some false:=by kernel_rfl
theorem O3:PySem.W.kitOne K (.type "str") (.type "int")=some false:=by kernel_rfl
theorem O4:PySem.W.kitOne K (.type "list") (.type "int")=some false:=by kernel_rfl
theorem O5:PySem.W.kitOne K (.type "tuple") (.type "int")=some false:=by kernel_rfl
theorem O6:PySem.W.kitOne K (.type "dict") (.type "int")=some false:=by kernel_rfl
theorem O7:PySem.W.kitOne K (.type "list") (.type "list")=some true:=by kernel_rfl
theorem FC:PySem.W.kitOne K (.type "tuple") (.type "tuple")=some true:=by kernel_rfl
end
inductive cA(H:Hp):V->Prop where
 | aw:cA H .aw
 | bl (b:Bool):cA H (.bl b)
 | int (i:Int):cA H (.int i)
 | str (x:Str):cA H (.str x)
 | lst {a:Addr} {xs:List V} (e:H a=some (.lst xs)):cA H (.ref a)
 | tup {a:Addr} {xs:List V} (e:H a=some (.tup xs)):cA H (.ref a)
 | dK {a:Addr} {kvs:List (aE×V)} (e:H a=some (.dK kvs)):cA H (.ref a)
theorem cA.keep{H H':Hp}{v:V}(t:cA H v)(s:ag H H'):cA H' v:=by
 cases t with
 | aw=>exact .aw
 | bl b=>exact .bl b
 | int i=>exact .int i
 | str x=>exact .str x
 | lst e=>exact .lst (s _ _ e)
 | tup e=>exact .tup (s _ _ e)
 | dK e=>exact .dK (s _ _ e)
def tP:V->Bool
 | .int _=>true
 | _=>false
def cC(v:V)(lo hi:Int):Bool:=match v with
 | .int i=>decide (lo<=i)&&decide (i<=hi)
 | _=>false
def ma:Sp:=λvs H Q _=>∃v,vs=[v]/\cA H v/\Q (.bl (tP v)) H
def me:Sp:=λvs H Q _=>∃v lo hi,vs=[v,.int lo,.int hi]/\cA H v/\Q (.bl (cC v lo hi)) H
def FD:Sp:=λvs H Q _=>∃f a c b ps ws,vs=[.ref f]/\aS H f a c b ps ws/\∀H',ag H H'->Q (.bl true) H'
def G_:Sp:=λvs H Q _=>∃f a c b ps ws,vs=[.ref f]/\aS H f a c b ps ws/\∀H',ag H H'->Q .aw H'
def qA:Sp:=λvs H Q _=>∃f a c b ps ws,vs=[.ref f]/\aS H f a c b ps ws/\∀H',ag H H'->Q (.int ((b ^ ps.sum:Nat):Int)) H'
def yi:Sp:=λvs H Q _=>∃f a c b ps ws,∃n:Nat,vs=[.ref f,.int n]/\aS H f a c b ps ws/\n<b ^ ps.sum/\∀H',ag H H'->Q .aw H'
def yj:Sp:=λvs H Q _=>∃f a c b ps ws,∃n:Nat,vs=[.ref f,.int n]/\aS H f a c b ps ws/\n<b ^ ps.sum/\
 ∀r H',H r=none->ag H H'->H' r=some (.lst (ay (Ma.aI b n ps.sum ps.sum)))->Q (.ref r) H'
def top (i : Nat) : Stmt := PySem.Challenge.pw_likehalves_k34_what_a_keeper_refuses.main.body.getD i (.Pass ⟨0, 0, 0, 0⟩)
abbrev yk:Stmt:=top 13
abbrev yl:Stmt:=top 14
abbrev tQ:Stmt:=top 15
abbrev ym:Stmt:=top 16
abbrev tR:Stmt:=top 17
abbrev yn:Stmt:=top 18
abbrev yo:Stmt:=top 19
abbrev yp:Stmt:=top 20
abbrev yq:Stmt:=top 21
abbrev yr:Stmt:=top 23
abbrev tS:Stmt:=top 24
abbrev tU:Stmt:=top 25
abbrev yt:Stmt:=top 26
abbrev yu:Stmt:=top 27
abbrev yv:Stmt:=top 28
abbrev tV:Stmt:=top 29
abbrev yw:Stmt:=top 30
abbrev yx:Stmt:=top 31
abbrev ot:Stmt:=top 32
abbrev tW:Stmt:=top 33
abbrev tX:Stmt:=top 35
abbrev tY:Stmt:=top 36
abbrev qB:Stmt:=top 37
abbrev yy:Stmt:=top 38
abbrev tZ:Stmt:=top 40
abbrev t8:Stmt:=top 41
abbrev ua:Stmt:=top 42
abbrev yz:Stmt:=top 43
abbrev yA:Stmt:=top 44
abbrev qC:Stmt:=top 45
abbrev yB:Stmt:=top 46
abbrev yC:Stmt:=top 47
abbrev ub:Stmt:=top 48
abbrev uc:Stmt:=top 49
abbrev yD:Stmt:=top 51
abbrev ud:Stmt:=top 52
abbrev yE:Stmt:=top 55
abbrev yF:Stmt:=top 56
abbrev yG:Stmt:=top 57
abbrev ue:Stmt:=top 58
abbrev yH:Stmt:=top 59
abbrev Y7:Stmt:=top 60
abbrev kF:Stmt:=top 61
abbrev kG:Stmt:=top 62
abbrev ou:Stmt:=top 63
abbrev yI:Stmt:=top 64
abbrev B_:Stmt:=top 65
abbrev yJ:Stmt:=top 66
abbrev kH:Stmt:=top 67
abbrev uf:Stmt:=lW (top 53) 0
abbrev ug:Stmt:=lW (top 53) 1
abbrev uh:Stmt:=lW (top 53) 2
abbrev yK:Stmt:=lW (top 53) 3
abbrev ui:Stmt:=lW (top 53) 4
abbrev uj:Stmt:=lW (top 53) 5
abbrev yL:Stmt:=lW (top 53) 6
end Hv
namespace L2
open PySem PySem.Spec PyProof.Rows
section
variable{X:Cx}
theorem uk{ns:List Int}{ad:List Value}(rv:aB (ns.map V.int) ad){i:Nat}{v:Value}(hv:ad[i]?=some v):∃n t,ns[i]?=some n/\v=.int n t:=by
 cases eb:ns[i]? with
 | none =>
  have:=rv.none_of (i:=i) (by rw[Z2,eb];rfl)
  rw[this] at hv;cases hv
 | some b =>
  obtain⟨u,hu,ru⟩:=rv.get (i:=i) (x:=.int b) (by rw[Z2,eb];rfl)
  rw[hu] at hv;cases hv
  obtain⟨t,rfl⟩:=ru
  exact⟨b,t,rfl,rfl⟩
theorem FE(hc:X.calm=true):dm X (.builtin "max") (λxs H Q=>∃(p:Addr) (ns:List Int),xs=[.ref p]/\af X.K H p (ns.map V.int)/\0<ns.length/\Q (.int (Ma.bD ns)) H):=by
 intro aa s σ H xs us Q I r h
 obtain⟨p,ns,rfl,hq,aZ,q⟩:=h
 obtain⟨u,rfl,rx⟩:=vals1 r
 cases rx
 obtain⟨ad,rv,pl,hz⟩:=I.list hq
 have hl:=pl.isList
 have aT:p<s.heap.objs.size:=by obtain⟨_,e,_⟩:=hl;exact ZY e
 have hn:ad.toArray.size=ns.length:=by rw[Z4,<-rv.length,ZW]
 have iw:∀(i:Nat) (v:Value),ad.toArray[i]?=some v->∃t,v=.int ((λi=>(ns[i]?).getD 0) i) t:=λi v hP=>by
  obtain⟨n,t,e,rfl⟩:=uk rv (i:=i) (v:=v) (by simpa using hP)
  exact⟨t,by simp[e]⟩
 refine call_max_walk (wpAny_pyIter_list hl ?_)
 refine⟨_,_,_,_,_,_,_,rfl,Walks.list (A:=X.A.in1) (I.ok.hd hc) s.heap.objs.size p (a0c aT) ad.toArray,⟨⟨_,Z3 _ rfl,rfl,rfl⟩,hl.push _⟩,λb cv=>?_,by lia,CmpOf.ints_gt (λi=>(ns[i]?).getD 0) iw,λv h' tk hP hk=>?_⟩
 ·show b<(s.heap.push _).objs.size
  rw[a0x]
  rcases ZZ.mp cv with rfl | cv
  ·exact a0I _
  ·have e:b=p:=by simpa using cv
   rw[e];exact a1c aT
 ·rw[hn] at hP
  have ab:=argBest_gt (λi=>(ns[i]?).getD 0) (ns.length-1)
  obtain⟨n,t,e,rfl⟩:=uk rv (i:=argBest (λi j=>decide ((ns[i]?).getD 0>(ns[j]?).getD 0)) (ns.length-1)) (v:=v) (by simpa using hP)
  have em:n=Ma.bD ns:=Ma.Fx (Z1 e) λm hm=>by
   obtain⟨j,hj⟩:=a0P hm
   have yM:=(ZX.mp hj).1
   have a2:=ab.2 j (by lia)
   simp only[hj,e,a2k] at a2
   exact a2
  subst em
  exact⟨.int _,H,(show Inv X aa σ H {s with heap:=h',toks:=tk} from seen I hk),⟨_,rfl⟩,q⟩
theorem yN(hc:X.calm=true):dm X (.builtin "min") (λxs H Q=>∃(p:Addr) (ns:List Int),xs=[.ref p]/\af X.K H p (ns.map V.int)/\0<ns.length/\Q (.int (Ma.aV ns)) H):=by
 intro aa s σ H xs us Q I r h
 obtain⟨p,ns,rfl,hq,aZ,q⟩:=h
 obtain⟨u,rfl,rx⟩:=vals1 r
 cases rx
 obtain⟨ad,rv,pl,hz⟩:=I.list hq
 have hl:=pl.isList
 have aT:p<s.heap.objs.size:=by obtain⟨_,e,_⟩:=hl;exact ZY e
 have hn:ad.toArray.size=ns.length:=by rw[Z4,<-rv.length,ZW]
 have iw:∀(i:Nat) (v:Value),ad.toArray[i]?=some v->∃t,v=.int ((λi=>(ns[i]?).getD 0) i) t:=λi v hP=>by
  obtain⟨n,t,e,rfl⟩:=uk rv (i:=i) (v:=v) (by simpa using hP)
  exact⟨t,by simp[e]⟩
 refine call_min_walk (wpAny_pyIter_list hl ?_)
 refine⟨_,_,_,_,_,_,_,rfl,Walks.list (A:=X.A.in1) (I.ok.hd hc) s.heap.objs.size p (a0c aT) ad.toArray,⟨⟨_,Z3 _ rfl,rfl,rfl⟩,hl.push _⟩,λb cv=>?_,by lia,CmpOf.ints_lt (λi=>(ns[i]?).getD 0) iw,λv h' tk hP hk=>?_⟩
 ·show b<(s.heap.push _).objs.size
  rw[a0x]
  rcases ZZ.mp cv with rfl | cv
  ·exact a0I _
  ·have e:b=p:=by simpa using cv
   rw[e];exact a1c aT
 ·rw[hn] at hP
  have ab:=argBest_lt (λi=>(ns[i]?).getD 0) (ns.length-1)
  obtain⟨n,t,e,rfl⟩:=uk rv (i:=argBest (λi j=>decide ((ns[i]?).getD 0<(ns[j]?).getD 0)) (ns.length-1)) (v:=v) (by simpa using hP)
  have em:n=Ma.aV ns:=Ma.Fy (Z1 e) λm hm=>by
   obtain⟨j,hj⟩:=a0P hm
   have yM:=(ZX.mp hj).1
   have a2:=ab.2 j (by lia)
   simp only[hj,e,a2k] at a2
   exact a2
  subst em
  exact⟨.int _,H,(show Inv X aa σ H {s with heap:=h',toks:=tk} from seen I hk),⟨_,rfl⟩,q⟩
end
section
variable{X:Cx}{e st:Expr}{te ts:TE}{pos p2:Pos}{tg:Expr}
end
section
variable{κ:Type}[DecidableEq κ]
def f6(kvs:List (κ×V))(k:κ):Option V:=(kvs.find? λkv=>decide (kv.1=k)).map (·.2)
def dU(kvs:List (κ×V))(k:κ)(v:V):List (κ×V) :=
 if (kvs.any λkv=>decide (kv.1=k))=true then kvs.map (λkv=>if kv.1=k then (kv.1,v) else kv) else kvs++[(k,v)]
theorem ul{p:κ×V}{r:List (κ×V)}{k:κ}(e:p.1=k):f6 (p::r) k=some p.2:=by simp[f6,a0Z,e]
theorem um{p:κ×V}{r:List (κ×V)}{k:κ}(e:¬ p.1=k):f6 (p::r) k=f6 r k:=by simp[f6,a0Z,e]
theorem FF(k:κ):∀kvs:List (κ×V),(kvs.any λkv=>decide (kv.1=k))=(f6 kvs k).isSome
 | []=>rfl
 | p::r=>by
  rw[a2I]
  by_cases e:p.1=k
  ·simp only[ul e,decide_eq_true e,Bool.true_or,Option.isSome_some]
  ·rw[um e,decide_eq_false e,Bool.false_or];exact FF k r
theorem yO(kvs:List (κ×V))(k:κ)(v:V):(dU kvs k v).length<=kvs.length+1:=by
 unfold dU
 split
 ·rw[ZW];omega
 ·rw[a0j,a0k,a2Q];omega
theorem dO.O8{o:Option V}{u:Option Value}(r:dO o u):o.isSome=u.isSome:=by
 cases o with
 | none=>cases u with
  | none=>rfl
  | some _=>exact(show False from r).elim
 | some _=>cases u with
  | none=>exact(show False from r).elim
  | some _=>rfl
theorem dO.getD{o:Option V}{u:Option Value}{d:V}{d':Value}(r:dO o u)(rd:RelV d d'):RelV (o.getD d) (u.getD d'):=by
 cases o with
 | none=>cases u with
  | none=>exact rd
  | some _=>exact(show False from r).elim
 | some _=>cases u with
  | none=>exact(show False from r).elim
  | some _=>exact r
theorem KV.val{kvs:List (κ×V)}{vs:List (κ×Value)}(r:KV kvs vs)(k:κ):dO (f6 kvs k) (valueAt vs k):=by
 unfold KV at r
 induction r with
 | nil=>exact True.intro
 | @cons p q ps qs h t ih =>
  obtain⟨h1,h2⟩:=h
  by_cases e:p.1=k
  ·have e':q.1=k:=h1.symm.trans e
   have b:valueAt (q::qs) k=some q.2:=by simp[valueAt,a0Z,e']
   rw[ul e,b];exact h2
  ·have e':¬ q.1=k:=λz=>e (h1.trans z)
   have b:valueAt (q::qs) k=valueAt qs k:=by simp[valueAt,a0Z,e']
   rw[um e,b];exact ih
theorem KV.any{kvs:List (κ×V)}{vs:List (κ×Value)}(r:KV kvs vs)(k:κ):(kvs.any λkv=>decide (kv.1=k))=vs.any λkv=>decide (kv.1=k):=by
 unfold KV at r
 induction r with
 | nil=>rfl
 | cons h t ih=>rw[a2I,a2I,ih,h.1]
theorem KV.yP{kvs:List (κ×V)}{vs:List (κ×Value)}(r:KV kvs vs)(k:κ){y:V}{u:Value}(ry:RelV y u) :
  KV (kvs.map λkv=>if kv.1=k then (kv.1,y) else kv) (vs.map λkv=>if kv.1=k then (kv.1,u) else kv):=by
 unfold KV at r⊢
 induction r with
 | nil=>exact .nil
 | @cons p q ps qs h t ih =>
  rw[a0f,a0f]
  refine .cons ?_ ih
  obtain⟨h1,h2⟩:=h
  by_cases e:p.1=k
  ·rw[if_pos e,if_pos (h1.symm.trans e)];exact⟨h1,ry⟩
  ·rw[if_neg e,if_neg (λz=>e (h1.trans z))];exact⟨h1,h2⟩
theorem KV.put{kvs:List (κ×V)}{vs:List (κ×Value)}(r:KV kvs vs)(k:κ){y:V}{u:Value}(ry:RelV y u):KV (dU kvs k y) (stored vs k u):=by
 unfold dU stored
 rw[r.any k]
 by_cases e:(vs.any λkv=>decide (kv.1=k))=true
 ·rw[if_pos e,if_pos e];exact r.yP k ry
 ·rw[if_neg e,if_neg e];exact Paired.snoc r ⟨rfl,ry⟩
theorem KV.keys{kvs:List (κ×V)}{vs:List (κ×Value)}(r:KV kvs vs):kvs.map (·.1)=vs.map (·.1):=by
 unfold KV at r
 induction r with
 | nil=>rfl
 | cons h t ih=>rw[a0f,a0f,ih,h.1]
theorem KV.length{kvs:List (κ×V)}{vs:List (κ×Value)}(r:KV kvs vs):kvs.length=vs.length:=Paired.length r
end
theorem ow{P:Program}{w:World}{k:aE}{u:Value}(r:RelV (kV k) u):(y_ P w).is k u=true:=by
 cases k with
 | inl i=>obtain⟨t,e⟩:=(show ∃t,u=Value.int i t from r);subst e;exact LP P w i t
 | inr x=>obtain⟨t,e⟩:=(show ∃t,u=Value.str x t from r);subst e;exact LQ P w x t
theorem FG{P:Program}{w:World}:∀ {ks:List aE} {us:List Value},aB (ks.map kV) us->ItemsAre (y_ P w) ks us
 | [],_,r=>by rw[a2d] at r;cases r;exact .nil
 | k::ks,_,r=>by
  rw[a0f] at r
  cases r with
  | cons h t=>exact .cons (ow h) (FG t)
abbrev KT(H:Hp):List (List aE×V)->List (List aE×Addr×Value)->Prop:=Paired λp q=>p.1=q.1/\H q.2.1=some (.tup (p.1.map kV))/\RelV p.2 q.2.2
theorem KT.val{H:Hp}{kvs:List (List aE×V)}{xs:List (List aE×Addr×Value)}(r:KT H kvs xs)(k:List aE):dO (f6 kvs k) ((atKey xs k).map (·.2)):=by
 induction r with
 | nil=>exact True.intro
 | @cons p q ps qs h t ih =>
  obtain⟨h1,_,h2⟩:=h
  by_cases e:p.1=k
  ·have e':q.1=k:=h1.symm.trans e
   have b:atKey (q::qs) k=some q.2:=by simp[atKey,a0Z,e']
   rw[ul e,b];exact h2
  ·have e':¬ q.1=k:=λz=>e (h1.trans z)
   have b:atKey (q::qs) k=atKey qs k:=by simp[atKey,a0Z,e']
   rw[um e,b];exact ih
theorem KT.yP{H:Hp}{kvs:List (List aE×V)}{xs:List (List aE×Addr×Value)}(r:KT H kvs xs)(k:List aE){y:V}{u:Value}(ry:RelV y u) :
  KT H (kvs.map λkv=>if kv.1=k then (kv.1,y) else kv) (xs.map (putAt k u)):=by
 induction r with
 | nil=>exact .nil
 | @cons p q ps qs h t ih =>
  rw[a0f,a0f]
  refine .cons ?_ ih
  obtain⟨h1,h2,h3⟩:=h
  unfold putAt
  by_cases e:p.1=k
  ·rw[if_pos e,if_pos (h1.symm.trans e)];exact⟨h1,h2,ry⟩
  ·rw[if_neg e,if_neg (λz=>e (h1.trans z))];exact⟨h1,h2,h3⟩
theorem KT.put{H:Hp}{kvs:List (List aE×V)}{xs:List (List aE×Addr×Value)}(r:KT H kvs xs)(k:List aE){b:Addr}{y:V}{u:Value}(hb:H b=some (.tup (k.map kV)))(ry:RelV y u) :
  KT H (dU kvs k y) (storedH xs k b u):=by
 have e:(kvs.any λkv=>decide (kv.1=k))=(atKey xs k).isSome:=by
  rw[FF,(r.val k).O8,Option.isSome_map]
 unfold dU storedH
 rw[e]
 by_cases q:(atKey xs k).isSome=true
 ·rw[if_pos q,if_pos q];exact r.yP k ry
 ·rw[if_neg q,if_neg q];exact Paired.snoc r ⟨rfl,hb,ry⟩
theorem KT.keeps{H H':Hp}{kvs:List (List aE×V)}{xs:List (List aE×Addr×Value)}(r:KT H kvs xs)(ht:∀b ys,H b=some (.tup ys)->H' b=some (.tup ys)):KT H' kvs xs :=
 Paired.iM r λ_ _ z=>⟨z.1,ht _ _ z.2.1,z.2.2⟩
section
variable{P:Program}{w:World}{H:Hp}{h:Heap}{a:Addr}
theorem FH{u:HO}(ok:bC P w H h)(e:Rd H a u):b8 P w H h a u:=e.ok ok
theorem kI{kvs:List (aE×V)}(ok:bC P w H h)(e:Rd H a (.dK kvs)):kvs.length<=sizeLine/\(a==sysModules)=false/\∃vs,KV kvs vs/\h.DictOf (y_ P w) a vs :=
 show b8 P w H h a (.dK kvs) from FH ok e
theorem mf{kvs:List (aE×V)}(ok:bC P w H h)(e:H a=some (.dK kvs)):kvs.length<=sizeLine/\(a==sysModules)=false/\∃vs,KV kvs vs/\h.DictOf (y_ P w) a vs:=kI ok (.inl e)
theorem uo{ks:List aE}(ok:bC P w H h)(e:H a=some (.tup (ks.map kV))):(tupleKind (y_ P w)).is h ks a:=by
 obtain⟨_,ad,r,o,h1,h2,n,h3⟩:=(show b8 P w H h a (.tup (ks.map kV)) from ok a _ e)
 exact⟨o,ad.toArray,n,h1,h2,h3,by simpa using FG r⟩
theorem qD{kvs:List (List aE×V)}(ok:bC P w H h)(e:Rd H a (.dT kvs)):kvs.length<=sizeLine/\(a==sysModules)=false/\
  ∃xs,KT H kvs xs/\h.DictOfH (tupleKind (y_ P w)) a xs:=by
 obtain⟨z,y,xs,r,o,es,ep,h1,h2,h3,h4,h5⟩:=(show b8 P w H h a (.dT kvs) from FH ok e)
 refine⟨z,y,xs,r,o,es,ep,h1,h2,h3,h4,λx hx=>?_,h5⟩
 have all:∀ {l:List (List aE×V)} {m:List (List aE×Addr×Value)},KT H l m->∀x∈m,(tupleKind (y_ P w)).is h x.1 x.2.1:=by
  intro l m q
  induction q with
  | nil=>intro x hx;exact nomatch hx
  | @cons p q ps qs hq t ih =>
   intro x hx
   rcases ZZ.mp hx with e | hx
   ·subst e
    exact uo ok (by rw[<-hq.1];exact hq.2.1)
   ·exact ih x hx
 exact all r x hx
theorem O9{kvs:List (List aE×V)}(ok:bC P w H h)(e:H a=some (.dT kvs)):kvs.length<=sizeLine/\(a==sysModules)=false/\
  ∃xs,KT H kvs xs/\h.DictOfH (tupleKind (y_ P w)) a xs:=qD ok (.inl e)
end
def mh(H:Hp)(a:Addr)(y:V)(r:Option V):Prop :=
 (∃kvs k,Rd H a (.dK kvs)/\y=kV k/\r=f6 kvs k)\/∃kvs k b,Rd H a (.dT kvs)/\y=.ref b/\H b=some (.tup (k.map kV))/\r=f6 kvs k
def oy(H:Hp)(a:Addr)(y v:V)(H':Hp):Prop :=
 (∃kvs k,H a=some (.dK kvs)/\y=kV k/\kvs.length<sizeLine/\H'=upd H a (.dK (dU kvs k v)))\/
 ∃kvs k b,H a=some (.dT kvs)/\y=.ref b/\H b=some (.tup (k.map kV))/\kvs.length<sizeLine/\H'=upd H a (.dT (dU kvs k v))
theorem oy.k{H:Hp}{a:Addr}{kvs:List (aE×V)}{k:aE}{v:V}(e:H a=some (.dK kvs))(hl:kvs.length<sizeLine):oy H a (kV k) v (upd H a (.dK (dU kvs k v))):=.inl ⟨kvs,k,e,rfl,hl,rfl⟩
section
variable{X:Cx}{aa:List (Addr×Obj)}{σ:St}{H:Hp}{s:Shared}{a:Addr}{y v:V}{u r:Value}{o:Option V}{A:Around}{E:Value->Shared->Prop}
theorem Inv.big(I:Inv X aa σ H s):sysModules<s.heap.objs.size:=by
 have h:mainGlobals<s.heap.objs.size:=(I.mod.glob.keeps I.bk).lt
 exact Nat.lt_trans (by decide) h
theorem Pa{Q:Value->Shared->Prop}(hu:A.units+1<cLine)(I:Inv X aa σ H s)(g:mh H a y (some v))(ry:RelV y u)(h:∀w' s',Inv X aa σ H s'->RelV v w'->Q w' s') :
  wpAny (model X.prog X.w) A (getItem (.ref a) u) Q E s:=by
 rcases g with⟨kvs,k,e,ey,l⟩ | ⟨kvs,k,b,e,ey,eb,l⟩
 ·subst ey
  obtain⟨z,hd,vs,bT,dd⟩:=kI I.am e
  obtain⟨w',hw,eD⟩:=dO.some_of (v:=v) (o:=valueAt vs k) (by rw[l];exact bT.val k)
  exact wpAny_getItem_of (ow ry) dd.mapOf hw (h w' _ (I.tok _) eD)
 ·subst ey
  cases (show u=Value.ref b from ry)
  obtain⟨z,hd,xs,bT,dd⟩:=qD I.am e
  obtain⟨w',hw,eD⟩:=dO.some_of (v:=v) (o:=(atKey xs k).map (·.2)) (by rw[l];exact bT.val k)
  obtain⟨p,hp,cO⟩:=Option.map_eq_some_iff.mp hw
  refine wpAny_getItem_heap (tupleKind_room_in1 hu) (uo I.am eb) dd hp ?_
  rw[cO]
  exact h w' _ (I.tok _) eD
theorem yQ{h':Heap}{t':Nat}{ob:HO}(I:Inv X aa σ H s)(mu:pT (H a))(hs:Heap.SameBut a s.heap h')(he:∃q,h'.get? a=some q)(new:b8 X.prog X.w (upd H a ob) h' a ob) :
  Inv X aa σ (upd H a ob) {s with heap:=h',toks:=t'} :=
 I.write (x:=a) (e:=a) mu (.inl rfl) (λb q hb z=>(hs.2 b hb).trans z) he new
theorem yR{P:Program}{w:World}{H':Hp}{h':Heap}{kvs:List (aE×V)}{vs:List (aE×Value)}(z:kvs.length<=sizeLine)(hd:(a==sysModules)=false)(bT:KV kvs vs)(dd:h'.DictOf (y_ P w) a vs) :
  b8 P w H' h' a (.dK kvs):=⟨z,hd,vs,bT,dd⟩
theorem Pb{H':Hp}{Q:Unit->Shared->Prop}(hu:A.units+1<cLine)(I:Inv X aa σ H s)(g:oy H a y v H')(ry:RelV y u)(rv:RelV v r)(h:∀s',Inv X aa σ H' s'->Q () s') :
  wpAny (model X.prog X.w) A (setItem (.ref a) u r) Q E s:=by
 rcases g with⟨kvs,k,e,ey,l,eH⟩ | ⟨kvs,k,b,e,ey,eb,l,eH⟩
 ·subst ey eH
  obtain⟨z,hd,vs,bT,dd⟩:=mf I.am e
  have hz:vs.length<=sizeLine:=by rw[<-bT.length];exact z
  have hl:(dU kvs k v).length<=sizeLine:=by have:=yO kvs k v;omega
  refine wpAny_setItem_pairs (hsz:=hz) (ow ry) dd λh' mi hs=>h _ ?_
  have he:∃q,h'.get? a=some q:=let ⟨q,_,_,hq,_⟩:=mi;⟨q,hq⟩
  exact yQ I (by rw[e];exact True.intro) hs he (yR hl hd (bT.put k rv) mi)
 ·subst ey eH
  cases (show u=Value.ref b from ry)
  obtain⟨z,hd,xs,bT,dd⟩:=O9 I.am e
  have hz:xs.length<=sizeLine:=by rw[<-Paired.length bT];exact z
  have hl:(dU kvs k v).length<=sizeLine:=by have:=yO kvs k v;omega
  refine wpAny_setItem_heap (hsz:=hz) (tupleKind_room_in1 hu) (uo I.am eb) dd λh' mi hs=>h _ ?_
  obtain⟨q,es,ep,hq,h2,h3,h4,_,h5⟩:=mi
  refine yQ I (by rw[e];exact True.intro) hs ⟨q,hq⟩ ⟨hl,hd,_,(bT.put k eb rv).keeps λc ys ec=>?_,q,es,ep,hq,h2,h3,h4,h5⟩
  rw[i_ (wX ec e (λz=>nomatch z))]
  exact ec
end
section
variable{X:Cx}{aa:List (Addr×Obj)}{σ:St}{H:Hp}{s:Shared}{a:Addr}{kvs:List (aE×V)}{k:aE}{u:Value}{A:Around}{E:Value->Shared->Prop}
end
def FJ(i:Expr):Prop:=∀ov iv,subscripted i false ov iv=operate [ov,iv] (getItem ov iv)
theorem Pc{prog:Program}{w:World}{A:Around}{E:Value->Shared->Prop}{s:Shared}{env:Env}{value jz:Expr}{pos:Pos}{T id:String}{Q:Value->Shared->Prop}
  (hl:typeLookup (.type T) "__getitem__"=pure (some (.builtin id))) (hs:FJ jz)
  (h:wpAny (model prog w) A (eval value env) (λo bf=>wpAny (model prog w) A (eval jz env) (λi gK=>gK.TypeIs o T/\wpAny (model prog w) A (getItem o i) Q E gK) E bf) E s) :
  wpAny (model prog w) A (eval (.Subscript value jz pos) env) Q E s:=by
 refine Subscript_ (wpAny_mono h (λo bf Pd=>wpAny_mono Pd (λi gK yS=>?_) λ_ _ x=>x) λ_ _ x=>x)
 obtain⟨hT,yS⟩:=yS
 unfold subscriptTail
 refine wpAny_bind ?_
 rw[getitemInPython_of_ne hT.not_modules]
 refine wpAny_bind (wpAny_specialOf hT hl ?_)
 have fin:wpAny (model prog w) A (subscripted jz false o i) (λr sw=>wpAny (model prog w) A (letTemporaryGo value o r>>=λ_=>pure r) Q E sw) E gK:=by
  rw[hs o i]
  exact wpAny_operating (wpAny_mono yS (λr sw Pe=>wpAny_bind (wpAny_letTemporaryGo (wpAny_pure Pe))) λ_ _ x=>x)
 first
  | exact wpAny_pure (wpAny_bind fin)
  | exact wpAny_bind (wpAny_pure (wpAny_bind fin))
  | exact wpAny_bind fin
theorem Pf{X:Cx}{aa:List (Addr×Obj)}{σ:St}{H:Hp}{s:Shared}{a:Addr}{y:V}{o:Option V}(I:Inv X aa σ H s)(g:mh H a y o):s.TypeIs (.ref a) "dict":=by
 rcases g with⟨kvs,k,e,_,_⟩ | ⟨kvs,k,b,e,_,_,_⟩
 ·obtain⟨_,_,vs,_,dd⟩:=kI I.am e
  exact dd.typeIs
 ·obtain⟨_,_,xs,_,dd⟩:=qD I.am e
  exact dd.typeIs
def Pg(td ty:TE):TE:=fun σ H Q=>td σ H λx H1=>ty σ H1 λy H2=>∃a v,x=.ref a/\mh H2 a y (some v)/\Q v H2
def Ph(td ty tv:TE):TS:=λD σ H=>tv σ H λv H1=>td σ H1 λx H2=>ty σ H2 λy H3=>∃a H4,x=.ref a/\oy H3 a y v H4/\D.nx σ H4
section
variable{X:Cx}{o i e value:Expr}{pos gm lP:Pos}{td ty tv:TE}
theorem yT(hu:X.A.units+1<cLine)(ho:PE X o td)(hi:PE X i ty)(hs:FJ i):PE X (.Subscript o i pos) (Pg td ty):=by
 intro aa s σ H Q I h
 refine Pc PySem.F.slot_dict_getitem.lookup hs (au (ho aa s σ H _ I h) λu s1 ⟨x,H1,I1,rx,q1⟩=>au (hi aa s1 σ H1 _ I1 q1) λiv s2 ⟨y,H2,I2,ry,a,v,ex,g,q2⟩=>?_)
 subst ex
 obtain rfl:u=Value.ref a:=rx
 exact⟨Pf I2 g,Pa hu I2 g ry λw' s3 I3 eD=>⟨v,H2,I3,eD,q2⟩⟩
theorem yU(hu:X.A.units+1<cLine)(ho:PE X o td)(hi:PE X i ty)(hv:PE X value tv)(hs:swapsWith value (some (.Subscript o i gm)) pos.line X.env=pure false) :
  PS X (.Assign [.Subscript o i gm] value pos) (Ph td ty tv):=by
 intro aa s σ H D I h
 refine wpAny_Assign_Subscript (au (hv aa s σ H _ I h) λr s1 ⟨v,H1,I1,rv,q1⟩=>au (ho aa s1 σ H1 _ I1 q1) λu s2 ⟨x,H2,I2,rx,q2⟩=>au (hi aa s2 σ H2 _ I2 q2) λiv s3 ⟨y,H3,I3,ry,a,H4,ex,g,q3⟩=>?_) hs
 subst ex
 obtain rfl:u=Value.ref a:=rx
 exact Pb hu I3 g ry rv λs4 I4=>⟨σ,H4,I4,q3⟩
end
theorem FK{P:Program}{w:World}{H:Hp}(h:Heap)(hb:sysModules<h.objs.size):b8 P w H (h.push {cls:=.type "dict",data:=.dict #[]}) h.objs.size (.dK []) :=
 ⟨a0w _,beq_eq_false_iff_ne.mpr (Ne.symm (a0c hb)),[],.nil,Heap.DictOf.new h⟩
def Pi:TE:=λ_ H Q=>∀p,H p=none->Q (.ref p) (upd H p (.dK []))
section
variable{X:Cx}{pos:Pos}
theorem mj:PE X (.Dict [] [] pos) Pi:=λaa s σ H Q I h =>
 wpAny_Dict_empty ⟨.ref s.heap.objs.size,_,I.laid (a:=s.heap.objs.size) (o:=.dK []) (t':=s.toks) (λ_ _ q=>ZV _ q) (Z0 _) (FK s.heap I.big),rfl,h _ (I.am.fresh (Z0 _))⟩
end
def yV:List (TE×TE)->St->Hp->(List (V×V)->Hp->Prop)->Prop
 | [],_,H,Q=>Q [] H
 | (tk,tv)::r,σ,H,Q=>tk σ H λx H1=>tv σ H1 λy H2=>yV r σ H2 λps H3=>Q ((x,y)::ps) H3
abbrev VV:List (V×V)->List (Value×Value)->Prop:=Paired λp q=>RelV p.1 q.1/\RelV p.2 q.2
def uq(X:Cx)(pos:Pos)(keys:List (Option Expr))(qE:List Expr)(jE:List (TE×TE)):Prop :=
 ∀(aa:List (Addr×Obj)) (s:Shared) (σ:St) (H:Hp) (Q:List (V×V)->Hp->Prop),Inv X aa σ H s->yV jE σ H Q->
  wpAny (model X.prog X.w) X.A (evalPairs (pairTrees keys qE X.env pos)) (λvs s'=>∃ps H',Inv X aa σ H' s'/\VV ps vs/\Q ps H') X.xe s
theorem Pj{X:Cx}{pos:Pos}:uq X pos [] [] []:=λaa s σ H Q I h=>pairTrees_nil_walk ⟨[],H,I,.nil,h⟩
theorem Pk{X:Cx}{pos:Pos}{k v:Expr}{ks:List (Option Expr)}{vs:List Expr}{tk tv:TE}{jE:List (TE×TE)}(hk:PE X k tk)(hv:PE X v tv)(hr:uq X pos ks vs jE) :
  uq X pos (some k::ks) (v::vs) ((tk,tv)::jE):=λaa s σ H Q I h =>
 pairTrees_cons_walk (au (hk aa s σ H _ I h) λu s1 ⟨x,H1,I1,rx,q1⟩=>au (hv aa s1 σ H1 _ I1 q1) λw2 s2 ⟨y,H2,I2,ry,q2⟩ =>
  au (hr aa s2 σ H2 _ I2 q2) λws s3 ⟨ps,H3,I3,bT,q3⟩=>⟨(x,y)::ps,H3,I3,.cons ⟨rx,ry⟩ bT,q3⟩)
def gr(kvs more:List (aE×V)):List (aE×V):=more.foldl (λacc kv=>dU acc kv.1 kv.2) kvs
theorem KV.merge:∀ {more:List (aE×V)} {rs:List (aE×Value)} {kvs:List (aE×V)} {vs:List (aE×Value)},KV more rs->KV kvs vs->KV (gr kvs more) (merged vs rs):=by
 intro more rs kvs vs r
 unfold KV at r
 induction r generalizing kvs vs with
 | nil=>intro q;exact q
 | @cons p q ps qs h t ih =>
  intro r0
  have e:KV (dU kvs p.1 p.2) (stored vs q.1 q.2):=by
   have:=r0.put p.1 h.2
   rw[<-h.1];exact this
  exact ih e
theorem yW:∀(more kvs:List (aE×V)),(gr kvs more).length<=kvs.length+more.length
 | [],kvs=>by show kvs.length<=kvs.length+0;omega
 | p::r,kvs=>by
  have h1:=yW r (dU kvs p.1 p.2)
  have h2:=yO kvs p.1 p.2
  show(gr (dU kvs p.1 p.2) r).length<=_
  rw[a0k];omega
theorem FL{P:Program}{w:World}:∀ {kvs:List (aE×V)} {ws:List (Value×Value)},VV (kvs.map λkv=>(kV kv.1,kv.2)) ws->∃rs,Carries (y_ P w) ws rs/\KV kvs rs
 | [],_,r=>by rw[a2d] at r;cases r;exact⟨[],True.intro,.nil⟩
 | p::kvs,_,r=>by
  rw[a0f] at r
  cases r with
  | @cons a b as bs h t =>
   obtain⟨rs,c,q⟩:=FL (P:=P) (w:=w) t
   obtain⟨b1,b2⟩:=b
   exact⟨(p.1,b2)::rs,⟨ow h.1,rfl,c⟩,.cons ⟨rfl,h.2⟩ q⟩
def Pl(jE:List (TE×TE)):TE:=fun σ H Q=>∀p,H p=none->yV jE σ (upd H p (.dK [])) λps H2=>H2 p=some (.dK [])/\∃kvs:List (aE×V),ps=kvs.map (λkv=>(kV kv.1,kv.2))/\kvs.length<=15/\Q (.ref p) (upd H2 p (.dK (gr [] kvs)))
theorem Pm{X:Cx}{pos:Pos}{keys:List (Option Expr)}{qE:List Expr}{jE:List (TE×TE)}(h:uq X pos keys qE jE)(xP:keys.all (·.isSome)=true)(hl:keys.length=qE.length)(h0:keys≠[])
  (Pn:keys.length<=15):PE X (.Dict keys qE pos) (Pl jE):=by
 intro aa s σ H Q I q
 have hn:=I.am.fresh (Z0 s.heap.objs.size)
 have I1:=I.laid (a:=s.heap.objs.size) (o:=.dK []) (h':=s.heap.push {cls:=.type "dict",data:=.dict #[]}) (t':=s.toks) (λ_ _ q=>ZV _ q) (Z0 _) (FK s.heap I.big)
 refine wpAny_Dict_walk (knd:=y_ X.prog X.w) xP hl h0 Pn (au (h aa _ σ _ _ I1 (q _ hn)) λws s2 ⟨ps,H2,I2,bT,e,kvs,ep,lk,q2⟩=>?_)
 subst ep
 obtain⟨rs,c,rk⟩:=FL (P:=X.prog) (w:=X.w) bT
 obtain⟨z,hd,Y8,r0,dd⟩:=mf I2.am e
 cases r0
 refine⟨rs,c,dd,λh' mi hs=>⟨.ref s.heap.objs.size,_,?_,rfl,q2⟩⟩
 have hz:(gr [] kvs).length<=sizeLine:=by
  have h1:=yW kvs []
  rw[a2Q] at h1
  rw[sizeLine_eq];omega
 have he:∃q,h'.get? s.heap.objs.size=some q:=let ⟨q,_,_,hq,_⟩:=mi;⟨q,hq⟩
 exact yQ I2 (by rw[e];exact True.intro) hs he (yR hz hd (rk.merge .nil) mi)
structure M2(X:Cx)(o:Expr)(m:Str)(bH:Pos)(e f:Expr)(cV:Pos):Prop where
 base:attributeBase o m X.env (eval o X.env)=eval o X.env
 Po:((backTo cV (starEach [e,f] X.env)).all (λx=>!x.1)&&(backToKw cV (keywordEach [] X.env)).all (λx=>x.1.isSome)
  && decide (([e,f]:List Expr).length+([]:List Keyword).length+(if ([]:List Keyword).isEmpty then 0 else 1)<30))=true
 line:(bH.endLine==cV.line)=true
 trees:backTo cV (starEach [e,f] X.env)=[(false,eval e X.env),(false,eval f X.env)]
def FM(H:Hp)(a:Addr):Prop:=(∃kvs,Rd H a (.dK kvs))\/∃kvs,Rd H a (.dT kvs)
theorem FN{X:Cx}{aa:List (Addr×Obj)}{σ:St}{H:Hp}{s:Shared}{a:Addr}(I:Inv X aa σ H s)(d:FM H a) :
  s.TypeIs (.ref a) "dict"/\(∀b,Value.ref a=.ref b->∃ob,s.heap.get? b=some ob/\ob.dict=none)/\(a==sysModules)=false:=by
 rcases d with⟨kvs,e⟩ | ⟨kvs,e⟩
 ·obtain⟨_,hd,vs,_,dd⟩:=kI I.am e
  refine⟨dd.typeIs,λb q=>?_,hd⟩
  cases q
  obtain⟨ob,_,_,h1,h2,_⟩:=dd
  exact⟨ob,h1,h2.2.1⟩
 ·obtain⟨_,hd,xs,_,dd⟩:=qD I.am e
  refine⟨dd.typeIs,λb q=>?_,hd⟩
  cases q
  obtain⟨ob,_,_,h1,h2,_⟩:=dd
  exact⟨ob,h1,h2.2.1⟩
section
variable{X:Cx}{aa:List (Addr×Obj)}{σ:St}{H:Hp}{s:Shared}{a:Addr}{y d:V}{u r:Value}{o:Option V}{A:Around}{E:Value->Shared->Prop}
theorem Pp{Q:Value->Shared->Prop}(hu:A.units+1<cLine)(I:Inv X aa σ H s)(g:mh H a y o)(ry:RelV y u)(rd:RelV d r)(h:∀w' s',Inv X aa σ H s'->RelV (o.getD d) w'->Q w' s') :
  wpAny (model X.prog X.w) A (call (.builtin "dict.get") [.ref a,u,r]) Q E s:=by
 rcases g with⟨kvs,k,e,ey,l⟩ | ⟨kvs,k,b,e,ey,eb,l⟩
 ·subst ey
  obtain⟨z,hd,vs,bT,dd⟩:=kI I.am e
  refine call_meetsIn PySem.F.slot_dict_get dd.typeIs PySem.F.entry_dict_get (PySem.F.args_dict_get_3 _ _ _) (meets_dict_get_default (y_ X.prog X.w) a (ow ry) hd r) ⟨_,dd.mapOf,h _ _ (I.tok _) ?_⟩
  rw[l]
  exact(bT.val k).getD rd
 ·subst ey
  cases (show u=Value.ref b from ry)
  obtain⟨z,hd,xs,bT,dd⟩:=qD I.am e
  refine call_meetsIn PySem.F.slot_dict_get dd.typeIs PySem.F.entry_dict_get (PySem.F.args_dict_get_3 _ _ _) (meetsH_dict_get_default (tupleKind (y_ X.prog X.w)) a b hd r) ⟨tupleKind_room_in1 hu,k,xs,uo I.am eb,dd,h _ _ (I.tok _) ?_⟩
  rw[l]
  exact(bT.val k).getD rd
end
def Pq(td ty tx:TE):TE:=fun σ H Q=>td σ H λx H1=>∃a,x=.ref a/\FM H1 a/\ty σ H1 λy H2=>tx σ H2 λz H3=>∃o,mh H3 a y o/\Q (o.getD z) H3
section
variable{X:Cx}{o e f:Expr}{bH cV:Pos}{td ty tx:TE}
theorem ur(hu:X.A.units+1<cLine)(ho:PE X o td)(he:PE X e ty)(hf:PE X f tx)(m:M2 X o "get" bH e f cV):PE X (.Call (.Attribute o "get" bH) [e,f] [] cV) (Pq td ty tx):=by
 intro aa s σ H Q I h
 refine wpAny_Call_method m.base m.Po m.line PySem.F.plainAttrs_dict PySem.F.slot_dict_get PySem.F.type_dict_get (au (ho aa s σ H _ I h) λu s1 ⟨x,H1,I1,rx,a,ex,d,q1⟩=>?_)
 subst ex
 obtain rfl:u=Value.ref a:=rx
 obtain⟨t1,t2,_⟩:=FN I1 d
 refine⟨t1,t2,?_⟩
 rw[m.trees]
 refine Calls.callWith_builtin rfl (Calls.evalArgs_plain (Calls.spliced_cons (au (he aa s1 σ H1 _ I1 q1) λiv s2 ⟨y,H2,I2,ry,q2⟩ =>
  Calls.spliced_cons (au (hf aa s2 σ H2 _ I2 q2) λfv s3 ⟨z,H3,I3,rz,ov,g,q3⟩=>Calls.spliced_nil ?_))))
 exact Pp hu I3 g ry rz λw' s4 I4 eD=>⟨_,H3,I4,eD,q3⟩
end
section
variable{X:Cx}{aa:List (Addr×Obj)}{σ:St}{H:Hp}{s:Shared}{a:Addr}{kvs:List (aE×V)}{A:Around}{E:Value->Shared->Prop}
end
section
variable{X:Cx}{aa:List (Addr×Obj)}{σ:St}{H:Hp}{s:Shared}{a:Addr}{y:V}{u:Value}{A:Around}{E:Value->Shared->Prop}
end
section
variable{X:Cx}
end
section
variable{κ:Type}[DecidableEq κ]
end
mutual
inductive Tree(H:Hp):V->PyData->Prop
 | aw:Tree H .aw .none
 | bl (b:Bool):Tree H (.bl b) (.bool b)
 | int (i:Int):Tree H (.int i) (.int i)
 | str (x:Str):Tree H (.str x) (.str x)
 | lst {a:Addr} {xs:List V} {ds:List PyData} (e:H a=some (.lst xs)) (r:bY H xs ds):Tree H (.ref a) (.list ds)
 | tup {a:Addr} {xs:List V} {ds:List PyData} (e:H a=some (.tup xs)) (r:bY H xs ds):Tree H (.ref a) (.tuple ds)
 | emp {a:Addr} (e:H a=some (.dK [])):Tree H (.ref a) (.dict [])
inductive bY(H:Hp):List V->List PyData->Prop
 | nil:bY H [] []
 | cons {x:V} {xs:List V} {d:PyData} {ds:List PyData} (h:Tree H x d) (t:bY H xs ds):bY H (x::xs) (d::ds)
end
mutual
theorem Tree.keep{H H':Hp}(s:ag H H'):∀ {x:V} {d:PyData},Tree H x d->Tree H' x d
 | _,_,.aw=>.aw
 | _,_,.bl b=>.bl b
 | _,_,.int i=>.int i
 | _,_,.str x=>.str x
 | _,_,.lst e r=>.lst (s _ _ e) (bY.keep s r)
 | _,_,.tup e r=>.tup (s _ _ e) (bY.keep s r)
 | _,_,.emp e=>.emp (s _ _ e)
theorem bY.keep{H H':Hp}(s:ag H H'):∀ {xs:List V} {ds:List PyData},bY H xs ds->bY H' xs ds
 | _,_,.nil=>.nil
 | _,_,.cons h t=>.cons (Tree.keep s h) (bY.keep s t)
end
section
variable{P:Program}{w:World}{H:Hp}{h:Heap}
theorem FO{a:Addr}(ok:bC P w H h)(e:H a=some (.dK [])):Reads h (.ref a) (.dict []) [a]:=by
 obtain⟨_,_,vs,r,hd⟩:=mf ok e
 cases r
 obtain⟨o,es,ep,ho,hx,oz,_,hp,_⟩:=hd
 have e0:es.toList=[]:=by
  generalize es.toList=l at hp
  cases hp
  rfl
 exact Reads.dict (kvs:=[]) (as:=[]) (bs:=[]) ho hx.1 oz (by rw[e0];exact .nil) (by rw[e0];exact .nil)
mutual
theorem Tree.reads(ok:bC P w H h):∀ {x:V} {d:PyData},Tree H x d->∀v,RelV x v->∃as,Reads h v d as/\∀b∈as,H b≠none
 | _,_,.aw,v,r=>by cases r;exact⟨_,.none,by simp⟩
 | _,_,.bl b,v,r=>by cases r;exact⟨_,.bool b,by simp⟩
 | _,_,.int i,v,r=>by obtain⟨t,rfl⟩:=r;exact⟨_,.int i t,by simp⟩
 | _,_,.str x,v,r=>by obtain⟨t,rfl⟩:=r;exact⟨_,.str x t,by simp⟩
 | _,_,.lst (a:=a) e rs,v,r=>by
  cases r
  obtain⟨_,ad,n,rv,e1⟩:=ok a _ e
  obtain⟨as,h1,h2⟩:=bY.reads ok rs ad rv
  refine⟨_,.list e1 rfl rfl (by simpa using h1),λb hb=>?_⟩
  rcases ZZ.mp hb with rfl | hb
  ·rw[e];simp
  ·exact h2 b hb
 | _,_,.tup (a:=a) e rs,v,r=>by
  cases r
  obtain⟨_,ad,rv,o,e1,c,n,d⟩:=ok a _ e
  obtain⟨as,h1,h2⟩:=bY.reads ok rs ad rv
  exact⟨_,.tuple e1 c d (by simpa using h1),h2⟩
 | _,_,.emp (a:=a) e,v,r=>by
  cases r
  refine⟨_,FO ok e,λb hb=>?_⟩
  have z:b=a:=by simpa using hb
  rw[z,e];simp
theorem bY.reads(ok:bC P w H h):∀ {xs:List V} {ds:List PyData},bY H xs ds->∀ad,aB xs ad->∃as,ReadsAll h ad ds as/\∀b∈as,H b≠none
 | _,_,.nil,ad,r=>by cases r;exact⟨_,.nil,by simp⟩
 | _,_,.cons q t,ad,r=>by
  cases r with
  | cons r1 r2 =>
   obtain⟨as,h1,h2⟩:=Tree.reads ok q _ r1
   obtain⟨bs,h3,h4⟩:=bY.reads ok t _ r2
   refine⟨_,.cons h1 h3,λb hb=>?_⟩
   rcases a0s.mp hb with hb | hb
   ·exact h2 b hb
   ·exact h4 b hb
end
end
section
variable{X:Cx}
theorem ReadsAll.FP{h:Heap}{vs:List Value}{as:List Addr}:ReadsAll h vs [] as->as=[]
 | .nil=>rfl
theorem qF(hg:X.A.guards=some [])(hu:X.A.units+64<cLine):dm X (.builtin "repr") (λxs H Q=>∃x d,xs=[x]/\Tree H x d/\d.showable=true/\d.depth<=50/\d.shown.length<=sizeLine/\(d.hasDict=true->d=.dict [])/\Q (.str d.shown) H):=by
 intro aa s σ H xs us Q I r h
 obtain⟨x,d,rfl,t,hs,hd,hz,hn,q⟩:=h
 obtain⟨u,rfl,rx⟩:=vals1 r
 have yX:∀a,x=.ref a->wpAny (model X.prog X.w) X.A (call (.builtin "repr") [u]) (EP X aa σ Q) X.xe s:=λa ea=>by
  subst ea
  obtain⟨as,h1,h2⟩:=Tree.reads I.am t u rx
  cases rx
  have Ps:d.hasDict=true->sysModules∉as:=λhh z=>by
   have e:=hn hh
   subst e
   cases t with
   | emp e =>
    obtain⟨_,hS,_⟩:=mf I.am e
    cases h1 with
    | dict q1 q2 q3 q4 q5 =>
     have e4:=ReadsAll.FP q4
     have e5:=ReadsAll.FP q5
     subst e4 e5
     have z':sysModules=a:=by simpa using z
     rw[<-z'] at hS
     simp at hS
  refine repr_of_reads' h1 hs Ps hg (by lia) (λb o e=>e) (λh' Y9 tk hk=>?_) hz
  exact⟨.str d.shown,H,I.kept (t':=tk) hk,⟨_,rfl⟩,q⟩
 cases t with
 | aw=>cases rx;exact P.repr_of_none ⟨.str _,H,I.tok _,⟨_,rfl⟩,q⟩
 | bl b=>cases rx;exact P.repr_of_bool ⟨.str _,H,I.tok _,⟨_,rfl⟩,q⟩
 | int i=>obtain⟨tk,rfl⟩:=rx;exact P.repr_of_int (by simpa [PyData.showable] using hs) ⟨.str _,H,I.tok _,⟨_,rfl⟩,q⟩
 | str y=>obtain⟨tk,rfl⟩:=rx;exact P.repr_of_str ⟨.str _,H,I.tok _,⟨_,rfl⟩,q⟩ hz
 | lst e rr=>exact yX _ rfl
 | tup e rr=>exact yX _ rfl
 | emp e=>exact yX _ rfl
end
section
variable{X:Cx}{e:Expr}{te:TE}
end
section
variable{P:Program}{w:World}{H:Hp}{h:Heap}
mutual
theorem Tree.ml(ok:bC P w H h):∀ {x:V} {d:PyData},Tree H x d->∀v,RelV x v->d.showable=true->d.shown.length<=sizeLine->∃bs,ReadAtMost h d.depth bs/\ReprK P w bs h d.depth v d.shown
 | _,_,.aw,v,r,_,_=>by
  cases r
  refine⟨[],(λ_ z=>nomatch z),?_⟩
  simp only[PyData.shown]
  exact ReprK.of_is ReprIs.none _ _ _
 | _,_,.bl b,v,r,_,_=>by
  cases r
  refine⟨[],(λ_ z=>nomatch z),?_⟩
  simp only[PyData.shown]
  exact ReprK.of_is (ReprIs.bool b) _ _ _
 | _,_,.int i,v,r,hs,_=>by
  obtain⟨t,rfl⟩:=r
  refine⟨[],(λ_ z=>nomatch z),?_⟩
  simp only[PyData.shown]
  exact ReprK.of_is (ReprIs.int t (by simpa [PyData.showable] using hs)) _ _ _
 | _,_,.str x,v,r,_,hz=>by
  obtain⟨t,rfl⟩:=r
  refine⟨[],(λ_ z=>nomatch z),?_⟩
  simp only[PyData.shown] at hz⊢
  exact ReprK.of_is (ReprIs.str x t hz) _ _ _
 | _,_,.lst (a:=a) (ds:=ds) e rs,v,r,hs,hz=>by
  cases r
  have tr:Tree H (.ref a) (.list ds):=.lst e rs
  obtain⟨as,rd,_⟩:=Tree.reads ok tr (.ref a) rfl
  obtain⟨_,ad,n,rv,e1⟩:=ok a _ e
  simp only[PyData.shown] at hz
  obtain⟨bs,hb,hk⟩:=bY.ml ok rs ad rv (by simpa [PyData.showable] using hs) (λt ht=>Z9 (listText_mem_le ht) hz)
  have gt:a∉bs:=not_mem_of_deeper rd (by simp only[PyData.depth];lia) hb
  refine⟨a::bs,ReadAtMost.cons rd (by simp only[PyData.depth];lia) hb,?_⟩
  simp only[PyData.depth,PyData.shown]
  cases ad with
  | nil =>
   cases rv
   cases rs
   simp only[PyData.shownAll,listText_nil]
   exact ReprK.listEmpty e1 rfl rfl
  | cons u l=>exact ReprK.list e1 rfl rfl gt (by simpa using hk.length_eq) (λi y z=>hk.item i y (by simpa using z))
 | _,_,.tup (a:=a) (ds:=ds) e rs,v,r,hs,hz=>by
  cases r
  have tr:Tree H (.ref a) (.tuple ds):=.tup e rs
  obtain⟨as,rd,_⟩:=Tree.reads ok tr (.ref a) rfl
  obtain⟨_,ad,rv,o,e1,c,n,d⟩:=ok a _ e
  simp only[PyData.shown] at hz
  obtain⟨bs,hb,hk⟩:=bY.ml ok rs ad rv (by simpa [PyData.showable] using hs) (λt ht=>Z9 (tupleText_mem_le ht) hz)
  have gt:a∉bs:=not_mem_of_deeper rd (by simp only[PyData.depth];lia) hb
  refine⟨a::bs,ReadAtMost.cons rd (by simp only[PyData.depth];lia) hb,?_⟩
  simp only[PyData.depth,PyData.shown]
  exact ReprK.tuple e1 c d gt (by simpa using hk)
 | _,_,.emp (a:=a) e,v,r,_,_=>by
  cases r
  have rd:=FO ok e
  obtain⟨_,hS,vs,rk,hd⟩:=mf ok e
  cases rk
  obtain⟨o,es,ep,ho,hx,oz,_,hp,_⟩:=hd
  have e0:es.toList=[]:=by
   generalize es.toList=l at hp
   cases hp
   rfl
  refine⟨[a],ReadAtMost.cons (n:=PyData.depthKv []) rd (by simp only[PyData.depth];lia) (λ_ z=>nomatch z),?_⟩
  simp only[PyData.depth,PyData.shown]
  have nil:ReprAllK P w [] h (PyData.depthKv []) [] (PyData.shownAll []):=by simp only[PyData.shownAll];exact .nil
  refine ReprK.dict ho hx.1 oz hS (by simp) ?_
  have z:=ReprEntriesK.of_two (prog:=P) (w:=w) (as:=[]) (h₀:=h) (d:=PyData.depthKv []) es.toList [] [] (by rw[e0];exact nil) (by rw[e0];exact nil)
  simpa [PyData.shownKv] using z
theorem bY.ml(ok:bC P w H h):∀ {xs:List V} {ds:List PyData},bY H xs ds->∀ad,aB xs ad->PyData.showableAll ds=true->(∀t∈PyData.shownAll ds,t.length<=sizeLine)->
  ∃bs,ReadAtMost h (PyData.depthAll ds) bs/\ReprAllK P w bs h (PyData.depthAll ds) ad (PyData.shownAll ds)
 | _,_,.nil,ad,r,_,_=>by
  cases r
  exact⟨[],(λ_ z=>nomatch z),by simp only[PyData.shownAll];exact .nil⟩
 | _,_,.cons q t,ad,r,hs,hz=>by
  cases r with
  | cons r1 r2 =>
   simp only[PyData.showableAll,a0J] at hs
   simp only[PyData.shownAll,ZZ,forall_eq_or_imp] at hz
   obtain⟨b1,m1,k1⟩:=Tree.ml ok q _ r1 hs.1 hz.1
   obtain⟨b2,m2,k2⟩:=bY.ml ok t _ r2 hs.2 hz.2
   simp only[PyData.depthAll,PyData.shownAll]
   refine⟨b1++b2,(m1.mono (Nat.le_max_left _ _)).append (m2.mono (Nat.le_max_right _ _)),?_⟩
   exact .cons ((k1.more λb hb=>a0N _ hb).level_le (Nat.le_max_left _ _)) (k2.more_le (λb hb=>a0m _ hb) (Nat.le_max_right _ _))
end
end
section
variable{X:Cx}
theorem ut(hg:X.A.guards=some [])(hu:X.A.units+64<cLine):dm X (.builtin "repr") (λxs H Q=>∃x d,xs=[x]/\Tree H x d/\d.showable=true/\d.depth<=50/\d.shown.length<=sizeLine/\Q (.str d.shown) H):=by
 intro aa s σ H xs us Q I r h
 obtain⟨x,d,rfl,t,hs,hd,hz,q⟩:=h
 obtain⟨u,rfl,rx⟩:=vals1 r
 cases t with
 | aw=>exact qF hg hu aa s σ H [.aw] [u] Q I r ⟨_,_,rfl,.aw,hs,hd,hz,λz=>by simp[PyData.hasDict] at z,q⟩
 | bl b=>exact qF hg hu aa s σ H [.bl b] [u] Q I r ⟨_,_,rfl,.bl b,hs,hd,hz,λz=>by simp[PyData.hasDict] at z,q⟩
 | int i=>exact qF hg hu aa s σ H [.int i] [u] Q I r ⟨_,_,rfl,.int i,hs,hd,hz,λz=>by simp[PyData.hasDict] at z,q⟩
 | str y=>exact qF hg hu aa s σ H [.str y] [u] Q I r ⟨_,_,rfl,.str y,hs,hd,hz,λz=>by simp[PyData.hasDict] at z,q⟩
 | emp e=>exact qF hg hu aa s σ H _ [u] Q I r ⟨_,_,rfl,.emp e,hs,hd,hz,λ_=>rfl,q⟩
 | lst e rs =>
  rename_i a ys ds
  cases rx
  obtain⟨as,rd,_⟩:=Tree.reads I.am (Tree.lst e rs) (.ref a) rfl
  obtain⟨_,ad,n,rv,e1⟩:=I.am a _ e
  simp only[PyData.shown] at hz
  simp only[PyData.depth] at hd
  obtain⟨bs,hb,hk⟩:=bY.ml I.am rs ad rv (by simpa [PyData.showable] using hs) (λt ht=>Z9 (listText_mem_le ht) hz)
  have gt:a∉bs:=not_mem_of_deeper rd (by simp only[PyData.depth];lia) hb
  have fin:∀h' (t tk:Nat),(∀b o,s.heap.get? b=some o->h'.get? b=some o)->EP X aa σ Q (.str (listText (PyData.shownAll ds)) t) {s with heap:=h',toks:=tk}:=λh' t tk kk =>
   ⟨.str _,H,I.kept (t':=tk) kk,⟨_,rfl⟩,by simpa only[PyData.shown] using q⟩
  refine call_repr_slot (by lia) (show s.TypeIs (.ref a) "list" from⟨_,e1,rfl⟩) F.slot_list_repr.toG ?_
  cases ad with
  | nil =>
   cases rv
   cases rs
   refine call_list_repr_empty ⟨_,e1,rfl⟩ e1 rfl ⟨_,_,rfl,?_⟩
   simpa only[PyData.shownAll,listText_nil] using fin s.heap _ _ λ_ _ z=>z
  | cons v l =>
   exact call_list_reprK e1 rfl rfl gt (by simpa using hk.length_eq) (λi y z=>hk.item i y (by simpa using z)) hg (λb _=>Clear.nil b) (by show X.A.units+1+(PyData.depthAll ds+1)<cLine;lia) (λ_ _ z=>z) (λh' t tk kk=>⟨_,_,rfl,fin h' t tk kk⟩) hz
 | tup e rs =>
  rename_i a ys ds
  cases rx
  obtain⟨as,rd,_⟩:=Tree.reads I.am (Tree.tup e rs) (.ref a) rfl
  obtain⟨_,ad,rv,o,e1,c,n,d⟩:=I.am a _ e
  simp only[PyData.shown] at hz
  simp only[PyData.depth] at hd
  obtain⟨bs,hb,hk⟩:=bY.ml I.am rs ad rv (by simpa [PyData.showable] using hs) (λt ht=>Z9 (tupleText_mem_le ht) hz)
  have gt:a∉bs:=not_mem_of_deeper rd (by simp only[PyData.depth];lia) hb
  refine call_repr_slot (by lia) (show s.TypeIs (.ref a) "tuple" from⟨_,e1,c⟩) F.slot_tuple_repr ?_
  exact call_tuple_reprK e1 c d gt (by simpa using hk) hg (λb _=>Clear.nil b) (by show X.A.units+1+(PyData.depthAll ds+1)<cLine;lia) (λ_ _ z=>z) (λh' t tk kk=>⟨_,_,rfl,⟨.str _,H,I.kept (t':=tk) kk,⟨_,rfl⟩,by simpa only[PyData.shown] using q⟩⟩) hz
end
def Off(D:List Addr)(H:Hp):Hp:=λa=>if a∈D then none else H a
theorem V_{D:List Addr}{H:Hp}{a:Addr}{o:HO}(h:H a=some o)(n:a∉D):Off D H a=some o:=by unfold Off;rw[if_neg n];exact h
theorem uu{D:List Addr}{H:Hp}:ag (Off D H) H:=λa o h=>by
 unfold Off at h
 split at h
 ·cases h
 ·exact h
theorem jF{D:List Addr}{H H':Hp}(k:Hv.Kp D H H'):ag (Off D H) (Off D H'):=λa o h=>by
 unfold Off at h⊢
 split at h
 ·cases h
 ·rename_i n
  rw[if_neg n]
  exact k a o h n
structure GD(n w:Nat)(d:PyData):Prop where
 sh:d.showable=true
 lv:d.leavesShort 40=true
 dp:d.depth<=n
 wt:d.weight<=w
def Th(H:Hp)(n w:Nat)(v:V):Prop:=∃d,Tree H v d/\GD n w d
theorem Th.keep{H H':Hp}{n w:Nat}{v:V}(t:Th H n w v)(s:ag H H'):Th H' n w v:=let ⟨d,a,b⟩:=t;⟨d,a.keep s,b⟩
theorem Th.mono{H:Hp}{n w n' w':Nat}{v:V}(t:Th H n w v)(h1:n<=n')(h2:w<=w'):Th H n' w' v :=
 let ⟨d,a,b⟩:=t;⟨d,a,b.sh,b.lv,Z9 b.dp h1,Z9 b.wt h2⟩
theorem jG{H:Hp}{n w:Nat}:∀ {xs:List V},(∀x∈xs,Th H n w x)->∃ds,bY H xs ds/\PyData.showableAll ds=true/\PyData.leavesShortAll 40 ds=true/\PyData.depthAll ds<=n/\PyData.weightAll ds<=xs.length*(w+1)
 | [],_=>⟨[],.nil,rfl,rfl,a0w _,a0w _⟩
 | x::r,h=>by
  obtain⟨d,t,g⟩:=h x a0t
  obtain⟨ds,ts,h1,h2,h3,h4⟩:=jG (xs:=r) λy hy=>h y (Z5 _ hy)
  refine⟨d::ds,.cons t ts,?_,?_,?_,?_⟩
  ·simp only[PyData.showableAll,g.sh,h1,a0X]
  ·simp only[PyData.leavesShortAll,g.lv,h2,a0X]
  ·simp only[PyData.depthAll];have:=g.dp;lia
  ·simp only[PyData.weightAll,a0k]
   have:=g.wt
   rw[a0K,a2a]
   lia
theorem Th.lst{H:Hp}{n w L:Nat}{a:Addr}{xs:List V}(e:H a=some (.lst xs))(h:∀x∈xs,Th H n w x)(hl:xs.length<=L):Th H (n+1) (L*(w+1)) (.ref a):=by
 obtain⟨ds,ts,h1,h2,h3,h4⟩:=jG h
 refine⟨.list ds,.lst e ts,?_,?_,?_,?_⟩
 ·simpa only[PyData.showable] using h1
 ·simpa only[PyData.leavesShort] using h2
 ·simp only[PyData.depth];lia
 ·simp only[PyData.weight]
  exact Z9 h4 (a0o _ hl)
theorem Th.tup{H:Hp}{n w L:Nat}{a:Addr}{xs:List V}(e:H a=some (.tup xs))(h:∀x∈xs,Th H n w x)(hl:xs.length<=L):Th H (n+1) (L*(w+1)) (.ref a):=by
 obtain⟨ds,ts,h1,h2,h3,h4⟩:=jG h
 refine⟨.tuple ds,.tup e ts,?_,?_,?_,?_⟩
 ·simpa only[PyData.showable] using h1
 ·simpa only[PyData.leavesShort] using h2
 ·simp only[PyData.depth];lia
 ·simp only[PyData.weight]
  exact Z9 h4 (a0o _ hl)
theorem GD.shown{n w:Nat}{d:PyData}(g:GD n w d)(hw:w<=300000):d.shown.length<=sizeLine:=by
 have h:=PyData.shown_le 40 (by decide) d g.lv
 have h2:=g.wt
 have h3:sizeLine=16777216:=by decide
 lia
theorem Pt{i:Int}(h:i.natAbs<=10 ^ 25):((PyData.int i).shown).length<=40:=by
 have e:=int_text_length_le10 (k:=26) (by decide) (show i.natAbs<10 ^ 26 from a1v h (by decide))
 show(Str.ofString (toString i)).length<=40
 rw[PySem.ofString_length]
 lia
theorem Th.aw{H:Hp}:Th H 1 100 .aw:=⟨_,.aw,rfl,rfl,by decide,by decide⟩
theorem Th.bl{H:Hp}(b:Bool):Th H 1 100 (.bl b):=⟨_,.bl b,rfl,rfl,by show(0:Nat)<=1;decide,by show(0:Nat)<=100;decide⟩
theorem Th.int{H:Hp}{i:Int}(h:i.natAbs<=10 ^ 25):Th H 1 100 (.int i):=by
 have hl:i.natAbs.log2<84:=by
  by_cases h0:i.natAbs=0
  ·rw[h0];decide
  ·exact(Nat.log2_lt h0).mpr (a1v h (by decide))
 refine⟨_,.int i,?_,?_,by show(0:Nat)<=1;decide,?_⟩
 ·simp only[PyData.showable,decide_eq_true_eq];lia
 ·simp only[PyData.leavesShort,decide_eq_true_eq];exact Pt h
 ·simp only[PyData.weight];split <;> lia
theorem Th.emp{H:Hp}{a:Addr}(e:H a=some (.dK [])):Th H 1 100 (.ref a):=⟨_,.emp e,by decide +kernel,by decide +kernel,by decide,by decide⟩
end L2
namespace Hv
open PySem L2
section
variable{K:PySem.W.Frag}
theorem Pu:PySem.W.kitOne K (.type "NoneType") (.type "list")=some false:=by kernel_rfl
theorem Pw:PySem.W.kitOne K (.type "bool") (.type "list")=some false:=by kernel_rfl
theorem Px:PySem.W.kitOne K (.type "int") (.type "list")=some false:=by kernel_rfl
theorem Py:PySem.W.kitOne K (.type "str") (.type "list")=some false:=by kernel_rfl
theorem Pz:PySem.W.kitOne K (.type "tuple") (.type "list")=some false:=by kernel_rfl
theorem PB:PySem.W.kitOne K (.type "dict") (.type "list")=some false:=by kernel_rfl
theorem PD:PySem.W.kitOne K (.type "NoneType") (.type "tuple")=some false:=by kernel_rfl
theorem PH:PySem.W.kitOne K (.type "bool") (.type "tuple")=some false:=by kernel_rfl
theorem PJ:PySem.W.kitOne K (.type "int") (.type "tuple")=some false:=by kernel_rfl
theorem PK:PySem.W.kitOne K (.type "str") (.type "tuple")=some false:=by kernel_rfl
theorem PL:PySem.W.kitOne K (.type "list") (.type "tuple")=some false:=by kernel_rfl
theorem PM:PySem.W.kitOne K (.type "dict") (.type "tuple")=some false:=by kernel_rfl
end
def gu(lo hi:Int):PyData->Bool
 | .int i=>decide (lo<=i)&&decide (i<=hi)
 | _=>false
def eZ(lo hi:Int):PyData->Bool
 | .list ds=>ds.all (gu lo hi)
 | _=>false
def eJ:PyData->Nat
 | .list ds=>ds.length
 | _=>0
def gU:PyData->Int
 | .int i=>i
 | _=>0
def oA:PyData->Int
 | .list ds=>(ds.map gU).sum
 | _=>0
def u_:PyData->Bool
 | .tuple [x,y,z]=>gu 2 16 x&&(eZ 1 6 y&&(decide (2<=eJ y)&&decide (eJ y<=4)))&&(eZ (-9) 9 z&&decide ((eJ z:Int)=oA y))
 | _=>false
def qG:PyData->Bool
 | .list _=>true
 | _=>false
theorem kJ{H:Hp}{v:V}{d:PyData}(t:Tree H v d):cA H v:=by
 cases t with
 | aw=>exact .aw
 | bl b=>exact .bl b
 | int i=>exact .int i
 | str x=>exact .str x
 | lst e _=>exact .lst e
 | tup e _=>exact .tup e
 | emp e=>exact .dK e
theorem yY{H:Hp}{v:V}{d:PyData}{lo hi:Int}(t:Tree H v d):cC v lo hi=gu lo hi d:=by cases t <;> rfl
theorem FQ{H:Hp}:∀ {xs:List V} {ds:List PyData} {i:Nat} {x:V},bY H xs ds->xs[i]?=some x->∃d,ds[i]?=some d/\Tree H x d
 | _,_,_,_,.nil,e=>by simp at e
 | _,_,0,_,.cons h _,e=>by simp at e;subst e;exact⟨_,rfl,h⟩
 | _,_,i+1,q,.cons _ t,e=>by
  obtain⟨d,h1,h2⟩:=FQ (i:=i) (x:=q) t (by simpa using e)
  exact⟨d,by simpa using h1,h2⟩
theorem kK{H:Hp}:∀ {xs:List V} {ds:List PyData},bY H xs ds->xs.length=ds.length
 | _,_,.nil=>rfl
 | _,_,.cons _ t=>by rw[a0k,a0k,kK t]
theorem yZ{H:Hp}{lo hi:Int}:∀ {xs:List V} {ds:List PyData},bY H xs ds->xs.all (λx=>cC x lo hi)=ds.all (gu lo hi)
 | _,_,.nil=>rfl
 | _,_,.cons h t=>by rw[a2m,a2m,yY h,yZ t]
theorem FR{H:Hp}{lo hi:Int}:∀ {xs:List V} {ds:List PyData},bY H xs ds->ds.all (gu lo hi)=true->xs=(ds.map gU).map V.int/\∀n∈ds.map gU,lo<=n/\n<=hi
 | _,_,.nil,_=>⟨rfl,λn hn=>by simp at hn⟩
 | _,_,.cons h t,a=>by
  rw[a2m,a0J] at a
  obtain⟨e,b⟩:=FR t a.2
  cases h with
  | int i =>
   have dr:lo<=i/\i<=hi:=by simpa [gu] using a.1
   refine⟨by rw[e];simp[gU],λn hn=>?_⟩
   rcases ZZ.mp hn with rfl | hn
   ·exact dr
   ·exact b n hn
  | _=>simp[gu] at a
def Sh(d:PyData):Prop:=d.weight<=300000
theorem FS:∀ds:List PyData,ds.length<=PyData.weightAll ds
 | []=>a0w _
 | d::r=>by have:=FS r;simp only[PyData.weightAll,a0k];lia
theorem y6:∀ {ds:List PyData} {d:PyData},d∈ds->d.weight<=PyData.weightAll ds
 | e::r,d,h=>by
  simp only[PyData.weightAll]
  rcases ZZ.mp h with rfl | h
  ·lia
  ·have:=y6 h;lia
def y7:Sp:=λvs H Q _=>∃v d lo hi,vs=[v,.int lo,.int hi]/\Tree H v d/\Sh d/\∀H',ag H H'->Q (.bl (eZ lo hi d)) H'
def uv:Sp:=λvs H Q _=>∃v d,vs=[v]/\Tree H v d/\Sh d/\∀H',ag H H'->Q (.bl (u_ d)) H'
section
variable{P:Program}{w:World}{K:PySem.W.Frag}{mg:Str->Option Value}{base:Heap}
theorem PN:aQ ["thing"] ["thing"] (g_ yk):=⟨rfl,rfl,rfl,by decide +kernel,rfl,by decide +kernel,by decide +kernel⟩
theorem PQ{f:Addr}{fd:FuncData}(F:aG K "is_whole" "is_whole" yk f fd)(T:Txt mg):ax P w K mg base aK 1 f fd ["thing"] ma:=by
 refine F.ok PN (λvs H Q E h=>?_) (λae A outer s H vs Q E hr h=>?_)
 ·obtain⟨v,rfl,_⟩:=h;rfl
 ·obtain⟨v,rfl,ty,k⟩:=h
  refine⟨_,h_ (n_ (nR (r_ tE (by rfl) T.eI boot_isinstance (a_ (pv 0) (a_ (qz T.int boot_int) e_)))
   (nQ (Md (r_ tE (by rfl) T.eI boot_isinstance (a_ (pv 0) (a_ (qz T.bool boot_bool) e_))))))),?_⟩
  cases ty with
  | aw=>exact⟨_,rfl,_,_,_,_,rfl,.aw,O0,false,rfl,aX k⟩
  | bl b=>exact⟨_,rfl,_,_,_,_,rfl,.bl b,OY,true,rfl,cf ⟨_,rfl,_,_,_,_,rfl,.bl b,OZ,true,rfl,k⟩⟩
  | int i=>exact⟨_,rfl,_,_,_,_,rfl,.int i,OW,true,rfl,cf ⟨_,rfl,_,_,_,_,rfl,.int i,OX,false,rfl,k⟩⟩
  | str x=>exact⟨_,rfl,_,_,_,_,rfl,.str x,O3,false,rfl,aX k⟩
  | lst e=>exact⟨_,rfl,_,_,_,_,rfl,.lst e,O4,false,rfl,aX k⟩
  | tup e=>exact⟨_,rfl,_,_,_,_,rfl,.tup e,O5,false,rfl,aX k⟩
  | dK e=>exact⟨_,rfl,_,_,_,_,rfl,.dK e,O6,false,rfl,aX k⟩
theorem PU:aQ ["thing","least","greatest"] ["thing","least","greatest"] (g_ yl):=⟨rfl,rfl,rfl,by decide +kernel,rfl,by decide +kernel,by decide +kernel⟩
theorem PV{f:Addr}{fd:FuncData}(F:aG K "is_between" "is_between" yl f fd)(D1:ak P w K mg base 1 "is_whole" ["thing"] ma):ax P w K mg base aK 2 f fd ["thing","least","greatest"] me:=by
 refine F.ok PU (λvs H Q E h=>?_) (λae A outer s H vs Q E hr h=>?_)
 ·obtain⟨v,lo,hi,rfl,_⟩:=h;rfl
 ·obtain⟨v,lo,hi,rfl,ty,k⟩:=h
  refine⟨_,h_ (n_ (nR (o_ D1 hr (by rfl) (a_ (pv 0) e_)) (nQ (MQ nX nX (pv 1) (pv 0) (pv 2))))),?_⟩
  refine⟨_,rfl,v,rfl,ty,_,rfl,?_⟩
  cases v with
  | int i =>
   refine cf ?_
   refine⟨_,rfl,_,rfl,_,_,rfl,rfl,_,rfl,?_⟩
   by_cases h1:lo<=i
   ·rw[decide_eq_true h1]
    refine cf ⟨_,rfl,_,_,rfl,rfl,?_⟩
    have e:cC (.int i) lo hi=decide (i<=hi):=by simp[cC,h1]
    rw[e] at k
    exact k
   ·rw[decide_eq_false h1]
    refine aX ?_
    have e:cC (.int i) lo hi=false:=by simp[cC,h1]
    rw[e] at k
    exact k
  | _=>exact aX k
theorem PY:aQ ["thing","least","greatest"] ["thing","least","greatest"] (g_ tQ):=⟨rfl,rfl,rfl,by decide +kernel,rfl,by decide +kernel,by decide +kernel⟩
theorem PZ{f:Addr}{fd:FuncData}(F:aG K "is_list_between" "is_list_between" tQ f fd)(T:Txt mg)(D2:ak P w K mg base 2 "is_between" ["thing","least","greatest"] me):ax P w K mg base aK 3 f fd ["thing","least","greatest"] y7:=by
 refine F.ok PY (λvs H Q E h=>?_) (λae A outer s H vs Q E hr h=>?_)
 ·obtain⟨v,d,lo,hi,rfl,_⟩:=h;rfl
 ·obtain⟨v,d,lo,hi,rfl,t,lV,k⟩:=h
  refine⟨_,h_ (n_ (nR (r_ tE (by rfl) T.eI boot_isinstance (a_ (pv 0) (a_ (qz T.list boot_list) e_)))
   (nQ (r_ (Ou rfl) (by rfl) T.all boot_all (a_
    (iW (g_ tQ) ["thing","least","greatest"] ["least","greatest"] [1,2] rfl (S_ (pv 0)) (λcl C s H fp=>fZ) (λcl C s H fp=>o_ D2 hr (by rfl) (a_ (pv 0) (a_ (pv 1) (a_ (pv 2) e_)))) (by decide +kernel)) e_))))),?_⟩
  cases t with
  | aw=>exact⟨_,rfl,_,_,_,_,rfl,.aw,Pu,false,rfl,aX (k H (ag.refl _))⟩
  | bl b=>exact⟨_,rfl,_,_,_,_,rfl,.bl b,Pw,false,rfl,aX (k H (ag.refl _))⟩
  | int i=>exact⟨_,rfl,_,_,_,_,rfl,.int i,Px,false,rfl,aX (k H (ag.refl _))⟩
  | str x=>exact⟨_,rfl,_,_,_,_,rfl,.str x,Py,false,rfl,aX (k H (ag.refl _))⟩
  | tup e rs=>exact⟨_,rfl,_,_,_,_,rfl,.tup e,Pz,false,rfl,aX (k H (ag.refl _))⟩
  | emp e=>exact⟨_,rfl,_,_,_,_,rfl,.dK e,PB,false,rfl,aX (k H (ag.refl _))⟩
  | lst e rs =>
   rename_i a xs ds
   have Y':xs.length<=300000:=by
    rw[kK rs]
    have h1:PyData.weightAll ds<=300000:=by simpa only[Sh,PyData.weight] using lV
    exact Z9 (FS ds) h1
   refine⟨_,rfl,_,_,_,_,rfl,.lst e,O7,true,rfl,cf ?_⟩
   refine⟨_,rfl,a,rfl,⟨_,af.of e⟩,iX (K:=K) (a:=a) (xs:=xs) (λi ys H2=>ys=((xs.take i).map λx=>V.bl (cC x lo hi))/\ag H H2) ⟨by simp,ag.refl _⟩ (λi ys H2 _ p=>af.of (p.2 _ _ e)) ?_ ?_⟩
   ·rintro i x ys H2 hx ⟨rfl,s2⟩
    have mn:i<xs.length:=(ZX.mp hx).1
    obtain⟨dd,_,tx⟩:=FQ rs hx
    refine⟨cq (by rw[ZW,a0g];lia),?_⟩
    refine⟨_,rfl,_,rfl,_,rfl,x,lo,hi,rfl,(kJ tx).keep s2,?_,s2⟩
    rw[Z8,hx]
    simp
   ·rintro ys H2 ⟨rfl,s2⟩ D hD
    refine⟨D,xs.map λx=>cC x lo hi,rfl,af.of ?_,?_⟩
    ·rw[d_,a0e,a1B]
     rfl
    ·have e2:(xs.map λx=>cC x lo hi).all id=ds.all (gu lo hi):=by rw[List.all_map,<-yZ rs];rfl
     rw[e2]
     exact k _ (iY s2 (s2.free hD))
end
theorem FU{ds:List PyData}(h:ds.length≠3):u_ (.tuple ds)=false:=by
 match ds,h with
 | [],_=>rfl
 | [_],_=>rfl
 | [_,_],_=>rfl
 | [_,_,_],h=>exact absurd rfl h
 | _::_::_::_::_,_=>rfl
theorem P0{lo hi:Int}{d:PyData}(h:eZ lo hi d=true):∃ds,d=.list ds/\ds.all (gu lo hi)=true:=by
 cases d with
 | list ds=>exact⟨ds,rfl,h⟩
 | _=>simp[eZ] at h
theorem P1{K:PySem.W.Frag}{H:Hp}{v:V}{d:PyData}(t:Tree H v d):(∃ty,fX K H v ty/\PySem.W.kitOne K ty (.type "tuple")=some false/\u_ d=false)\/∃a xs ds,v=.ref a/\d=.tuple ds/\H a=some (.tup xs)/\bY H xs ds:=by
 cases t with
 | aw=>exact .inl ⟨_,.aw,PD,rfl⟩
 | bl b=>exact .inl ⟨_,.bl b,PH,rfl⟩
 | int i=>exact .inl ⟨_,.int i,PJ,rfl⟩
 | str x=>exact .inl ⟨_,.str x,PK,rfl⟩
 | lst e rs=>exact .inl ⟨_,.lst e,PL,rfl⟩
 | emp e=>exact .inl ⟨_,.dK e,PM,rfl⟩
 | tup e rs=>exact .inr ⟨_,_,_,rfl,rfl,e,rs⟩
theorem y8{H:Hp}{xs:List V}{ds:List PyData}{n:Nat}(t:bY H xs ds)(h:xs.length=n+1):∃x r d s,xs=x::r/\ds=d::s/\r.length=n/\Tree H x d/\bY H r s:=by
 cases t with
 | nil=>cases h
 | cons a b=>exact⟨_,_,_,_,rfl,rfl,Nat.succ.inj h,a,b⟩
theorem P2{H:Hp}{xs:List V}{ds:List PyData}(t:bY H xs ds)(h:xs.length=3):∃x y z dx dy dz,xs=[x,y,z]/\ds=[dx,dy,dz]/\Tree H x dx/\Tree H y dy/\Tree H z dz:=by
 obtain⟨x,r,dx,s,rfl,rfl,h,tx,t⟩:=y8 t h
 obtain⟨y,r,dy,s,rfl,rfl,h,ty,t⟩:=y8 t h
 obtain⟨z,r,dz,s,rfl,rfl,h,tz,t⟩:=y8 t h
 cases t
 ·exact⟨x,y,z,dx,dy,dz,rfl,rfl,tx,ty,tz⟩
 ·cases h
theorem FV{H:Hp}{v:V}{d:PyData}{lo hi:Int}(t:Tree H v d)(h:eZ lo hi d=true):∃b vs ys,v=.ref b/\d=.list ys/\H b=some (.lst vs)/\vs.length=ys.length/\vs=(ys.map gU).map V.int/\∀n∈ys.map gU,lo<=n/\n<=hi:=by
 obtain⟨ys,rfl,ha⟩:=P0 h
 cases t with
 | lst e r =>
  obtain⟨ei,bi⟩:=FR r ha
  exact⟨_,_,ys,rfl,rfl,e,kK r,ei,bi⟩
theorem P3{c A B:Prop}[Decidable c](h1:c->A)(h2:¬ c->B):if decide c=true then A else B:=jB (λh=>h1 (of_decide_eq_true h)) λh=>h2 λz=>h (decide_eq_true z)
theorem P4{c A B:Prop}[Decidable c](h1:c->B)(h2:¬ c->A):if (!decide c)=true then A else B:=by
 by_cases h:c
 ·rw[decide_eq_true h];exact aX (h1 h)
 ·rw[decide_eq_false h];exact cf (h2 h)
section
variable{P:Program}{w:World}{K:PySem.W.Frag}{mg:Str->Option Value}{base:Heap}
theorem P5:aQ ["thing"] ["thing"] (g_ ym):=⟨rfl,rfl,rfl,by decide +kernel,rfl,by decide +kernel,by decide +kernel⟩
theorem P6{f:Addr}{fd:FuncData}(F:aG K "is_frame" "is_frame" ym f fd)(T:Txt mg)(D2:ak P w K mg base 2 "is_between" ["thing","least","greatest"] me)(D3:ak P w K mg base 3 "is_list_between" ["thing","least","greatest"] y7) :
  ax P w K mg base aK 4 f fd ["thing"] uv:=by
 refine F.ok P5 (λvs H Q E h=>?_) (λae A outer s H vs Q E hr h=>?_)
 ·obtain⟨v,d,rfl,_⟩:=h;rfl
 ·obtain⟨v,d,rfl,t,lV,k⟩:=h
  refine⟨_,c_ (Z_ (PW.pt (gL (d9 (dP (r_ tE (by rfl) T.eI boot_isinstance (a_ (pv 0) (a_ (qz T.tuple boot_tuple) e_))))) (ig (v_ lM (dC T.len (by rfl) (pv 0)) f_ (bO _))))) (h_ (n_ fV)) w_)
   (c_ (Z_ (d9 (dP (o_ D2 hr.mo (by rfl) (a_ (bX (pv 0) f_) (a_ f_ (a_ f_ e_)))))) (h_ (n_ fV)) w_)
   (c_ (Z_ (PW.pt (gL (d9 (dP (o_ D3 hr (by rfl) (a_ (bX (pv 0) f_) (a_ f_ (a_ f_ e_)))))) (ig (d9 (Ej nX nX f_ (dC T.len (by rfl) (bX (pv 0) f_)) f_))))) (h_ (n_ fV)) w_)
   (h_ (n_ (nR (o_ D3 hr (by rfl) (a_ (bX (pv 0) f_) (a_ (fE fI f_) (a_ f_ e_))))
    (nQ (sI iS (dC T.len (by rfl) (bX (pv 0) f_)) (r_ (x6 rfl) (by rfl) T.sum boot_sum (a_ (bX (pv 0) f_) e_)) (bO _)))))))),?_⟩
  rcases P1 (K:=K) t with⟨ty,t1,k1,hf⟩ | ⟨a,xs,ds,rfl,rfl,e,rs⟩
  ·rw[hf] at k
   exact⟨_,rfl,_,_,_,_,rfl,t1,k1,false,rfl,cf (k H (ag.refl _))⟩
  clear t
  by_cases h3:xs.length=3
  case neg =>
   rw[FU (by rw[<-kK rs];exact h3)] at k
   refine⟨_,rfl,_,_,_,_,rfl,.tup e,FC,true,rfl,aX ?_⟩
   refine⟨_,rfl,a,_,rfl,.inr (bo.of e),rfl,_,rfl,?_⟩
   have aZ:¬ V.int (xs.length:Int)=V.int 3:=by
    intro z
    injection z with z'
    lia
   rw[decide_eq_false aZ]
   exact cf (k H (ag.refl _))
  obtain⟨x,y,z,dx,dy,dz,rfl,rfl,tx,ty,tz⟩:=P2 rs h3
  have P7:Sh dy:=Z9 (y6 (ds:=[dx,dy,dz]) (by simp)) (by simpa only[Sh,PyData.weight] using lV)
  have P8:Sh dz:=Z9 (y6 (ds:=[dx,dy,dz]) (by simp)) (by simpa only[Sh,PyData.weight] using lV)
  clear rs h3 lV
  have no:∀H',ag H H'->u_ (.tuple [dx,dy,dz])=false->Q (.bl false) H':=λH' s' h=>by rw[<-h];exact k H' s'
  refine⟨_,rfl,_,_,_,_,rfl,.tup e,FC,true,rfl,aX ?_⟩
  refine⟨_,rfl,a,_,rfl,.inr (bo.of e),rfl,_,rfl,aX ?_⟩
  refine⟨_,rfl,_,_,_,_,rfl,rfl,bo.of e,rfl,⟨x,2,16,rfl,kJ tx,_,rfl,?_⟩⟩
  rw[yY tx]
  clear tx
  cases hb:gu 2 16 dx with
  | false=>exact cf (no H (ag.refl _) (by simp[u_,hb]))
  | true =>
  refine aX ?_
  refine⟨_,rfl,_,_,_,_,rfl,rfl,bo.of e,rfl,⟨y,dy,1,6,rfl,ty,P7,λH1 s1=>?_⟩⟩
  cases hy:eZ 1 6 dy with
  | false=>exact⟨_,rfl,cf (no H1 s1 (by simp[u_,hy]))⟩
  | true =>
  obtain⟨b,vs,ys,rfl,y9,ey,Za,ei,bi⟩:=FV ty hy
  clear ty
  refine⟨_,rfl,aX ?_⟩
  refine⟨_,rfl,_,_,_,_,rfl,rfl,bo.of (s1 _ _ e),rfl,⟨b,_,rfl,.inl (af.of (s1 _ _ ey)),_,_,rfl,rfl,_,rfl,?_⟩⟩
  refine P3 (λkE=>?_) (λh2=>⟨false,rfl,cf (no H1 s1 (by simp[u_,y9,eJ,show ¬ 2<=ys.length by lia]))⟩)
  refine⟨_,_,rfl,rfl,_,rfl,?_⟩
  refine P4 (λP9=>?_) (λh4=>no H1 s1 (by simp[u_,y9,eJ,show ¬ ys.length<=4 by lia]))
  have h2:2<=ys.length:=by lia
  have h4:ys.length<=4:=by lia
  clear kE P9
  refine⟨_,rfl,_,_,_,_,rfl,rfl,bo.of (s1 _ _ e),rfl,⟨_,rfl,⟨z,dz,-9,9,rfl,tz.keep s1,P8,λH2 s2=>⟨_,rfl,?_⟩⟩⟩⟩
  cases hz:eZ (-9) 9 dz with
  | false=>exact aX (no H2 (s1.trans s2) (by simp[u_,hz]))
  | true =>
  obtain⟨c,us,zs,rfl,Qa,ez,Qb,_,_⟩:=FV tz hz
  have gy:=s1.trans s2
  refine cf ?_
  refine⟨_,rfl,_,_,_,_,rfl,rfl,bo.of (gy _ _ e),rfl,⟨c,_,rfl,.inl (af.of (gy _ _ ez)),?_⟩⟩
  refine⟨_,rfl,_,_,_,_,rfl,rfl,bo.of (gy _ _ e),rfl,⟨b,ys.map gU,rfl,af.of (by rw[<-ei];exact gy _ _ ey),⟨by rw[ZW];lia,λn hn=>by have:=bi n hn;lia⟩,rfl,?_⟩⟩
  have ef:decide (V.int (us.length:Int)=V.int (ys.map gU).sum)=u_ (.tuple [dx,dy,dz]):=by
   rw[y9] at hy⊢
   rw[Qa] at hz⊢
   simp only[u_,hb,hy,hz,eJ,oA,decide_eq_true h2,decide_eq_true h4,a0X,Bool.true_and,<-Qb]
   by_cases q:(us.length:Int)=(ys.map gU).sum
   ·rw[decide_eq_true q,decide_eq_true (by rw[q])];simp[h2,h4]
   ·rw[decide_eq_false q,decide_eq_false λz=>q (by injection z)];simp
  rw[ef]
  exact k H2 gy
end
end Hv
namespace L2
open PySem PySem.Spec PyProof.Rows
section
variable{X:Cx}
end
end L2
namespace Hv
open PySem L2
theorem FW{lo hi:Int}{ns:List Int}:eZ lo hi (.list (ns.map PyData.int))=ns.all λn=>decide (lo<=n)&&decide (n<=hi):=by
 simp only[eZ,List.all_map]
 rfl
theorem Qc{b:Int}{ns ms:List Int}:u_ (.tuple [.int b,.list (ns.map .int),.list (ms.map .int)]) =
  ((decide (2<=b)&&decide (b<=16))&&((ns.all λn=>decide (1<=n)&&decide (n<=6))&&(decide (2<=ns.length)&&decide (ns.length<=4)))&&((ms.all λn=>decide (-9<=n)&&decide (n<=9))&&decide ((ms.length:Int)=ns.sum))):=by
 simp only[u_,FW,gu,eJ,oA,ZW,a1B]
 have e:(ns.map (gU∘PyData.int))=ns:=by
  have e0:(gU∘PyData.int)=(id:Int->Int):=funext λ_=>rfl
  rw[e0,List.map_id]
 rw[e]
theorem FX{i:Int}(h : -1000<=i/\i<=1000):(PyData.int i).weight<=90:=by
 have hl:i.natAbs.log2<84:=by
  by_cases h0:i.natAbs=0
  ·rw[h0];decide
  ·exact(Nat.log2_lt h0).mpr (a1v (show i.natAbs<=1000 by lia) (by decide))
 simp only[PyData.weight]
 split <;> lia
theorem uw:∀ {ns:List Int},(∀n∈ns,-1000<=n/\n<=1000)->PyData.weightAll (ns.map PyData.int)<=ns.length*91
 | [],_=>by simp[PyData.weightAll]
 | n::r,h=>by
  have h1:=FX (h n a0t)
  have h2:=uw (ns:=r) λm hm=>h m (Z5 _ hm)
  rw[a0f]
  unfold PyData.weightAll
  rw[a0k,a0K]
  lia
theorem Q_{H:Hp}:∀ns:List Int,bY H (ns.map V.int) (ns.map PyData.int)
 | []=>.nil
 | n::r=>.cons (.int n) (Q_ r)
def qH(b:Nat)(ps:List Nat)(ws:List Int):PyData:=.tuple [.int b,.list ((ps.map λ(p:Nat)=>(p:Int)).map PyData.int),.list (ws.map PyData.int)]
theorem aS.tree{H:Hp}{f a c:Addr}{b:Nat}{ps:List Nat}{ws:List Int}(G:aS H f a c b ps ws):Tree H (.ref f) (qH b ps ws) :=
 .tup G.tp (.cons (.int _) (.cons (.lst G.hp (by rw[tO];exact Q_ _)) (.cons (.lst G.hw (Q_ _)) .nil)))
theorem Qd{b:Nat}{ps:List Nat}{ws:List Int}(ok:l9 b ps ws):Sh (qH b ps ws):=by
 have h1:=uw (ns:=ps.map λ(p:Nat)=>(p:Int)) λn hn=>by
  obtain⟨p,hp,rfl⟩:=a0a.mp hn
  have:=ok.pr p hp
  lia
 have h2:=uw (ns:=ws) λn hn=>by have:=ok.wr n hn;lia
 have h3:=FX (i:=(b:Int)) (by have:=ok.dS;lia)
 have l4:=ok.l4
 have hs:=ok.sum
 have hw:=ok.wl
 rw[ZW] at h1
 unfold Sh qH
 simp only[PyData.weight,PyData.weightAll] at h3⊢
 lia
theorem Qe{b:Nat}{ps:List Nat}{ws:List Int}(ok:l9 b ps ws):u_ (qH b ps ws)=true:=by
 unfold qH
 rw[Qc]
 have e1:((ps.map λ(p:Nat)=>(p:Int)).all λn=>decide (1<=n)&&decide (n<=6))=true:=by
  rw[a1h]
  intro n hn
  obtain⟨p,hp,rfl⟩:=a0a.mp hn
  have:=ok.pr p hp
  simp only[a0J,decide_eq_true_eq]
  lia
 have e2:(ws.all λn=>decide (-9<=n)&&decide (n<=9))=true:=by
  rw[a1h]
  intro n hn
  have:=ok.wr n hn
  simp only[a0J,decide_eq_true_eq]
  lia
 have b2:=ok.b2
 have dS:=ok.dS
 have l2:=ok.l2
 have l4:=ok.l4
 have x1:decide (2<=(b:Int))=true:=decide_eq_true (by lia)
 have x2:decide ((b:Int)<=16)=true:=decide_eq_true (by lia)
 have x3:decide (2<=ps.length)=true:=decide_eq_true l2
 have x4:decide (ps.length<=4)=true:=decide_eq_true l4
 have x5:decide (((ps.sum:Nat):Int)=((ps.sum:Nat):Int))=true:=decide_eq_true rfl
 rw[e1,e2,Ma.tI,ZW,ok.wl,x1,x2,x3,x4,x5]
 rfl
section
variable{P:Program}{w:World}{K:PySem.W.Frag}{mg:Str->Option Value}{base:Heap}
theorem FY:aQ ["thing"] ["thing"] (g_ tR):=⟨rfl,rfl,rfl,by decide +kernel,rfl,by decide +kernel,by decide +kernel⟩
theorem FZ{f:Addr}{fd:FuncData}(F:aG K "need_frame" "need_frame" tR f fd)(D4:ak P w K mg base 4 "is_frame" ["thing"] FD):ax P w K mg base aK 5 f fd ["thing"] G_:=by
 refine F.ok FY (λvs H Q E h=>?_) (λae A outer s H vs Q E hr h=>?_)
 ·obtain⟨g,a,c,b,ps,ws,rfl,_⟩:=h;rfl
 ·obtain⟨g,a,c,b,ps,ws,rfl,G,k⟩:=h
  refine⟨_,h_ (Z_ (d9 (dP (o_ D4 hr (by rfl) (a_ (pv 0) e_)))) O_ w_),?_⟩
  exact⟨_,rfl,g,a,c,b,ps,ws,rfl,G,λH1 s1=>⟨_,rfl,aX (k H1 s1)⟩⟩
theorem ux:aQ ["frame","many","place"] ["frame"] (g_ yn):=⟨rfl,rfl,rfl,by decide +kernel,rfl,by decide +kernel,by decide +kernel⟩
theorem Qf{f:Addr}{fd:FuncData}(F:aG K "how_many" "how_many" yn f fd)(T:Txt mg)(D5:ak P w K mg base 5 "need_frame" ["thing"] G_):ax P w K mg base aK 6 f fd ["frame"] qA:=by
 refine F.ok ux (λvs H Q E h=>?_) (λae A outer s H vs Q E hr h=>?_)
 ·obtain⟨g,a,c,b,ps,ws,rfl,_⟩:=h;rfl
 ·obtain⟨g,a,c,b,ps,ws,rfl,G,k⟩:=h
  have ok:=G.ok
  have qI:=ok.sum
  refine⟨_,c_ (C_ (o_ D5 hr (by rfl) (a_ (pv 0) e_)))
   (c_ (k_ (i:=1) ux.nd rfl (Or.inl rfl) f_)
   (c_ (Y_ PassesOwn.never rfl (M_ (by rfl) T.range (a_ (dC T.len (by rfl) (bX (pv 0) f_)) e_)) (q_ (i:=2) ux.nd rfl (Or.inl rfl))
    (h_ (k_ (i:=1) ux.nd rfl (Or.inl rfl) (p_ fH (pv 1) (bX (pv 0) f_)))))
   (h_ (n_ (pv 1))))),?_⟩
  refine⟨_,rfl,g,a,c,b,ps,ws,rfl,G,λH1 s1=>?_⟩
  have G1:=G.keep s1
  refine⟨_,rfl,_,_,_,_,rfl,rfl,bo.of G1.tp,rfl,⟨c,_,rfl,.inl (af.of G1.hw),_,rfl,(by rw[ZW,ok.wl];lia),(by rw[ZW,ok.wl];lia),?_⟩⟩
  have en:((ws.map V.int).length:Int).toNat=ps.sum:=by rw[ZW,ok.wl];lia
  rw[en]
  refine iR (n:=ps.sum) (λi σ H2=>H2=H1/\∃v,σ=[some (.ref g),some (.int ((b ^ i:Nat):Int)),v]) ⟨rfl,none,rfl⟩ ?_ ?_
  ·rintro i σ H2 hi ⟨rfl,v,rfl⟩
   refine⟨_,rfl,_,rfl,_,_,_,_,rfl,rfl,bo.of G1.tp,rfl,⟨_,_,rfl,rfl,.inr ⟨by have:=ok.dS;lia,by have:=ok.dS;lia⟩,rfl,some (.int (0+(i:Int))),?_⟩⟩
   rw[a1q]
   push_cast
   rfl
  ·rintro σ H2 ⟨rfl,v,rfl⟩
   exact⟨_,rfl,k _ s1⟩
theorem Qg:aQ ["frame","thing"] ["frame","thing"] (g_ yo):=⟨rfl,rfl,rfl,by decide +kernel,rfl,by decide +kernel,by decide +kernel⟩
theorem Qh{f:Addr}{fd:FuncData}(F:aG K "need_number" "need_number" yo f fd)(D2:ak P w K mg base 2 "is_between" ["thing","least","greatest"] me)(D6:ak P w K mg base 6 "how_many" ["frame"] qA) :
  ax P w K mg base aK 7 f fd ["frame","thing"] yi:=by
 refine F.ok Qg (λvs H Q E h=>?_) (λae A outer s H vs Q E hr h=>?_)
 ·obtain⟨g,a,c,b,ps,ws,n,rfl,_⟩:=h;rfl
 ·obtain⟨g,a,c,b,ps,ws,n,rfl,G,hn,k⟩:=h
  refine⟨_,h_ (Z_ (d9 (dP (o_ D2 hr.mo (by rfl) (a_ (pv 1) (a_ f_ (a_ (p_ fF (o_ D6 hr (by rfl) (a_ (pv 0) e_)) f_) e_)))))) O_ w_),?_⟩
  refine⟨_,rfl,_,rfl,g,a,c,b,ps,ws,rfl,G,λH1 s1=>⟨_,_,rfl,rfl,.int n,0,_,rfl,.int _,_,rfl,?_⟩⟩
  have e:cC (.int (n:Int)) 0 (((b ^ ps.sum:Nat):Int)-1)=true:=by
   simp only[cC,a0J,decide_eq_true_eq]
   lia
  rw[e]
  exact aX (k H1 s1)
theorem qJ:aQ ["frame","n","figures","rest","place"] ["frame","n"] (g_ yq):=⟨rfl,rfl,rfl,by decide +kernel,rfl,by decide +kernel,by decide +kernel⟩
theorem Qi{f:Addr}{fd:FuncData}(F:aG K "figures_of" "figures_of" yq f fd)(T:Txt mg)(D5:ak P w K mg base 5 "need_frame" ["thing"] G_)(D7:ak P w K mg base 7 "need_number" ["frame","thing"] yi) :
  ax P w K mg base aK 8 f fd ["frame","n"] yj:=by
 refine F.ok qJ (λvs H Q E h=>?_) (λae A outer s H vs Q E hr h=>?_)
 ·obtain⟨g,a,c,b,ps,ws,n,rfl,_⟩:=h;rfl
 ·obtain⟨g,a,c,b,ps,ws,n,rfl,G,hn,k⟩:=h
  have ok:=G.ok
  have qI:=ok.sum
  have b2:=ok.b2
  have dS:=ok.dS
  refine⟨_,c_ (C_ (o_ D5 hr.mo (by rfl) (a_ (pv 0) e_)))
   (c_ (C_ (o_ D7 hr (by rfl) (a_ (pv 0) (a_ (pv 1) e_))))
   (c_ (k_ (i:=2) qJ.nd rfl (Or.inl rfl) (A_ e_))
   (c_ (k_ (i:=3) qJ.nd rfl (Or.inl rfl) (pv 1))
   (c_ (Y_ PassesOwn.never rfl (M_ (by rfl) T.range (a_ (dC T.len (by rfl) (bX (pv 0) f_)) e_)) (q_ (i:=4) qJ.nd rfl (Or.inl rfl))
    (c_ (C_ (kn PySem.F.plainAttrs_list PySem.F.slot_list_append PySem.F.type_list_append ko (pv 2) (a_ (p_ jx (pv 3) (bX (pv 0) f_)) e_)))
    (h_ (k_ (i:=3) qJ.nd rfl (Or.inl rfl) (p_ sG (pv 3) (bX (pv 0) f_))))))
   (h_ (n_ (OM rfl T.list T.rev (by rfl) (by rfl) (pv 2)))))))),?_⟩
  refine⟨_,rfl,g,a,c,b,ps,ws,rfl,G,λH1 s1=>?_⟩
  have G1:=G.keep s1
  refine⟨_,rfl,_,rfl,g,a,c,b,ps,ws,n,rfl,G1,hn,λH2 s2=>?_⟩
  have G2:=G1.keep s2
  refine⟨sz (by decide),λl hl=>?_⟩
  have s3:ag H2 (upd H2 l (.lst [])):=b_ hl
  have G3:=G2.keep s3
  refine⟨_,rfl,_,rfl,_,_,_,_,rfl,rfl,bo.of G3.tp,rfl,⟨c,_,rfl,.inl (af.of G3.hw),_,rfl,(by rw[ZW,ok.wl];lia),(by rw[ZW,ok.wl];lia),?_⟩⟩
  have en:((ws.map V.int).length:Int).toNat=ps.sum:=by rw[ZW,ok.wl];lia
  rw[en]
  refine iR (n:=ps.sum) (λi σ H4=>∃v,σ=[some (.ref g),some (.int n),some (.ref l),some (.int ((n / b ^ i:Nat):Int)),v]/\ag H2 H4/\H4 l=some (.lst (ay (Ma.ups b n i)))) ⟨none,(by rw[a1I,a2H];rfl),s3,d_⟩ ?_ ?_
  ·rintro i σ H4 hi ⟨v,rfl,s4,h4⟩
   have G4:=G2.keep s4
   refine⟨_,rfl,.inl ⟨rfl,_,af.of h4⟩,_,rfl,_,rfl,_,_,_,_,rfl,rfl,bo.of G4.tp,rfl,⟨_,_,rfl,rfl,(by show(0:Int)<b;lia),l,_,_,rfl,rfl,h4,cq (by simp[ay,Ma.OR];lia),?_⟩⟩
   have s5:ag H2 (upd H4 l (.lst (ay (Ma.ups b n i)++[V.int (((n / b ^ i:Nat):Int) % (b:Int))]))):=iY s4 hl
   refine⟨_,rfl,_,rfl,_,_,_,_,rfl,rfl,bo.of (G2.keep s5).tp,rfl,⟨_,_,rfl,rfl,⟨by show(0:Int)<b;lia,by show(b:Int)<1073741824;lia⟩,some (.int (0+(i:Int))),?_,s5,?_⟩⟩
   ·rw[<-Ma.OT]
    push_cast
    rfl
   ·rw[d_,Ma.OQ]
    simp[ay]
  ·rintro σ H4 ⟨v,rfl,s4,h4⟩
   refine⟨_,rfl,l,_,rfl,af.of h4,λr dj=>?_⟩
   refine k r _ ?_ ((s1.trans s2).trans (iY s4 (s4.free dj))) ?_
   ·exact(s1.trans (s2.trans s4)).free dj
   ·rw[d_,<-Ma.OS]
    simp[ay]
end
abbrev oB(H:Hp)(qs:List Addr)(rows:List (List Int)):Prop:=Paired (λq row=>H q=some (.lst (row.map V.int))) qs rows
theorem oB.Qj{H H':Hp}{qs:List Addr}{rows:List (List Int)}(s:∀b∈qs,∀row:List Int,H b=some (.lst (row.map V.int))->H' b=some (.lst (row.map V.int)))(h:oB H qs rows):oB H' qs rows:=by
 induction h with
 | nil=>exact .nil
 | cons h _ ih=>exact .cons (s _ (by simp) _ h) (ih λb hb=>s b (Z5 _ hb))
theorem uy{F:Addr->List Int->Prop}:∀ {qs:List Addr} {rows:List (List Int)} {i:Nat} {q:Addr},Paired F qs rows->qs[i]?=some q->∃row,rows[i]?=some row/\F q row
 | _,_,_,_,.nil,e=>by simp at e
 | _,_,0,_,.cons h _,e=>by simp at e;subst e;exact⟨_,rfl,h⟩
 | _,_,i+1,q,.cons _ t,e=>by
  obtain⟨row,h1,h2⟩:=uy (i:=i) (q:=q) t (by simpa using e)
  exact⟨row,by simpa using h1,h2⟩
def qK:Sp:=λvs H Q _=>∃f a c b ps ws,∃(r:Addr) (xs:List Int),vs=[.ref f,.ref r]/\aS H f a c b ps ws/\H r=some (.lst (xs.map V.int))/\
 ∀p qs H',ag H H'->H' p=some (.lst (qs.map V.ref))->oB H' qs (Ma.a9 ps xs)->Q (.ref p) H'
theorem F0{xs:List V}{i k:Nat}:cU xs (some (i:Int)) (some ((i:Int)+(k:Int)))=(xs.drop i).take k:=by
 have e:(i:Int)+(k:Int)=((i+k:Nat):Int):=by lia
 unfold cU
 rw[e,HT.qe,HT.qe]
 rcases a2v i xs.length with h | h
 ·rw[a1n h]
  rcases a2v (i+k) xs.length with h2 | h2
  ·rw[a1n h2,a1F]
  ·rw[a2l h2,a0v (by rw[a0B];lia),a0v (by rw[a0B];lia)]
 ·rw[a2l h,a2f (Z0 _),a2f h]
  simp
section
variable{P:Program}{w:World}{K:PySem.W.Frag}{mg:Str->Option Value}{base:Heap}
theorem F2:aQ ["frame","row","pieces","start","length"] ["frame","row"] (g_ yp):=⟨rfl,rfl,rfl,by decide +kernel,rfl,by decide +kernel,by decide +kernel⟩
theorem Qk{f:Addr}{fd:FuncData}(F:aG K "cut_by_parts" "cut_by_parts" yp f fd):ax P w K mg base aK 1 f fd ["frame","row"] qK:=by
 refine F.ok F2 (λvs H Q E h=>?_) (λae A outer s H vs Q E hr h=>?_)
 ·obtain⟨g,a,c,b,ps,ws,r,xs,rfl,_⟩:=h;rfl
 ·obtain⟨g,a,c,b,ps,ws,r,xs,rfl,G,bU,k⟩:=h
  have nd:=F2.nd
  have l4:=G.ok.l4
  refine⟨_,c_ (k_ (i:=2) nd rfl (Or.inl rfl) (A_ e_))
   (c_ (k_ (i:=3) nd rfl (Or.inl rfl) f_)
   (c_ (Y_ PassesOwn.never rfl (S_ (bX (pv 0) f_)) (q_ (i:=4) nd rfl (Or.inl rfl))
    (c_ (C_ (kn PySem.F.plainAttrs_list PySem.F.slot_list_append PySem.F.type_list_append ko (pv 2) (a_ (kj lT (pv 1) (gQ (pv 3)) (gQ (p_ K_ (pv 3) (pv 4)))) e_)))
    (h_ (k_ (i:=3) nd rfl (Or.inl rfl) (p_ K_ (pv 3) (pv 4))))))
   (h_ (n_ (pv 2))))),?_⟩
  refine⟨sz (by decide),λp hp=>?_⟩
  have s1:ag H (upd H p (.lst [])):=b_ hp
  have G1:=G.keep s1
  refine⟨_,rfl,_,_,_,_,rfl,rfl,bo.of G1.tp,rfl,a,rfl,⟨_,af.of G1.hp⟩,kf (K:=K) (a:=a) (xs:=ay ps) (λi σ H2=>∃(qs:List Addr) (v4:Option V),σ=[some (.ref g),some (.ref r),some (.ref p),some (.int (((ps.take i).sum:Nat):Int)),v4]/\
   ag H H2/\H2 p=some (.lst (qs.map V.ref))/\qs.length=i/\oB H2 qs ((Ma.a9 ps xs).take i)) ⟨[],none,rfl,s1,d_,rfl,.nil⟩ (λi σ H2 _ h=>by obtain⟨_,_,_,s2,_⟩:=h;exact af.of (s2 _ _ G.hp)) ?_ ?_⟩
  ·rintro i x σ H2 hx ⟨qs,v4,rfl,s2,cO,bM,rows⟩
   have hi:i<ps.length:=by
    have:=(ZX.mp hx).1
    simpa [ay] using this
   have e:ps[i]?=some ps[i]:=by simp[hi]
   have ex:x=V.int ((ps[i]:Nat):Int):=by
    have:(ay ps)[i]?=some (V.int ((ps[i]:Nat):Int)):=by simp[ay,hi]
    rw[this] at hx
    exact(Z6 hx).symm
   subst ex
   have pr:p≠r:=Ne.symm (l_ bU hp)
   refine⟨_,rfl,.inl ⟨rfl,_,af.of cO⟩,_,rfl,_,rfl,_,rfl,_,rfl,_,rfl,_,_,rfl,rfl,_,rfl,r,_,rfl,af.of (s2 _ _ bU),λq hq=>?_⟩
   have pq:p≠q:=l_ cO hq
   refine⟨p,_,_,rfl,rfl,(by rw[i_ pq];exact cO),cq (by rw[ZW];lia),?_⟩
   refine⟨_,rfl,_,rfl,_,_,rfl,rfl,qs++[q],some (.int ((ps[i]:Nat):Int)),?_,iY (iY s2 (s2.free hq)) hp,?_,by simp[bM],?_⟩
   ·rw[Z8,e,a0T]
    show[some (V.ref g),some (.ref r),some (.ref p),some (.int (((ps.take i).sum:Nat)+((ps[i]:Nat):Int))),_]=_
    simp
   ·rw[d_];simp
   ·rw[Z8,Ma.tL ps xs i ps[i] e]
    refine Paired.snoc (oB.Qj (H:=H2) (λbb hb row z=>?_) rows) ?_
    ·have bp:bb≠p:=wX z cO (by
      intro e
      have e':row.map V.int=qs.map V.ref:=by injection e
      have m1:V.ref bb∈row.map V.int:=by rw[e'];exact a0a.mpr ⟨bb,hb,rfl⟩
      obtain⟨_,_,m2⟩:=a0a.mp m1
      cases m2)
     rw[i_ bp,i_ (l_ z hq)]
     exact z
    ·rw[i_ pq.symm,d_,F0,<-a2J,<-a1U]
  ·rintro σ H2 ⟨qs,v4,rfl,s2,cO,bM,rows⟩
   refine⟨_,rfl,k p qs H2 s2 cO ?_⟩
   have e:(ay ps).length=(Ma.a9 ps xs).length:=by rw[Ma.iu];simp[ay]
   rw[e,a0e] at rows
   exact rows
end
end Hv
namespace L2
open PySem PySem.Spec PyProof.Rows
theorem Ql{k:aE}{v:Value}(h:jq k v=true):RelV (kV k) v:=by
 rcases H_ h with⟨i,t,rfl,rfl⟩ | ⟨x,t,rfl,rfl⟩ <;> exact⟨_,rfl⟩
theorem KV.at{kvs:List (aE×V)}{vs:List (aE×Value)}(r:KV kvs vs):∀ {i:Nat} {p:aE×V},kvs[i]?=some p->∃u,vs[i]?=some (p.1,u)/\RelV p.2 u:=by
 unfold KV at r
 induction r with
 | nil=>intro i p e;simp at e
 | @cons a b as bs h t ih =>
  intro i p e
  cases i with
  | zero =>
   simp at e
   subst e
   exact⟨b.2,by rw[h.1];rfl,h.2⟩
  | succ i=>simpa using ih (i:=i) (p:=p) (by simpa using e)
section
variable{X:Cx}{aa:List (Addr×Obj)}{σ:St}{H:Hp}{s:Shared}{a:Addr}{o:Obj}{kvs:List (aE×V)}
theorem Inv.freeze(I:Inv X aa σ H s)(e:H a=some (.dK kvs))(ho:s.heap.get? a=some o):Inv X aa σ (upd H a (.ce o (.dK kvs))) s :=
 I.write (x:=a) (e:=a) (t':=s.toks) (h':=s.heap) (by rw[e];trivial) (.inl rfl) (λb q _ z=>z) ⟨o,ho⟩ ⟨ho,I.am a _ e⟩
theorem Inv.Qm(I:Inv X aa σ H s)(e:H a=some (.ce o (.dK kvs)))(hb:∀o u,X.jt a≠some (.ce o u)):Inv X aa σ (upd H a (.dK kvs)) s:=by
 have ne:∀b,H b=none->b≠a:=λb n z=>by rw[z,e] at n;cases n
 refine⟨I.ok,I.os,I.bare,⟨I.base.keep,I.base.slot,λb ob q n hx=>?_,I.base.there,λb xs q=>?_,λb ob u q=>?_,λb ps q=>?_⟩,I.loc,I.cell,?_,λx c q=>?_,λp hp=>?_,λb u q=>?_,I.len⟩
 ·have:=I.base.free b ob q n hx
  rw[i_ (ne b this)];exact this
 ·have q':=I.base.eQ b xs q
  rw[i_ (λz=>by rw[z,e] at q';cases q')];exact q'
 ·have q':=I.base.d7 b ob u q
  rw[i_ (λz=>hb ob u (by rw[<-z];exact q))];exact q'
 ·obtain⟨m,q'⟩:=I.base.fC b ps q
  exact⟨m,by rw[i_ (λz=>by rw[z,e] at q';cases q')];exact q'⟩
 ·rw[i_ (ne _ I.free)];exact I.free
 ·rw[i_ (ne _ (I.d8 x c q))];exact I.d8 x c q
 ·obtain⟨h1,h2,h3⟩:=I.pin p hp
  exact⟨h1,by rw[i_ (ne _ h2)];exact h2,h3⟩
 ·by_cases F4:b=a
  ·subst F4
   rw[d_] at q
   cases q
   exact(I.am b _ e).2
  ·rw[i_ F4] at q
   refine(I.am b u q).cE (λ_ _ _ z=>z) (λc z=>?_) λc xs z=>?_
   ·rw[i_ (λy=>by rw[y,e] at z;cases z)];exact z
   ·rw[i_ (λy=>by rw[y,e] at z;cases z)];exact z
def Qn(jt:Hp)(u:TS):TS:=λD σ H=>∃a o kvs,H a=some (.ce o (.dK kvs))/\(∀o u,jt a≠some (.ce o u))/\u D σ (upd H a (.dK kvs))
theorem y'{bv:List Stmt}{u:TS}(h:cN X bv u):cN X bv (Qn X.jt u):=λaa s σ H D I q=>by
 obtain⟨a,o,kvs,e,hb,q⟩:=q
 exact h aa s σ _ D (I.Qm e hb) q
end
def qL(a:Addr)(o:Obj)(kvs:List (aE×V)):It :=
 ⟨λi H=>H a=some (.ce o (.dK kvs))/\i<kvs.length,λi H x H'=>H'=H/\∃k v,kvs[i]?=some (k,v)/\x=kV k,λi H=>H a=some (.ce o (.dK kvs))/\kvs.length<=i⟩
theorem Qo{P:Program}{w:World}{K:PySem.W.Frag}{tg:Expr}{a it:Addr}{o:Obj}{kvs:List (aE×V)}{vs:List (aE×Value)}{ep:Nat}(bT:KV kvs vs)
  (da:∀h:Heap,h.get? a=some o->h.DictAt (y_ P w) a vs ep):j8 P w K tg (qL a o kvs) [it] it (λi h=>h.IsKeyIter it a i vs.length ep) where
 mem:=by simp
 obj:=λi h st b hb=>by
  have e:b=it:=by simpa using hb
  subst e
  obtain⟨o,e,c,d⟩:=st
  exact⟨o,e,λv z=>by rw[d] at z;cases z⟩
 keep:=λi h h' st k=>st.at λo e=>k it (by simp) o e
 item:=by
  intro X hP hw hK hc i aa s σ H E I hf st hg
  subst hP hw hK
  obtain⟨hq,hi⟩:=hg
  obtain⟨f0,f1,f2,f3,f4,f5⟩:=hf it (by simp)
  have hx:kvs[i]?=some kvs[i]:=by simp[hi]
  obtain⟨u,hu,ru⟩:=bT.at hx
  refine wpAny_pyNext_dict_item st (da _ (I.am a _ hq).1) hu λaP h' hk ap sb=>?_
  have I1:Inv X aa σ H {s with heap:=h'}:=I.turned (t':=s.toks) (λb o hb e=>(sb.2 b hb).trans e) f0 f1 f3 f4 f5
  obtain⟨oi,e,c,d⟩:=id ap
  exact⟨aP,rfl,xn (s:={s with heap:=h'}) e c d (by decide) ⟨kV (kvs[i]).1,H,I1,Ql hk,⟨rfl,(kvs[i]).1,(kvs[i]).2,hx,rfl⟩,ap,λb hb=>(hf b hb).1⟩⟩
 done:=by
  intro X hP hw hK hc i aa s σ H E I hf st hg
  subst hP hw hK
  obtain⟨hq,hi⟩:=hg
  obtain⟨f0,f1,f2,f3,f4,f5⟩:=hf it (by simp)
  have hl:=bT.length
  exact wpAny_pyNext_dict_end (I.ok.hd hc) st (da _ (I.am a _ hq).1) (by simp;lia) λh' eb=>⟨rfl,I.turned (t':=s.toks) (λb o hb e=>eb b o hb e) f0 f1 f3 f4 f5⟩
 self:=λ_ _ _ _ _ st h=>wpAny_pyIter_keyiter st h
def Qp(tl:TE):TI:=fun σ H R=>tl σ H λx H1=>∃a kvs,x=.ref a/\H1 a=some (.dK kvs)/\∀o,R (qL a o kvs) (upd H1 a (.ce o (.dK kvs)))
theorem za{X:Cx}{tg l:Expr}{tl:TE}(hl:PE X l tl):PI X tg l (Qp tl):=by
 intro aa s σ H R I h
 refine au (hl aa s σ H _ I h) λv s1 ⟨x,H1,I1,r1,q1⟩=>?_
 obtain⟨a,kvs,e,he,q⟩:=q1
 subst e
 cases r1
 obtain⟨z,hd,vs,bT,o,es,ep,ho,dd⟩:=mf I1.am he
 refine wpAny_pyIter_dict hd (ep:=ep) ⟨o,es,ho,dd⟩ ?_
 have I2:=I1.freeze he ho
 refine⟨s1.heap.objs.size,[s1.heap.objs.size],_,_,_,rfl,I2.kept (t':=s1.toks) λb o e=>ZV _ e,Qo (ep:=ep) bT λh e=>⟨o,es,e,dd⟩,⟨_,Z3 _ rfl,rfl,rfl⟩,λb hb=>?_,q o⟩
 have e:b=s1.heap.objs.size:=by simpa using hb
 subst e
 exact I2.pZ (Z0 _) (I2.am.fresh (Z0 _))
theorem zb{a:Addr}{o:Obj}{kvs:List (aE×V)}{g:TG}{tb:TS}{D:Ends}{σ:St}{H:Hp}(Pv:Nat->St->Hp->Prop)(h0:Pv 0 σ H)(hl:∀i σ H,i<=kvs.length->Pv i σ H->H a=some (.ce o (.dK kvs)))
  (hs:∀i k v σ H,kvs[i]?=some (k,v)->Pv i σ H->g (kV k) σ H λcr H2=>tb {D with nx:=Pv (i+1),ct:=Pv (i+1),bk:=D.nx} cr H2) (hd:∀ σ H,Pv kvs.length σ H->D.nx σ H) :
  ∃W:Nat->Nat->St->Hp->Prop,(∃m,W 0 m σ H)/\∀i m σ H,W i m σ H->
   ((qL a o kvs).stop i H/\D.nx σ H)\/((qL a o kvs).go i H/\∃N:St->Hp->Prop,(∀ az H',N az H'->∃m',m'<m/\W (i+1) m' az H')/\∀x H',(qL a o kvs).gN i H x H'->g x σ H' λcr H2=>tb {D with nx:=N,ct:=N,bk:=D.nx} cr H2):=by
 refine⟨λi m σ H=>m=kvs.length-i/\i<=kvs.length/\Pv i σ H,⟨kvs.length,by simp,a0w _,h0⟩,?_⟩
 rintro i m σ H ⟨rfl,hi,p⟩
 have q:=hl i σ H hi p
 by_cases aT:i<kvs.length
 ·refine .inr ⟨⟨q,aT⟩,Pv (i+1),λaz H' p'=>⟨kvs.length-(i+1),by lia,rfl,aT,p'⟩,λx H' y=>?_⟩
  obtain⟨e,k,v,hk,rfl⟩:=y
  subst e
  exact hs i k v σ _ hk p
 ·have e:i=kvs.length:=by lia
  subst e
  exact .inl ⟨⟨q,Z0 _⟩,hd σ H p⟩
end L2
namespace Srt
open PySem PyProof.Rows
structure Ok(a₀:Array Keyed)(p:Array (Nat×Nat×Nat))(st:SortSt):Prop where
 perm:(arrOf st).Perm a₀
 kind:kindOf st=oneType'
 failed:failedOf st=none
 pend:pendingOf st=p
abbrev qM(x:Keyed):Prop:=∃n t,x.1=.int n t
section
variable{prog:Program}{w:World}{A:Around}{E:Value->Shared->Prop}{s:Shared}{a₀:Array Keyed}{p:Array (Nat×Nat×Nat)}{st:SortSt}
theorem Ok.size(h:Ok a₀ p st):(arrOf st).size=a₀.size:=h.perm.size_eq
theorem Ok.set(h:Ok a₀ p st){xs:Array Keyed}(hp:xs.Perm (arrOf st)):Ok a₀ p (setArr st xs):=⟨hp.trans h.perm,h.kind,h.failed,h.pend⟩
theorem Ok.keys(h:Ok a₀ p st)(h0:IntKeys a₀):IntKeys (arrOf st):=λx hx=>h0 x ((a1M.mp h.perm).mem_iff.mp hx)
theorem fP{xs:Array Keyed}(h:IntKeys xs){i:Nat}(hi:i<xs.size):qM xs[i]:=h _ (by simp)
theorem qN{x y:Keyed}{Q:Option Bool->SortSt->Prop}(hk:kindOf st=oneType')(hx:qM x)(hy:qM y)(h:∀r,Q (some r) st):wpS (model prog w) A E s (lt' x y) Q st:=by
 obtain⟨a,t,hx⟩:=hx
 obtain⟨b,u,hy⟩:=hy
 rw[lt'_eq]
 refine wpS_bind (wpS_get ?_)
 rw[hk,keyLt'_oneType,hx,hy]
 refine wpS_bind (wpS_lift (wpAny_attempt (oneLt_int ⟨rfl,?_⟩)))
 exact wpS_pure (h _)
theorem t_{gW:Array Keyed}{i:Nat}{Q:Keyed->SortSt->Prop}(hi:i<gW.size)(h:Q gW[i] st):wpS (model prog w) A E s (elem' gW i) Q st:=by
 rw[elem'_eq,getElem?_pos gW i hi]
 exact wpS_pure h
theorem ix{i j:Nat}{Q:Option Bool->SortSt->Prop}(ok:Ok a₀ p st)(h0:IntKeys a₀)(hi:i<a₀.size)(hj:j<a₀.size)(h:∀r,Q (some r) st):wpS (model prog w) A E s (ltAt' i j) Q st:=by
 rw[ltAt'_eq]
 refine wpS_bind (wpS_get ?_)
 have sz:=ok.size
 have hk:=ok.keys h0
 exact wpS_bind (t_ (by lia) (wpS_bind (t_ (by lia) (qN ok.kind (fP hk _) (fP hk _) h))))
theorem jH{i j:Nat}{Q:Unit->SortSt->Prop}(ok:Ok a₀ p st)(h:∀ap,Ok a₀ p ap->Q () ap):wpS (model prog w) A E s (reverseSlice' i j) Q st:=by
 rw[reverseSlice'_eq]
 exact wpS_modify (h _ (ok.set (mirror_perm _ _ _ _)))
theorem Qq{i j:Nat}{Q:Unit->SortSt->Prop}(ok:Ok a₀ p st)(h:∀ap,Ok a₀ p ap->Q () ap):wpS (model prog w) A E s (moveDown' i j) Q st:=by
 rw[moveDown'_eq]
 exact wpS_modify (h _ (ok.set (bubble_perm _ _ _)))
theorem Qr{lo gz:Nat}{Q:Option Nat->SortSt->Prop}(h0:IntKeys a₀)(hn:lo+gz<=a₀.size)(h1:1<=gz)(ok:Ok a₀ p st)
  (h:∀m ap,Ok a₀ p ap->1<=m->m<=gz->Q (some m) ap):wpS (model prog w) A E s (countRun' lo gz) Q st:=by
 rw[countRun'_eq]
 refine wpS_bind (wpS_mono (wpS_forRange (I:=λx c ap=>c=(none,x)/\Ok a₀ p ap) (Q:=λc ap=>∃n,c=(none,n)/\1<=n/\n<=gz/\Ok a₀ p ap) ?step ?fin ⟨rfl,ok⟩) ?post)
 case step =>
  rintro x c ap eL gX ⟨rfl,aH⟩
  refine wpS_bind (ix aH h0 (by lia) (by lia) λr=>?_)
  cases r with
  | true=>exact wpS_pure ⟨x,rfl,eL,by lia,aH⟩
  | false=>exact wpS_pure ⟨rfl,aH⟩
 case fin =>
  rintro c ap ⟨rfl,aH⟩
  exact⟨max 1 gz,rfl,by lia,by lia,aH⟩
 case post =>
  rintro c ap ⟨n,rfl,iZ,fJ,aH⟩
  dsimp only
  by_cases F5:n=gz
  ·rw[if_pos (by simpa using F5)]
   exact wpS_pure (h n _ aH iZ fJ)
  ·rw[if_neg (by simpa using F5)]
   by_cases oC:n>1
   ·rw[if_pos oC]
    refine wpS_bind (ix aH h0 (by lia) (by lia) λr=>?_)
    cases r with
    | true=>exact wpS_pure (h n _ aH iZ fJ)
    | false =>
     dsimp only
     rw[if_neg a0b]
     refine wpS_bind (jH aH λmq bt=>?_)
     refine wpS_bind (wpS_lift (wpAny_rule ⟨rfl,?_⟩))
     refine wpS_bind (wpS_mono (wpS_forRange (I:=λx c ap=>(∃q,c=(none,x,q))/\Ok a₀ p ap) (Q:=λc ap=>∃m q,c=(none,m,q)/\1<=m/\m<=gz/\Ok a₀ p ap) ?_ ?_ ⟨⟨0,rfl⟩,bt⟩) ?_)
     ·rintro x c ap eL gX ⟨⟨q,rfl⟩,aH⟩
      dsimp only
      refine wpS_bind (ix aH h0 (by lia) (by lia) λr=>?_)
      cases r with
      | true =>
       dsimp only
       by_cases hq:q>0
       ·rw[if_pos rfl,if_pos hq]
        exact wpS_bind (jH aH λbh aO=>wpS_pure ⟨⟨0,rfl⟩,aO⟩)
       ·rw[if_pos rfl,if_neg hq]
        exact wpS_pure ⟨⟨0,rfl⟩,aH⟩
      | false =>
       dsimp only
       rw[if_neg a0b]
       refine wpS_bind (ix aH h0 (by lia) (by lia) λr=>?_)
       cases r with
       | true=>exact wpS_pure ⟨x,q,rfl,by lia,by lia,aH⟩
       | false=>exact wpS_pure ⟨⟨q+1,rfl⟩,aH⟩
     ·rintro c ap ⟨⟨q,rfl⟩,aH⟩
      exact⟨_,q,rfl,by lia,by lia,aH⟩
     ·rintro c ap ⟨m,q,rfl,gS,dB,aO⟩
      dsimp only
      by_cases hq:q>0
      ·rw[if_pos hq]
       refine wpS_bind (jH aO λbJ bj=>?_)
       refine wpS_bind (jH bj λzc mr=>?_)
       refine wpS_bind (wpS_mono (wpS_forRange (I:=λx c ap=>c=(none,x)/\Ok a₀ p ap) (Q:=λc ap=>∃n,c=(none,n)/\1<=n/\n<=gz/\Ok a₀ p ap) ?_ ?_ ⟨rfl,mr⟩) ?_)
       ·rintro x c ap eL gX ⟨rfl,aH⟩
        refine wpS_bind (ix aH h0 (by lia) (by lia) λr=>?_)
        cases r with
        | true=>exact wpS_pure ⟨x,rfl,by lia,by lia,aH⟩
        | false=>exact wpS_pure ⟨rfl,aH⟩
       ·rintro c ap ⟨rfl,aH⟩
        exact⟨_,rfl,by lia,by lia,aH⟩
       ·rintro c ap ⟨n,rfl,iZ,fJ,aH⟩
        exact wpS_pure (h n _ aH iZ fJ)
      ·rw[if_neg hq]
       refine wpS_bind (jH aO λzc mr=>?_)
       refine wpS_bind (wpS_mono (wpS_forRange (I:=λx c ap=>c=(none,x)/\Ok a₀ p ap) (Q:=λc ap=>∃n,c=(none,n)/\1<=n/\n<=gz/\Ok a₀ p ap) ?_ ?_ ⟨rfl,mr⟩) ?_)
       ·rintro x c ap eL gX ⟨rfl,aH⟩
        refine wpS_bind (ix aH h0 (by lia) (by lia) λr=>?_)
        cases r with
        | true=>exact wpS_pure ⟨x,rfl,by lia,by lia,aH⟩
        | false=>exact wpS_pure ⟨rfl,aH⟩
       ·rintro c ap ⟨rfl,aH⟩
        exact⟨_,rfl,by lia,by lia,aH⟩
       ·rintro c ap ⟨n,rfl,iZ,fJ,aH⟩
        exact wpS_pure (h n _ aH iZ fJ)
   ·rw[if_neg oC]
    refine wpS_bind (wpS_lift (wpAny_rule ⟨rfl,?_⟩))
    refine wpS_bind (wpS_mono (wpS_forRange (I:=λx c ap=>(∃q,c=(none,x,q))/\Ok a₀ p ap) (Q:=λc ap=>∃m q,c=(none,m,q)/\1<=m/\m<=gz/\Ok a₀ p ap) ?_ ?_ ⟨⟨0,rfl⟩,aH⟩) ?_)
    ·rintro x c ap eL gX ⟨⟨q,rfl⟩,aH⟩
     dsimp only
     refine wpS_bind (ix aH h0 (by lia) (by lia) λr=>?_)
     cases r with
     | true =>
      dsimp only
      by_cases hq:q>0
      ·rw[if_pos rfl,if_pos hq]
       exact wpS_bind (jH aH λbh aO=>wpS_pure ⟨⟨0,rfl⟩,aO⟩)
      ·rw[if_pos rfl,if_neg hq]
       exact wpS_pure ⟨⟨0,rfl⟩,aH⟩
     | false =>
      dsimp only
      rw[if_neg a0b]
      refine wpS_bind (ix aH h0 (by lia) (by lia) λr=>?_)
      cases r with
      | true=>exact wpS_pure ⟨x,q,rfl,by lia,by lia,aH⟩
      | false=>exact wpS_pure ⟨⟨q+1,rfl⟩,aH⟩
    ·rintro c ap ⟨⟨q,rfl⟩,aH⟩
     exact⟨_,q,rfl,by lia,by lia,aH⟩
    ·rintro c ap ⟨m,q,rfl,gS,dB,aO⟩
     dsimp only
     by_cases hq:q>0
     ·rw[if_pos hq]
      refine wpS_bind (jH aO λbJ bj=>?_)
      refine wpS_bind (jH bj λzc mr=>?_)
      refine wpS_bind (wpS_mono (wpS_forRange (I:=λx c ap=>c=(none,x)/\Ok a₀ p ap) (Q:=λc ap=>∃n,c=(none,n)/\1<=n/\n<=gz/\Ok a₀ p ap) ?_ ?_ ⟨rfl,mr⟩) ?_)
      ·rintro x c ap eL gX ⟨rfl,aH⟩
       refine wpS_bind (ix aH h0 (by lia) (by lia) λr=>?_)
       cases r with
       | true=>exact wpS_pure ⟨x,rfl,by lia,by lia,aH⟩
       | false=>exact wpS_pure ⟨rfl,aH⟩
      ·rintro c ap ⟨rfl,aH⟩
       exact⟨_,rfl,by lia,by lia,aH⟩
      ·rintro c ap ⟨n,rfl,iZ,fJ,aH⟩
       exact wpS_pure (h n _ aH iZ fJ)
     ·rw[if_neg hq]
      refine wpS_bind (jH aO λzc mr=>?_)
      refine wpS_bind (wpS_mono (wpS_forRange (I:=λx c ap=>c=(none,x)/\Ok a₀ p ap) (Q:=λc ap=>∃n,c=(none,n)/\1<=n/\n<=gz/\Ok a₀ p ap) ?_ ?_ ⟨rfl,mr⟩) ?_)
      ·rintro x c ap eL gX ⟨rfl,aH⟩
       refine wpS_bind (ix aH h0 (by lia) (by lia) λr=>?_)
       cases r with
       | true=>exact wpS_pure ⟨x,rfl,by lia,by lia,aH⟩
       | false=>exact wpS_pure ⟨rfl,aH⟩
      ·rintro c ap ⟨rfl,aH⟩
       exact⟨_,rfl,by lia,by lia,aH⟩
      ·rintro c ap ⟨n,rfl,iZ,fJ,aH⟩
       exact wpS_pure (h n _ aH iZ fJ)
theorem Qs{lo n ok:Nat}{Q:Bool->SortSt->Prop}(h0:IntKeys a₀)(hn:lo+n<=a₀.size)(hB:Ok a₀ p st)(h:∀ap,Ok a₀ p ap->Q true ap):wpS (model prog w) A E s (binarySort' lo n ok) Q st:=by
 rw[binarySort'_eq]
 refine wpS_bind (wpS_mono (wpS_forRange (I:=λk c ap=>c=(none,())/\Ok a₀ p ap) (Q:=λc ap=>c=(none,())/\Ok a₀ p ap) ?step (λ_ _ z=>z) ⟨rfl,hB⟩) ?post)
 case post =>
  rintro c ap ⟨rfl,aH⟩
  exact wpS_pure (h _ aH)
 case step =>
  rintro k c ap zd jI ⟨rfl,aH⟩
  dsimp only
  refine wpS_bind (wpS_mono (wpS_forRange (I:=λ_ c bh=>(∃l r,c=(none,l,r)/\r<=k)/\Ok a₀ p bh) (Q:=λc bh=>(∃l r,c=(none,l,r)/\r<=k)/\Ok a₀ p bh) ?_ (λ_ _ z=>z) ⟨⟨0,k,rfl,Z0 _⟩,aH⟩) ?_)
  ·rintro x c bh _ _ ⟨⟨l,r,rfl,hr⟩,aO⟩
   dsimp only
   by_cases f7:l>=r
   ·rw[if_pos f7]
    exact wpS_pure ⟨⟨l,r,rfl,hr⟩,aO⟩
   ·rw[if_neg f7]
    refine wpS_bind (ix aO h0 (by lia) (by lia) λless=>?_)
    cases less with
    | true=>exact wpS_pure ⟨⟨l,(l+r) / 2,rfl,by lia⟩,aO⟩
    | false=>exact wpS_pure ⟨⟨(l+r) / 2+1,r,rfl,hr⟩,aO⟩
  ·rintro c bh ⟨⟨l,r,rfl,hr⟩,aO⟩
   dsimp only
   exact wpS_bind (Qq aO λbJ bj=>wpS_pure ⟨rfl,bj⟩)
end
def F6:Bool->Keyed->Array Keyed->Nat->Nat->Nat->StateT SortSt Sem (Option Nat):=sortPriv% PySem.Builtin.gallop
section
variable{prog:Program}{w:World}{A:Around}{E:Value->Shared->Prop}{s:Shared}{st:SortSt}
theorem qO{left:Bool}{aP:Keyed}{gW:Array Keyed}{i:Nat}{Q:Option Bool->SortSt->Prop}(hk:kindOf st=oneType')(h0:IntKeys gW)(gO:qM aP)(hi:i<gW.size)(h:∀r,Q (some r) st) :
  wpS (model prog w) A E s (elem' gW i>>=λx=>if left=true then lt' x aP else lt' aP x>>=λr=>pure (Option.map (λx=>!x) r)) Q st:=by
 refine wpS_bind (t_ hi ?_)
 cases left with
 | true=>exact qN hk (fP h0 hi) gO h
 | false=>exact wpS_bind (qN hk gO (fP h0 hi) λr=>wpS_pure (h _))
theorem mt{left:Bool}{aP:Keyed}{gW:Array Keyed}{base n hint:Nat}{Q:Option Nat->SortSt->Prop}(hk:kindOf st=oneType')(h0:IntKeys gW)(gO:qM aP)(hb:base+n<=gW.size)(hh:hint<n)
  (h:∀k,k<=n->Q (some k) st):wpS (model prog w) A E s (F6 left aP gW base n hint) Q st:=by
 unfold F6
 show wpS _ _ _ _ (_>>=_) _ _
 dsimp only
 refine wpS_bind (qO hk h0 gO (by lia) λright=>?_)
 cases right with
 | true =>
  dsimp only
  rw[if_pos rfl]
  refine wpS_bind (wpS_mono (wpS_forRange (I:=λ_ c bh=>(∃l r,c=(none,l,r))/\st=bh) (Q:=λc bh=>(∃l r,c=(none,l,r))/\st=bh) ?_ (λ_ _ z=>z) ⟨⟨_,_,rfl⟩,rfl⟩) ?_)
  ·rintro x c bh _ _ ⟨⟨l,r,rfl⟩,rfl⟩
   dsimp only
   by_cases f7:r>=n-hint
   ·rw[if_pos f7]
    exact wpS_pure ⟨⟨l,r,rfl⟩,rfl⟩
   ·rw[if_neg f7]
    refine wpS_bind (qO hk h0 gO (by lia) λmore=>?_)
    cases more with
    | true=>exact wpS_pure ⟨⟨_,_,rfl⟩,rfl⟩
    | false=>exact wpS_pure ⟨⟨_,_,rfl⟩,rfl⟩
  ·rintro c bh ⟨⟨l,r,rfl⟩,rfl⟩
   dsimp only
   refine wpS_bind (wpS_mono (wpS_forRange (I:=λ_ c bh=>(∃l r,c=(none,l,r)/\r<=n)/\st=bh) (Q:=λc bh=>(∃l r,c=(none,l,r)/\r<=n)/\st=bh) ?_ (λ_ _ z=>z) ⟨⟨_,_,rfl,by lia⟩,rfl⟩) ?_)
   ·rintro x c bh _ _ ⟨⟨l,r,rfl,hr⟩,rfl⟩
    dsimp only
    by_cases f7:l>=r
    ·rw[if_pos f7]
     exact wpS_pure ⟨⟨l,r,rfl,hr⟩,rfl⟩
    ·rw[if_neg f7]
     refine wpS_bind (qO hk h0 gO (by lia) λmore=>?_)
     cases more with
     | true=>exact wpS_pure ⟨⟨l+(r-l) / 2+1,r,rfl,hr⟩,rfl⟩
     | false=>exact wpS_pure ⟨⟨l,l+(r-l) / 2,rfl,by lia⟩,rfl⟩
   ·rintro c bh ⟨⟨l,r,rfl,hr⟩,rfl⟩
    exact wpS_pure (h _ hr)
 | false =>
  dsimp only
  rw[if_neg a0b]
  refine wpS_bind (wpS_mono (wpS_forRange (I:=λ_ c bh=>(∃l r,c=(none,l,r))/\st=bh) (Q:=λc bh=>(∃l r,c=(none,l,r))/\st=bh) ?_ (λ_ _ z=>z) ⟨⟨_,_,rfl⟩,rfl⟩) ?_)
  ·rintro x c bh _ _ ⟨⟨l,r,rfl⟩,rfl⟩
   dsimp only
   by_cases f7:r>=hint+1
   ·rw[if_pos f7]
    exact wpS_pure ⟨⟨l,r,rfl⟩,rfl⟩
   ·rw[if_neg f7]
    refine wpS_bind (qO hk h0 gO (by lia) λmore=>?_)
    cases more with
    | true=>exact wpS_pure ⟨⟨_,_,rfl⟩,rfl⟩
    | false=>exact wpS_pure ⟨⟨_,_,rfl⟩,rfl⟩
  ·rintro c bh ⟨⟨l,r,rfl⟩,rfl⟩
   dsimp only
   refine wpS_bind (wpS_mono (wpS_forRange (I:=λ_ c bh=>(∃l r,c=(none,l,r)/\r<=n)/\st=bh) (Q:=λc bh=>(∃l r,c=(none,l,r)/\r<=n)/\st=bh) ?_ (λ_ _ z=>z) ⟨⟨_,_,rfl,by lia⟩,rfl⟩) ?_)
   ·rintro x c bh _ _ ⟨⟨l,r,rfl,hr⟩,rfl⟩
    dsimp only
    by_cases f7:l>=r
    ·rw[if_pos f7]
     exact wpS_pure ⟨⟨l,r,rfl,hr⟩,rfl⟩
    ·rw[if_neg f7]
     refine wpS_bind (qO hk h0 gO (by lia) λmore=>?_)
     cases more with
     | true=>exact wpS_pure ⟨⟨l+(r-l) / 2+1,r,rfl,hr⟩,rfl⟩
     | false=>exact wpS_pure ⟨⟨l,l+(r-l) / 2,rfl,by lia⟩,rfl⟩
   ·rintro c bh ⟨⟨l,r,rfl,hr⟩,rfl⟩
    exact wpS_pure (h _ hr)
end
theorem uz{α:Type}{o A B X:List α}(h:o.Perm (A++B)):(o++X).Perm ((A++X)++B):=by
 refine(h.append_right X).trans ?_
 rw[a0C,a0C]
 exact a1z.append_left A
theorem uA{α:Type}{o A B X:List α}(h:o.Perm (A++B)):(o++X).Perm (A++(B++X)):=by
 rw[<-a0C]
 exact h.append_right X
abbrev ba(a b:Array Keyed)(o:Array Keyed)(i j:Nat):Prop:=o.toList.Perm (a.toList.take i++b.toList.take j)
section
variable{a b o:Array Keyed}{i j k:Nat}
theorem mw(a:Array Keyed)(i k:Nat):(a.extract i (i+k)).toList=(a.toList.drop i).take k:=by
 rw[Array.toList_extract,a2E,a1F]
theorem uB(a:Array Keyed)(i:Nat):(a.extract i a.size).toList=a.toList.drop i:=by
 rw[Array.toList_extract,a2E]
 exact a0v (by simp)
theorem ba.dt(h:ba a b o i j)(hi:i<a.size):ba a b (o.push a[i]) (i+1) j:=by
 unfold ba at h⊢
 rw[a1e,Z8,show a.toList[i]?=some a[i] by simp[hi]]
 exact uz h
theorem ba.cK(h:ba a b o i j)(hj:j<b.size):ba a b (o.push b[j]) i (j+1):=by
 unfold ba at h⊢
 rw[a1e,Z8,show b.toList[j]?=some b[j] by simp[hj]]
 exact uA h
theorem ba.gY(h:ba a b o i j)(k:Nat):ba a b (o++a.extract i (i+k)) (i+k) j:=by
 unfold ba at h⊢
 rw[a0y,mw,List.take_add]
 exact uz h
theorem ba.ja(h:ba a b o i j)(k:Nat):ba a b (o++b.extract j (j+k)) i (j+k):=by
 unfold ba at h⊢
 rw[a0y,mw,List.take_add]
 exact uA h
theorem ba.done(h:ba a b o i j):(o++a.extract i a.size++b.extract j b.size).toList.Perm (a.toList++b.toList):=by
 unfold ba at h
 rw[a0y,a0y,uB,uB]
 have:=uA (X:=b.toList.drop j) (uz (X:=a.toList.drop i) h)
 rwa [a0u,a0u] at this
theorem ba.last(h:ba a b o i j):(o++b.extract j b.size++a.extract i a.size).toList.Perm (a.toList++b.toList):=by
 unfold ba at h
 rw[a0y,a0y,uB,uB]
 have:=uz (X:=a.toList.drop i) (uA (X:=b.toList.drop j) h)
 rwa [a0u,a0u] at this
end
def F7:Nat->StateT SortSt Sem Unit:=sortPriv% PySem.Builtin.setMinGallop
def F8:Array Keyed->Array Keyed->StateT SortSt Sem (Array Keyed):=sortPriv% PySem.Builtin.mergeLo
abbrev cW(a₀:Array Keyed)(p:Array (Nat×Nat×Nat))(x:Array Keyed)(st:SortSt):Prop:=Ok a₀ p st/\arrOf st=x
section
variable{prog:Program}{w:World}{A:Around}{E:Value->Shared->Prop}{s:Shared}{st:SortSt}{a₀ cP:Array Keyed}{p:Array (Nat×Nat×Nat)}
theorem uC{g:Nat}{Q:Unit->SortSt->Prop}(ok:cW a₀ p cP st)(h:∀ap,cW a₀ p cP ap->Q () ap):wpS (model prog w) A E s (F7 g) Q st:=by
 unfold F7
 exact wpS_modify (h _ ⟨⟨ok.1.perm,ok.1.kind,ok.1.failed,ok.1.pend⟩,ok.2⟩)
abbrev qP(a b:Array Keyed)(m:Nat)(o:Array Keyed)(i j:Nat):Prop:=ba a b o i j/\i+1<a.size/\j<b.size/\m<=i+j
theorem Qt{a b:Nat}(h:¬ a=b):¬ (a==b)=true:=λz=>h (beq_iff_eq.mp z)
theorem P_{α:Type}{x y:Nat}{a b:StateT SortSt Sem α}{Q:α->SortSt->Prop}(h1:x=y->wpS (model prog w) A E s a Q st)(h2:¬ x=y->wpS (model prog w) A E s b Q st):wpS (model prog w) A E s (if (x==y)=true then a else b) Q st:=by
 by_cases h:x=y
 ·rw[if_pos (beq_iff_eq.mpr h)];exact h1 h
 ·rw[if_neg (Qt h)];exact h2 h
theorem mx{α:Type}{c:Prop}[Decidable c]{a b:StateT SortSt Sem α}{Q:α->SortSt->Prop}(h1:c->wpS (model prog w) A E s a Q st)(h2:¬ c->wpS (model prog w) A E s b Q st):wpS (model prog w) A E s (if c then a else b) Q st:=by
 by_cases h:c
 ·rw[if_pos h];exact h1 h
 ·rw[if_neg h];exact h2 h
theorem F'{T:Nat->Prop}{G:Prop}(aP:∀g',T g')(main:(∀g',T g')->G):G:=main aP
theorem Ga{T:Array Keyed->Nat->Nat->Prop}{G:Prop}(P:Array Keyed->Nat->Prop)(aP:∀o i k,P o i->T o i k)(main:(∀o i k,P o i->T o i k)->G):G:=main aP
theorem Qu{a b:Array Keyed}{Q:Array Keyed->SortSt->Prop}(ok:cW a₀ p cP st)(ha:IntKeys a)(hb:IntKeys b)(Qv:1<=a.size)(qQ:1<=b.size)
  (h:∀o ap,cW a₀ p cP ap->o.toList.Perm (a.toList++b.toList)->Q o ap):wpS (model prog w) A E s (F8 a b) Q st:=by
 unfold F8
 show wpS _ _ _ _ (_>>=_) _ _
 refine wpS_bind (wpS_lift (wpAny_rule ⟨rfl,?_⟩))
 refine wpS_bind (t_ (by lia) ?_)
 have o1:ba a b #[b[0]] 0 1:=by
  have:ba a b #[] 0 0:=by simp[ba]
  exact this.cK (by lia)
 refine P_ (λh1=>wpS_pure (h _ _ ok o1.done)) (λh1=>?_)
 refine P_ (λh2=>wpS_pure (h _ _ ok o1.last)) (λh2=>?_)
 refine wpS_bind (wpS_get ?_)
 refine wpS_bind (wpS_mono (wpS_forRange (I:=λm c ap=>∃o i j g,c=(none,o,i,j,g)/\qP a b m o i j/\cW a₀ p cP ap)
  (Q:=λc ap=>∃r bv,c=(some r,bv)/\r.toList.Perm (a.toList++b.toList)/\cW a₀ p cP ap) ?step ?fin ⟨_,_,_,_,rfl,⟨o1,by lia,by lia,by lia⟩,ok⟩) ?post)
 case fin =>
  rintro c ap ⟨o,i,j,g,rfl,⟨_,h3,h4,h5⟩,_⟩
  lia
 case post =>
  rintro c ap ⟨r,bv,rfl,hp,aH⟩
  exact wpS_pure (h _ _ aH hp)
 case step =>
  rintro m c ap _ hm ⟨o,i,j,g,rfl,on,aH⟩
  refine wpS_bind (wpS_mono (wpS_forRange (I:=λy c bh=>∃o i j ac bc,c=(none,o,i,j,ac,bc)/\qP a b (m+y) o i j/\cW a₀ p cP bh)
   (Q:=λc bh=>(∃o i j ac bc,c=(none,o,i,j,ac,bc)/\qP a b (m+1) o i j/\cW a₀ p cP bh)\/∃r bv,c=(some r,bv)/\r.toList.Perm (a.toList++b.toList)/\cW a₀ p cP bh) ?step1 ?fin1 ⟨_,_,_,_,_,rfl,on,aH⟩) ?post1)
  case fin1 =>
   rintro c bh ⟨o,i,j,ac,bc,rfl,⟨q1,q2,q3,q4⟩,aO⟩
   exact .inl ⟨_,_,_,_,_,rfl,⟨q1,q2,q3,by lia⟩,aO⟩
  case step1 =>
   rintro y c bh _ hy ⟨o,i,j,ac,bc,rfl,⟨q1,q2,q3,q4⟩,aO⟩
   dsimp only
   refine wpS_bind (t_ (by lia) (wpS_bind (t_ (by lia) (wpS_bind (qN aO.1.kind (fP hb _) (fP ha _) λr=>?_)))))
   cases r with
   | true =>
    dsimp only
    rw[if_pos rfl]
    refine wpS_bind (t_ (by lia) ?_)
    refine P_ (λhz=>wpS_pure (.inr ⟨_,_,rfl,(q1.cK (by lia)).done,aO⟩)) (λhz=>?_)
    split
    ·exact wpS_pure (.inl ⟨_,_,_,_,_,rfl,⟨q1.cK (by lia),by lia,by lia,by lia⟩,aO⟩)
    ·exact wpS_pure ⟨_,_,_,_,_,rfl,⟨q1.cK (by lia),by lia,by lia,by lia⟩,aO⟩
   | false =>
    dsimp only
    rw[if_neg a0b]
    refine wpS_bind (t_ (by lia) ?_)
    refine P_ (λhz=>wpS_pure (.inr ⟨_,_,rfl,(q1.dt (by lia)).last,aO⟩)) (λhz=>?_)
    split
    ·exact wpS_pure (.inl ⟨_,_,_,_,_,rfl,⟨q1.dt (by lia),by lia,by lia,by lia⟩,aO⟩)
    ·exact wpS_pure ⟨_,_,_,_,_,rfl,⟨q1.dt (by lia),by lia,by lia,by lia⟩,aO⟩
  case post1 =>
   rintro c bh (⟨o,i,j,ac,bc,rfl,on2,aO⟩ | ⟨r,bv,rfl,hp,aO⟩)
   ·dsimp only
    refine wpS_bind (wpS_lift (wpAny_rule ⟨rfl,?_⟩))
    refine wpS_bind (wpS_mono (wpS_forRange (I:=λ_ c bJ=>∃o i j g ac bc,c=(none,o,i,j,g,ac,bc)/\qP a b (m+1) o i j/\cW a₀ p cP bJ)
     (Q:=λc bJ=>(∃o i j g ac bc,c=(none,o,i,j,g,ac,bc)/\qP a b (m+1) o i j/\cW a₀ p cP bJ)\/∃r bv,c=(some r,bv)/\r.toList.Perm (a.toList++b.toList)/\cW a₀ p cP bJ) ?step2 (λ_ _ z=>.inl z) ⟨_,_,_,_,_,_,rfl,on2,aO⟩) ?post2)
    case post2 =>
     rintro c bJ (⟨o,i,j,g,ac,bc,rfl,on3,bj⟩ | ⟨r,⟨o,i,j,g,ac,bc⟩,rfl,hp,bj⟩)
     ·dsimp only
      exact wpS_bind (uC bj λmq bt=>wpS_pure ⟨_,_,_,_,rfl,on3,bt⟩)
     ·exact wpS_pure ⟨_,_,rfl,hp,bj⟩
    case step2 =>
     rintro y c bJ _ _ ⟨o,i,j,g,ac,bc,rfl,⟨q1,q2,q3,q4⟩,bj⟩
     dsimp only
     refine F' (T:=?T1) ?key1 ?main1
     case main1 =>
      intro aP
      refine mx (λhg=>?_) (λhg=>?_)
      ·generalize g-1=g'
       exact aP g'
      ·with_reducible exact aP g
     case key1 =>
      intro g'
      refine wpS_bind (uC bj λmq bt=>?_)
      refine wpS_bind (t_ (by lia) ?_)
      refine wpS_bind (mt bt.1.kind ha (fP hb _) (by lia) (by lia) λk hk=>?_)
      refine mx (λuD=>?_) (λuD=>?_)
      ·skip
       refine P_ (λhz=>wpS_pure (.inr ⟨_,_,rfl,(q1.gY k).last,bt⟩)) (λhz=>?_)
       refine P_ (λmy=>wpS_pure (.inr ⟨_,_,rfl,(q1.gY k).done,bt⟩)) (λmy=>?_)
       refine wpS_bind (t_ (by lia) ?_)
       refine P_ (λhy=>wpS_pure (.inr ⟨_,_,rfl,(ba.cK (q1.gY k) (by lia)).done,bt⟩)) (λhy=>?_)
       refine wpS_bind (t_ (by lia) ?_)
       refine wpS_bind (mt bt.1.kind hb (fP ha _) (by lia) (by lia) λk1 zd=>?_)
       refine mx (λjI=>?_) (λjI=>?_)
       ·skip
        refine P_ (λoE=>wpS_pure (.inr ⟨_,_,rfl,((ba.cK (q1.gY k) (by lia)).ja k1).done,bt⟩)) (λoE=>?_)
        refine wpS_bind (t_ (by lia) ?_)
        split
        ·exact wpS_pure (.inr ⟨_,_,rfl,(ba.dt ((ba.cK (q1.gY k) (by lia)).ja k1) (by lia)).last,bt⟩)
        ·split
         ·exact wpS_pure (.inl ⟨_,_,_,_,_,_,rfl,⟨ba.dt ((ba.cK (q1.gY k) (by lia)).ja k1) (by lia),by lia,by lia,by lia⟩,bt⟩)
         ·exact wpS_pure ⟨_,_,_,_,_,_,rfl,⟨ba.dt ((ba.cK (q1.gY k) (by lia)).ja k1) (by lia),by lia,by lia,by lia⟩,bt⟩
       ·skip
        refine wpS_bind (t_ (by lia) ?_)
        split
        ·exact wpS_pure (.inr ⟨_,_,rfl,(ba.dt (ba.cK (q1.gY k) (by lia)) (by lia)).last,bt⟩)
        ·split
         ·exact wpS_pure (.inl ⟨_,_,_,_,_,_,rfl,⟨ba.dt (ba.cK (q1.gY k) (by lia)) (by lia),by lia,by lia,by lia⟩,bt⟩)
         ·exact wpS_pure ⟨_,_,_,_,_,_,rfl,⟨ba.dt (ba.cK (q1.gY k) (by lia)) (by lia),by lia,by lia,by lia⟩,bt⟩
      ·skip
       refine wpS_bind (t_ (by lia) ?_)
       refine P_ (λhy=>wpS_pure (.inr ⟨_,_,rfl,(ba.cK q1 (by lia)).done,bt⟩)) (λhy=>?_)
       refine wpS_bind (t_ (by lia) ?_)
       refine wpS_bind (mt bt.1.kind hb (fP ha _) (by lia) (by lia) λk1 zd=>?_)
       refine mx (λjI=>?_) (λjI=>?_)
       ·skip
        refine P_ (λoE=>wpS_pure (.inr ⟨_,_,rfl,((ba.cK q1 (by lia)).ja k1).done,bt⟩)) (λoE=>?_)
        refine wpS_bind (t_ (by lia) ?_)
        split
        ·exact wpS_pure (.inr ⟨_,_,rfl,(ba.dt ((ba.cK q1 (by lia)).ja k1) (by lia)).last,bt⟩)
        ·split
         ·exact wpS_pure (.inl ⟨_,_,_,_,_,_,rfl,⟨ba.dt ((ba.cK q1 (by lia)).ja k1) (by lia),by lia,by lia,by lia⟩,bt⟩)
         ·exact wpS_pure ⟨_,_,_,_,_,_,rfl,⟨ba.dt ((ba.cK q1 (by lia)).ja k1) (by lia),by lia,by lia,by lia⟩,bt⟩
       ·skip
        refine wpS_bind (t_ (by lia) ?_)
        split
        ·exact wpS_pure (.inr ⟨_,_,rfl,(ba.dt (ba.cK q1 (by lia)) (by lia)).last,bt⟩)
        ·split
         ·exact wpS_pure (.inl ⟨_,_,_,_,_,_,rfl,⟨ba.dt (ba.cK q1 (by lia)) (by lia),by lia,by lia,by lia⟩,bt⟩)
         ·exact wpS_pure ⟨_,_,_,_,_,_,rfl,⟨ba.dt (ba.cK q1 (by lia)) (by lia),by lia,by lia,by lia⟩,bt⟩
   ·obtain⟨o,i,j,ac,bc⟩:=bv
    exact wpS_pure ⟨_,_,rfl,hp,aO⟩
end
def Gb:Array Keyed->Array Keyed->StateT SortSt Sem (Array Keyed):=sortPriv% PySem.Builtin.mergeHi
abbrev Behind(a b:Array Keyed)(o:Array Keyed)(i j:Nat):Prop:=o.toList.Perm (a.toList.drop i++b.toList.drop j)
section
variable{a b o:Array Keyed}{i j k:Nat}
theorem Gc{α:Type}{o A B X:List α}(h:o.Perm (A++B)):(o++X).Perm ((X++A)++B):=by
 refine a1z.trans ?_
 rw[a0C]
 exact h.append_left X
theorem Gd{α:Type}{o A B X:List α}(h:o.Perm (A++B)):(o++X).Perm (A++(X++B)):=by
 refine(h.append_right X).trans ?_
 rw[a0C]
 exact a1z.append_left A
theorem Ge(a:Array Keyed){k i:Nat}(h:k<=i):a.toList.drop k=(a.extract k i).toList++a.toList.drop i:=by
 obtain⟨d,rfl⟩:∃d,i=k+d:=⟨i-k,by lia⟩
 rw[mw,<-a2e,a0u]
theorem uE(a:Array Keyed)(i:Nat):(a.extract 0 i).toList=a.toList.take i:=by
 have:=mw a 0 i
 rwa [a2w] at this
theorem Gf(a:Array Keyed)(h0:1<=i)(hi:i<=a.size):a.toList.drop (i-1)=a[i-1]::a.toList.drop i:=by
 rw[List.drop_eq_getElem_cons (by simp;omega),show i-1+1=i by lia]
 simp
theorem Behind.dt(h:Behind a b o i j)(h0:1<=i)(hi:i<=a.size):Behind a b (o.push a[i-1]) (i-1) j:=by
 unfold Behind at h⊢
 rw[a1e,Gf a h0 hi]
 exact Gc (X:=[a[i-1]]) h
theorem Behind.cK(h:Behind a b o i j)(h0:1<=j)(hj:j<=b.size):Behind a b (o.push b[j-1]) i (j-1):=by
 unfold Behind at h⊢
 rw[a1e,Gf b h0 hj]
 exact Gd (X:=[b[j-1]]) h
theorem Behind.gY(h:Behind a b o i j)(hk:k<=i):Behind a b (o++(a.extract k i).reverse) k j:=by
 unfold Behind at h⊢
 rw[a0y,a1N,Ge a hk]
 exact((a2g _).append_left _).trans (Gc h)
theorem Behind.ja(h:Behind a b o i j)(hk:k<=j):Behind a b (o++(b.extract k j).reverse) i k:=by
 unfold Behind at h⊢
 rw[a0y,a1N,Ge b hk]
 exact((a2g _).append_left _).trans (Gd h)
theorem Gg{α:Type}(A B:List α){o:List α}(h:o.Perm (A.drop i++B.drop j)):(A.take i++B.take j++o).Perm (A++B):=by
 refine(h.append_left _).trans ?_
 have:(A.take i++B.take j++(A.drop i++B.drop j)).Perm ((A.take i++A.drop i)++(B.take j++B.drop j)):=by
  rw[a0C,a0C]
  refine List.Perm.append_left _ ?_
  rw[<-a0C,<-a0C]
  exact a1z.append_right _
 rwa [a0u,a0u] at this
theorem Behind.done(h:Behind a b o i j):(a.extract 0 i++b.extract 0 j++o.reverse).toList.Perm (a.toList++b.toList):=by
 unfold Behind at h
 rw[a0y,a0y,uE,uE,a1N]
 exact Gg _ _ ((a2g _).trans h)
theorem Behind.first(h:Behind a b o i j):(b.extract 0 j++a.extract 0 i++o.reverse).toList.Perm (a.toList++b.toList):=by
 unfold Behind at h
 rw[a0y,a0y,uE,uE,a1N]
 exact(a1z.append_right _).trans (Gg _ _ ((a2g _).trans h))
end
section
variable{prog:Program}{w:World}{A:Around}{E:Value->Shared->Prop}{s:Shared}{st:SortSt}{a₀ cP:Array Keyed}{p:Array (Nat×Nat×Nat)}
abbrev oF(a b:Array Keyed)(m:Nat)(o:Array Keyed)(i j:Nat):Prop:=Behind a b o i j/\(1<=i/\i<=a.size)/\(2<=j/\j<=b.size)/\m+i+j<=a.size+b.size
theorem Qw{a b:Array Keyed}{Q:Array Keyed->SortSt->Prop}(ok:cW a₀ p cP st)(ha:IntKeys a)(hb:IntKeys b)(Qv:1<=a.size)(qQ:1<=b.size)
  (h:∀o ap,cW a₀ p cP ap->o.toList.Perm (a.toList++b.toList)->Q o ap):wpS (model prog w) A E s (Gb a b) Q st:=by
 unfold Gb
 show wpS _ _ _ _ (_>>=_) _ _
 refine wpS_bind (wpS_lift (wpAny_rule ⟨rfl,?_⟩))
 refine wpS_bind (t_ (by lia) ?_)
 have o1:Behind a b #[a[a.size-1]] (a.size-1) b.size:=by
  have:Behind a b #[] a.size b.size:=by simp[Behind]
  exact this.dt (by lia) (by lia)
 refine P_ (λh1=>wpS_pure (h _ _ ok o1.done)) (λh1=>?_)
 refine P_ (λh2=>wpS_pure (h _ _ ok o1.first)) (λh2=>?_)
 refine wpS_bind (wpS_get ?_)
 refine wpS_bind (wpS_mono (wpS_forRange (I:=λm c ap=>∃i j o g,c=(none,i,j,o,g)/\oF a b m o i j/\cW a₀ p cP ap)
  (Q:=λc ap=>∃r bv,c=(some r,bv)/\r.toList.Perm (a.toList++b.toList)/\cW a₀ p cP ap) ?step ?fin ⟨_,_,_,_,rfl,⟨o1,by lia,by lia,by lia⟩,ok⟩) ?post)
 case fin =>
  rintro c ap ⟨i,j,o,g,rfl,⟨_,h3,h4,h5⟩,_⟩
  omega
 case post =>
  rintro c ap ⟨r,bv,rfl,hp,aH⟩
  exact wpS_pure (h _ _ aH hp)
 case step =>
  rintro m c ap _ hm ⟨i,j,o,g,rfl,on,aH⟩
  refine wpS_bind (wpS_mono (wpS_forRange (I:=λy c bh=>∃i j o ac bc,c=(none,i,j,o,ac,bc)/\oF a b (m+y) o i j/\cW a₀ p cP bh)
   (Q:=λc bh=>(∃i j o ac bc,c=(none,i,j,o,ac,bc)/\oF a b (m+1) o i j/\cW a₀ p cP bh)\/∃r bv,c=(some r,bv)/\r.toList.Perm (a.toList++b.toList)/\cW a₀ p cP bh) ?step1 ?fin1 ⟨_,_,_,_,_,rfl,on,aH⟩) ?post1)
  case fin1 =>
   rintro c bh ⟨i,j,o,ac,bc,rfl,⟨q1,q2,q3,q4⟩,aO⟩
   exact .inl ⟨_,_,_,_,_,rfl,⟨q1,q2,q3,by lia⟩,aO⟩
  case step1 =>
   rintro y c bh _ hy ⟨i,j,o,ac,bc,rfl,⟨q1,q2,q3,q4⟩,aO⟩
   dsimp only
   refine wpS_bind (t_ (by lia) (wpS_bind (t_ (by lia) (wpS_bind (qN aO.1.kind (fP hb _) (fP ha _) λr=>?_)))))
   cases r with
   | true =>
    dsimp only
    rw[if_pos rfl]
    refine wpS_bind (t_ (by lia) ?_)
    refine P_ (λhz=>wpS_pure (.inr ⟨_,_,rfl,(q1.dt (by lia) (by lia)).done,aO⟩)) (λhz=>?_)
    split
    ·exact wpS_pure (.inl ⟨_,_,_,_,_,rfl,⟨q1.dt (by lia) (by lia),by lia,by lia,by lia⟩,aO⟩)
    ·exact wpS_pure ⟨_,_,_,_,_,rfl,⟨q1.dt (by lia) (by lia),by lia,by lia,by lia⟩,aO⟩
   | false =>
    dsimp only
    rw[if_neg a0b]
    refine wpS_bind (t_ (by lia) ?_)
    refine P_ (λhz=>wpS_pure (.inr ⟨_,_,rfl,(q1.cK (by lia) (by lia)).first,aO⟩)) (λhz=>?_)
    split
    ·exact wpS_pure (.inl ⟨_,_,_,_,_,rfl,⟨q1.cK (by lia) (by lia),by lia,by lia,by lia⟩,aO⟩)
    ·exact wpS_pure ⟨_,_,_,_,_,rfl,⟨q1.cK (by lia) (by lia),by lia,by lia,by lia⟩,aO⟩
  case post1 =>
   rintro c bh (⟨i,j,o,ac,bc,rfl,on2,aO⟩ | ⟨r,bv,rfl,hp,aO⟩)
   ·dsimp only
    refine wpS_bind (wpS_lift (wpAny_rule ⟨rfl,?_⟩))
    refine wpS_bind (wpS_mono (wpS_forRange (I:=λ_ c bJ=>∃i j o g ac bc,c=(none,i,j,o,g,ac,bc)/\oF a b (m+1) o i j/\cW a₀ p cP bJ)
     (Q:=λc bJ=>(∃i j o g ac bc,c=(none,i,j,o,g,ac,bc)/\oF a b (m+1) o i j/\cW a₀ p cP bJ)\/∃r bv,c=(some r,bv)/\r.toList.Perm (a.toList++b.toList)/\cW a₀ p cP bJ) ?step2 (λ_ _ z=>.inl z) ⟨_,_,_,_,_,_,rfl,on2,aO⟩) ?post2)
    case post2 =>
     rintro c bJ (⟨i,j,o,g,ac,bc,rfl,on3,bj⟩ | ⟨r,⟨i,j,o,g,ac,bc⟩,rfl,hp,bj⟩)
     ·dsimp only
      exact wpS_bind (uC bj λmq bt=>wpS_pure ⟨_,_,_,_,rfl,on3,bt⟩)
     ·exact wpS_pure ⟨_,_,rfl,hp,bj⟩
    case step2 =>
     rintro y c bJ _ _ ⟨i,j,o,g,ac,bc,rfl,⟨q1,q2,q3,q4⟩,bj⟩
     dsimp only
     refine F' (T:=?T1) ?key1 ?main1
     case main1 =>
      intro aP
      refine mx (λhg=>?_) (λhg=>?_)
      ·generalize g-1=g'
       exact aP g'
      ·with_reducible exact aP g
     case key1 =>
      intro g'
      refine wpS_bind (uC bj λmq bt=>?_)
      refine wpS_bind (t_ (by lia) ?_)
      refine wpS_bind (mt bt.1.kind ha (fP hb _) (by lia) (by lia) λk hk=>?_)
      refine Ga (T:=?T2) (λo2 i2=>Behind a b o2 i2 j/\1<=i2/\i2<=a.size/\m+1+i2+j<=a.size+b.size) ?key2 ?main2
      case main2 =>
       intro aP
       refine mx (λuD=>?_) (λuD=>?_)
       ·skip
        have x1:Behind a b (o++(a.extract k i).reverse) k j:=Behind.gY (k:=k) q1 (by lia)
        refine P_ (λhz=>wpS_pure (.inr ⟨_,_,rfl,x1.done,bt⟩)) (λhz=>?_)
        have pk:1<=k/\k<=a.size/\m+1+k+j<=a.size+b.size:=by lia
        clear hz uD
        generalize o++(a.extract k i).reverse=o2 at x1⊢
        generalize i-k=ka
        generalize k=i2 at x1 pk⊢
        exact aP o2 i2 ka ⟨x1,pk⟩
       ·with_reducible exact aP o i (i-k) ⟨q1,q2.1,q2.2,q4⟩
      case key2 =>
       rintro o2 i2 ka ⟨r1,r2,Qx,Qy⟩
       clear q1 q2 q4 hk
       refine wpS_bind (t_ (by lia) ?_)
       have y1:=r1.cK (by lia) q3.2
       refine P_ (λhy=>wpS_pure (.inr ⟨_,_,rfl,y1.first,bt⟩)) (λhy=>?_)
       have Gh:2<=j-1/\j-1<=b.size/\m+1+i2+(j-1)<=a.size+b.size:=by lia
       generalize o2.push b[j-1]=o3 at y1⊢
       clear r1 hy Qy q3
       generalize j-1=j2 at y1 Gh⊢
       refine wpS_bind (t_ (by lia) ?_)
       refine wpS_bind (mt bt.1.kind hb (fP ha _) (by lia) (by lia) λk1 zd=>?_)
       refine Ga (T:=?T3) (λo5 j5=>Behind a b o5 i2 j5/\2<=j5/\j5<=b.size/\m+1+i2+j5<=a.size+b.size) ?key3 ?main3
       case main3 =>
        intro aP
        refine mx (λjI=>?_) (λjI=>?_)
        ·skip
         have z1:=Behind.ja (k:=k1) y1 (by lia)
         refine P_ (λoE=>wpS_pure (.inr ⟨_,_,rfl,z1.first,bt⟩)) (λoE=>?_)
         refine P_ (λqR=>wpS_pure (.inr ⟨_,_,rfl,z1.done,bt⟩)) (λqR=>?_)
         have pt:2<=k1/\k1<=b.size/\m+1+i2+k1<=a.size+b.size:=by lia
         clear oE qR jI
         generalize o3++(b.extract k1 j2).reverse=o5 at z1⊢
         generalize j2-k1=kb
         generalize k1=j5 at z1 pt⊢
         exact aP o5 j5 kb ⟨z1,pt⟩
        ·with_reducible exact aP o3 j2 (j2-k1) ⟨y1,Gh⟩
       case key3 =>
        rintro o5 j5 kb ⟨t1,t2,t3,t4⟩
        refine wpS_bind (t_ (by lia) ?_)
        have u1:=t1.dt r2 Qx
        refine P_ (λhz=>wpS_pure (.inr ⟨_,_,rfl,u1.done,bt⟩)) (λhz=>?_)
        have Gi:oF a b (m+1) (o5.push a[i2-1]) (i2-1) j5:=⟨u1,⟨by lia,by lia⟩,⟨t2,t3⟩,by lia⟩
        split
        ·exact wpS_pure (.inl ⟨_,_,_,_,_,_,rfl,Gi,bt⟩)
        ·exact wpS_pure ⟨_,_,_,_,_,_,rfl,Gi,bt⟩
   ·obtain⟨i,j,o,ac,bc⟩:=bv
    exact wpS_pure ⟨_,_,rfl,hp,aO⟩
end
def cb:List (Nat×Nat×Nat)->Nat->Nat->Prop
 | [],s,e=>s=e
 | q::r,s,e=>q.1=s/\1<=q.2.1/\cb r (s+q.2.1) e
theorem cb.le:∀ {l:List (Nat×Nat×Nat)} {s e:Nat},cb l s e->s<=e
 | [],_,_,h=>by unfold cb at h;lia
 | q::r,s,e,h=>by
  obtain⟨h1,h2,h3⟩:=h
  have:=h3.le
  lia
theorem cb.snoc:∀ {l:List (Nat×Nat×Nat)} {s e n g:Nat},cb l s e->1<=n->cb (l++[(e,n,g)]) s (e+n)
 | [],_,_,_,_,h,hn=>by unfold cb at h;subst h;exact⟨rfl,hn,rfl⟩
 | q::r,s,e,n,g,h,hn=>⟨h.1,h.2.1,h.2.2.snoc hn⟩
theorem cb.two:∀ {l:List (Nat×Nat×Nat)} {s e i:Nat},cb l s e->i+1<l.length->∃a n g m g',l[i]?=some (a,n,g)/\l[i+1]?=some (a+n,m,g')/\1<=n/\1<=m/\a+n+m<=e/\
  cb ((l.set i (a,n+m,g)).eraseIdx (i+1)) s e
 | [],_,_,_,_,h=>by simp at h
 | [q],_,_,i,_,h=>by simp at h
 | q::q'::r,s,e,0,h,_=>by
  obtain⟨h1,h2,h3,h4,h5⟩:=h
  have:=h5.le
  obtain⟨a,n,g⟩:=q
  obtain⟨b,m,g'⟩:=q'
  simp only at h1 h2 h3 h4 h5 this
  subst h1 h3
  refine⟨_,_,_,_,_,rfl,rfl,h2,h4,by lia,rfl,by simp only;lia,?_⟩
  simp only
  rw[<-a1E]
  exact h5
 | q::q'::r,s,e,i+1,h,hi=>by
  obtain⟨a,n,g,m,g',e1,e2,h1,h2,h3,h4⟩:=h.2.2.two (i:=i) (by simp at hi⊢;lia)
  exact⟨a,n,g,m,g',by simpa using e1,by simpa using e2,h1,h2,h3,by simpa using ⟨h.1,h.2.1,h4⟩⟩
theorem cb.mod:∀ {l:List (Nat×Nat×Nat)} {s e i g:Nat},cb l s e->cb (l.modify i λq=>(q.1,q.2.1,g)) s e
 | [],_,_,i,_,h=>by cases i <;> simpa using h
 | q::r,s,e,0,g,h=>by simpa [cb] using h
 | q::r,s,e,i+1,g,h=>by
  have:=h.2.2.mod (i:=i) (g:=g)
  simpa using ⟨h.1,h.2.1,this⟩
theorem Gj:∀(l:List Keyed) (x:Array Keyed) (d k:Nat),d+k+l.length<=x.size->
  ((l.zipIdx k).foldl (λ(y:Array Keyed) (q:Keyed×Nat)=>y.setIfInBounds (d+q.2) q.1) x).toList=x.toList.take (d+k)++l++x.toList.drop (d+k+l.length)
 | [],x,d,k,h=>by simp
 | q::l,x,d,k,h=>by
  simp only[a0k] at h
  rw[a2K,a0d]
  have z:x.size=(x.setIfInBounds (d+k) q).size:=by simp
  have ih:=Gj l (x.setIfInBounds (d+k) q) d (k+1) (by rw[<-z];lia)
  rw[ih,Array.toList_setIfInBounds,List.drop_set_of_lt (by lia),show d+(k+1)=d+k+1 by lia,Z8,a1p (by simp;lia)]
  rw[List.take_set,List.set_eq_of_length_le (by rw[a0g];lia)]
  simp only[a0k,Option.toList_some,a0C,a2L,List.nil_append]
  congr 4
  lia
theorem Qz{x o:Array Keyed}{i k:Nat}(hk:i+k<=x.size)(h:o.toList.Perm ((x.toList.drop i).take k)) :
  (o.toList.zipIdx.foldl (λ(y:Array Keyed) (q:Keyed×Nat)=>y.setIfInBounds (i+q.2) q.1) x).Perm x:=by
 have hl:o.toList.length=k:=by rw[h.length_eq];simp;lia
 rw[a1M,Gj _ _ _ _ (by lia)]
 have e:x.toList=x.toList.take i++((x.toList.drop i).take k++x.toList.drop (i+k)):=by rw[<-a2e,a0u,a0u]
 conv=>rhs;rw[e]
 rw[a1r,hl,a0C]
 exact(h.append_right _).append_left _
section
variable{prog:Program}{w:World}{A:Around}{E:Value->Shared->Prop}{s:Shared}{st:SortSt}{a₀ cP:Array Keyed}{p:Array (Nat×Nat×Nat)}
theorem QA{σ:Type}{M:Model}{x:σ}{Q:PUnit->σ->Prop}{st:σ}(h:Q ⟨⟩ x):wpS M A E s (set x:StateT σ Sem PUnit) Q st:=by
 unfold wpS
 rw[StateT.run_set]
 exact wpAny_pure ⟨rfl,h⟩
theorem Gk{x:Array Keyed}(h:IntKeys x)(i k:Nat):IntKeys (x.extract i (i+k)):=λq hq=>by
 rw[mw] at hq
 exact h q (a1A (a1a hq))
theorem ze{i e:Nat}{Q:Bool->SortSt->Prop}(h0:IntKeys a₀)(ok:Ok a₀ p st)(hc:cb p.toList 0 e)(he:e<=a₀.size)(hi:i+1<p.size)
  (h:∀p' ap,Ok a₀ p' ap->cb p'.toList 0 e->p'.size+1=p.size->Q true ap):wpS (model prog w) A E s (mergeAt' i) Q st:=by
 obtain⟨sa,na,g,nb,g',e1,e2,h1,h2,h3,h4⟩:=hc.two (i:=i) (by simpa using hi)
 have hsz:=ok.size
 have oG:=ok.keys h0
 have p1:(pendingOf st)[i]?=some (sa,na,g):=by rw[ok.pend];simpa using e1
 have p2:(pendingOf st)[i+1]?=some (sa+na,nb,g'):=by rw[ok.pend];simpa using e2
 unfold mergeAt'
 show wpS _ _ _ _ (_>>=_) _ _
 refine wpS_bind (wpS_get ?_)
 rw[p1,p2]
 dsimp only
 refine wpS_bind (QA ?_)
 have dM:Ok a₀ (((pendingOf st).setIfInBounds i (sa,na+nb,g)).eraseIdxIfInBounds (i+1)) (SortSt.mk' (kindOf st) (arrOf st) (((pendingOf st).setIfInBounds i (sa,na+nb,g)).eraseIdxIfInBounds (i+1)) (gallopOf st) (failedOf st)) :=
  ⟨ok.perm,ok.kind,ok.failed,rfl⟩
 have z1:(((pendingOf st).setIfInBounds i (sa,na+nb,g)).eraseIdxIfInBounds (i+1)).toList=(p.toList.set i (sa,na+nb,g)).eraseIdx (i+1):=by
  rw[ok.pend,Array.eraseIdxIfInBounds,dif_pos (by simpa using hi)]
  simp
 have c1:cb (((pendingOf st).setIfInBounds i (sa,na+nb,g)).eraseIdxIfInBounds (i+1)).toList 0 e:=by rw[z1];exact h4
 have n1:(((pendingOf st).setIfInBounds i (sa,na+nb,g)).eraseIdxIfInBounds (i+1)).size+1=p.size:=by
  have:=congrArg List.length z1
  rw[List.length_eraseIdx_of_lt (by simpa using hi),a2q] at this
  simp only[a1S] at this
  lia
 refine wpS_bind (t_ (by show _<(arrOf st).size;lia) ?_)
 refine wpS_bind (mt dM.kind oG (fP oG _) (by show _<=(arrOf st).size;lia) (by lia) λk hk=>?_)
 dsimp only
 by_cases hz:na-k=0
 ·rw[if_pos (by simpa using hz)]
  exact wpS_pure (h _ _ dM c1 n1)
 rw[if_neg (by simpa using hz)]
 refine wpS_bind (t_ (by show _<(arrOf st).size;lia) ?_)
 refine wpS_bind (mt dM.kind oG (fP oG _) (by show _<=(arrOf st).size;lia) (by lia) λm hm=>?_)
 dsimp only
 by_cases my:m=0
 ·rw[if_pos (by simpa using my)]
  exact wpS_pure (h _ _ dM c1 n1)
 rw[if_neg (by simpa using my)]
 have ex:(arrOf st).extract (sa+k) (sa+na)=(arrOf st).extract (sa+k) (sa+k+(na-k)):=by congr 1;lia
 have kx:IntKeys ((arrOf st).extract (sa+k) (sa+na)):=by rw[ex];exact Gk oG _ _
 have ky:IntKeys ((arrOf st).extract (sa+na) (sa+na+m)):=Gk oG _ _
 have xy:((arrOf st).extract (sa+k) (sa+na)).toList++((arrOf st).extract (sa+na) (sa+na+m)).toList=((arrOf st).toList.drop (sa+k)).take (na-k+m):=by
  rw[ex,mw,mw,List.take_add,a2e]
  congr 3
  lia
 have fin:∀(o:Array Keyed) (ap:SortSt),cW a₀ (((pendingOf st).setIfInBounds i (sa,na+nb,g)).eraseIdxIfInBounds (i+1)) (arrOf st) ap->o.toList.Perm (((arrOf st).extract (sa+k) (sa+na)).toList++((arrOf st).extract (sa+na) (sa+na+m)).toList)->
   Ok a₀ (((pendingOf st).setIfInBounds i (sa,na+nb,g)).eraseIdxIfInBounds (i+1)) (setArr ap (o.toList.zipIdx.foldl (λ(y:Array Keyed) (q:Keyed×Nat)=>y.setIfInBounds (sa+k+q.2) q.1) (arrOf ap))):=λo ap aO hp=>by
  refine aO.1.set ?_
  rw[xy] at hp
  rw[aO.2]
  exact Qz (by lia) hp
 have sx:1<=((arrOf st).extract (sa+k) (sa+na)).size:=by rw[Array.size_extract];lia
 have sy:1<=((arrOf st).extract (sa+na) (sa+na+m)).size:=by rw[Array.size_extract];lia
 by_cases jb:na-k<=m
 ·rw[if_pos jb]
  refine wpS_bind (Qu ⟨dM,rfl⟩ kx ky sx sy λo ap aO hp=>?_)
  refine wpS_bind (wpS_modify (wpS_bind (wpS_get (wpS_pure ?_))))
  have bj:=fin o ap aO hp
  have e3:=bj.failed
  have:=h _ _ bj c1 n1
  rw[show(failedOf ap).isNone=true by rw[aO.1.failed];rfl]
  exact this
 ·rw[if_neg jb]
  refine wpS_bind (Qw ⟨dM,rfl⟩ kx ky sx sy λo ap aO hp=>?_)
  refine wpS_bind (wpS_modify (wpS_bind (wpS_get (wpS_pure ?_))))
  have bj:=fin o ap aO hp
  have:=h _ _ bj c1 n1
  rw[show(failedOf ap).isNone=true by rw[aO.1.failed];rfl]
  exact this
theorem Ok.Gm(h:Ok a₀ p st)(p':Array (Nat×Nat×Nat)):Ok a₀ p' (setPending st p'):=⟨h.perm,h.kind,h.failed,rfl⟩
theorem QB{Q:Unit->SortSt->Prop}(h0:IntKeys a₀)(ok:Ok a₀ #[] st)(h:∀ap,(arrOf ap).Perm a₀->failedOf ap=none->Q () ap):wpS (model prog w) A E s sortRuns' Q st:=by
 rw[sortRuns'_eq]
 refine wpS_bind (wpS_get ?_)
 dsimp only
 simp only[ok.size]
 refine wpS_bind (wpS_mono (wpS_forRange (I:=λ_ c ap=>∃lo p,c=(none,lo)/\Ok a₀ p ap/\cb p.toList 0 lo/\lo<=a₀.size) (Q:=λc ap=>∃lo p,c=(none,lo)/\Ok a₀ p ap/\cb p.toList 0 lo/\lo<=a₀.size) ?step (λ_ _ z=>z) ⟨0,#[],rfl,ok,rfl,by omega⟩) ?post)
 case step =>
  rintro x c ap _ hx ⟨lo,p,rfl,aH,hc,jA⟩
  dsimp only
  by_cases hz:lo>=a₀.size
  ·rw[if_pos hz]
   exact wpS_pure ⟨lo,p,rfl,aH,hc,jA⟩
  rw[if_neg hz]
  refine wpS_bind (Qr h0 (by omega) (by omega) aH λm qS aO gS dB=>?_)
  dsimp only
  by_cases Gn:m<minRun' a₀.size a₀.size 0
  ·rw[if_pos Gn]
   refine wpS_bind (wpS_lift (wpAny_rule ⟨rfl,?_⟩))
   refine wpS_bind (Qs h0 (by omega) aO λqS bj=>?_)
   rw[if_neg (by decide)]
   refine wpS_bind (wpS_get ?_)
   cases QC:(pendingOf qS).back? with
   | none =>
    dsimp only
    refine wpS_bind (wpS_modify (wpS_pure ⟨_,_,rfl,Ok.Gm bj _,?_,by omega⟩))
    show cb ((pendingOf qS).push _).toList 0 _
    rw[a1e,Ok.pend bj]
    exact hc.snoc (by omega)
   | some q =>
    obtain⟨s1,n1,g1⟩:=q
    dsimp only
    refine wpS_bind (wpS_mono (wpS_forRange (I:=λ_ c bJ=>c=(none,())/\∃p,Ok a₀ p bJ/\cb p.toList 0 lo) (Q:=λc bJ=>c=(none,())/\∃p,Ok a₀ p bJ/\cb p.toList 0 lo) ?_ (λ_ _ z=>z) ⟨rfl,_,bj,hc⟩) ?_)
    ·rintro y c bJ _ _ ⟨rfl,p3,bj,fQ⟩
     refine wpS_bind (wpS_get ?_)
     rw[bj.pend]
     by_cases h2:p3.size>1
     ·rw[if_pos h2,getElem?_pos p3 (p3.size-2) (by omega)]
      generalize p3[p3.size-2]=q
      obtain⟨u,v,eU⟩:=q
      dsimp only
      split
      ·exact wpS_pure ⟨rfl,p3,bj,fQ⟩
      ·exact wpS_bind (ze h0 bj fQ jA (by omega) λp4 mq bt qT _=>wpS_pure ⟨rfl,p4,bt,qT⟩)
     ·rw[if_neg h2]
      exact wpS_pure ⟨rfl,p3,bj,fQ⟩
    ·rintro c bJ ⟨rfl,p3,bj,fQ⟩
     refine wpS_bind (wpS_modify (wpS_bind (wpS_modify (wpS_pure ⟨_,_,rfl,⟨bj.perm,bj.kind,bj.failed,rfl⟩,?_,by omega⟩))))
     show cb (((pendingOf bJ).modify _ _).push _).toList 0 _
     rw[a1e,Array.toList_modify,bj.pend]
     exact(cb.mod fQ).snoc (by omega)
  ·rw[if_neg Gn]
   refine wpS_bind (wpS_get ?_)
   cases QC:(pendingOf qS).back? with
   | none =>
    dsimp only
    refine wpS_bind (wpS_modify (wpS_pure ⟨_,_,rfl,Ok.Gm aO _,?_,by omega⟩))
    show cb ((pendingOf qS).push _).toList 0 _
    rw[a1e,Ok.pend aO]
    exact hc.snoc (by omega)
   | some q =>
    obtain⟨s1,n1,g1⟩:=q
    dsimp only
    refine wpS_bind (wpS_mono (wpS_forRange (I:=λ_ c bJ=>c=(none,())/\∃p,Ok a₀ p bJ/\cb p.toList 0 lo) (Q:=λc bJ=>c=(none,())/\∃p,Ok a₀ p bJ/\cb p.toList 0 lo) ?_ (λ_ _ z=>z) ⟨rfl,_,aO,hc⟩) ?_)
    ·rintro y c bJ _ _ ⟨rfl,p3,bj,fQ⟩
     refine wpS_bind (wpS_get ?_)
     rw[bj.pend]
     by_cases h2:p3.size>1
     ·rw[if_pos h2,getElem?_pos p3 (p3.size-2) (by omega)]
      generalize p3[p3.size-2]=q
      obtain⟨u,v,eU⟩:=q
      dsimp only
      split
      ·exact wpS_pure ⟨rfl,p3,bj,fQ⟩
      ·exact wpS_bind (ze h0 bj fQ jA (by omega) λp4 mq bt qT _=>wpS_pure ⟨rfl,p4,bt,qT⟩)
     ·rw[if_neg h2]
      exact wpS_pure ⟨rfl,p3,bj,fQ⟩
    ·rintro c bJ ⟨rfl,p3,bj,fQ⟩
     refine wpS_bind (wpS_modify (wpS_bind (wpS_modify (wpS_pure ⟨_,_,rfl,⟨bj.perm,bj.kind,bj.failed,rfl⟩,?_,by omega⟩))))
     show cb (((pendingOf bJ).modify _ _).push _).toList 0 _
     rw[a1e,Array.toList_modify,bj.pend]
     exact(cb.mod fQ).snoc (by omega)
 case post =>
  rintro c ap ⟨lo,p,rfl,aH,hc,jA⟩
  dsimp only
  refine wpS_bind (wpS_mono (wpS_forRange (I:=λ_ c bJ=>c=(none,())/\∃p,Ok a₀ p bJ/\cb p.toList 0 lo) (Q:=λc bJ=>c=(none,())/\∃p,Ok a₀ p bJ/\cb p.toList 0 lo) ?_ (λ_ _ z=>z) ⟨rfl,_,aH,hc⟩) ?_)
  ·rintro y c bJ _ _ ⟨rfl,p3,bj,fQ⟩
   refine wpS_bind (wpS_get ?_)
   rw[bj.pend]
   by_cases h2:p3.size<=1
   ·rw[if_pos h2]
    exact wpS_pure ⟨rfl,p3,bj,fQ⟩
   ·rw[if_neg h2]
    have hi:∀(c:Prop) [Decidable c],(if c then p3.size-2-1 else p3.size-2)+1<p3.size:=λc _=>by
     by_cases hc:c
     ·rw[if_pos hc];omega
     ·rw[if_neg hc];omega
    exact wpS_bind (ze h0 bj fQ jA (hi _) λp4 mq bt qT _=>wpS_pure ⟨rfl,p4,bt,qT⟩)
  ·rintro c bJ ⟨rfl,p3,bj,fQ⟩
   exact wpS_pure (h _ bj.perm bj.failed)
end
theorem QD{vs:List Value}{ns:List Int}(hI:IntsAre vs ns){xs:Array Keyed}(hp:xs.Perm (pairsOf vs)):∃bR,IntsAre (xs.map (·.2)).toList bR/\bR.Perm ns:=by
 have hq:(xs.map (·.2)).toList.Perm vs:=by
  have h1:=(a1M.mp hp).map (·.2)
  have h2:(pairsOf vs).toList.map (·.2)=vs:=by rw[pairsOf_toList];exact List.map_snd_zip (Z0 _)
  rw[h2] at h1
  rwa [Array.toList_map]
 refine⟨_,intsAre_map _ λv hv=>hI.all v (hq.mem_iff.mp hv),?_⟩
 rw[<-hI.nums]
 exact hq.map numOf
section
variable{prog:Program}{w:World}{A:Around}{E:Value->Shared->Prop}{s:Shared}
theorem QE{l:Addr}{vs:List Value}{ns:List Int}{n:Nat}{P:Fin->Shared->Prop}(at_:s.heap.get? l=some (seqObj "list" vs.toArray n))(hI:IntsAre vs ns)(hz:vs.length<=sizeLine)
  (h:∀(out:Array Value) (bR:List Int),IntsAre out.toList bR->bR.Perm ns->P (.done (.ret .none)) {s with heap:=sortedHeap s.heap l vs out}) :
  wpAny (model prog w) A (Builtin.«list.sort» ⟨[.ref l],[]⟩) P E s:=by
 have aT:l<s.heap.objs.size:=ZY at_
 have hsz:vs.toArray.size=vs.length:=by simp
 rw[list_sort_plain]
 obtain⟨e1,ku⟩:∃e1,(s.heap.update l (Obj.mapSeq λ_=>#[])).get? l=some (seqObj "list" #[] e1):=⟨_,get?_update_seq at_ (λ_=>#[])⟩
 refine wpAny_bind (listItems_at at_ rfl (wpAny_bind (listUpdate_at at_ rfl (wpAny_bind (seqEpoch_at ku rfl (wpAny_bind (wpAny_newTuple (wpAny_bind (wpAny_newList (wpAny_holding ?_))))))) (by omega) (by simp))))
 have uF:(((s.heap.update l (Obj.mapSeq λ_=>#[])).push (seqObj "tuple" vs.toArray 0)).push (seqObj "list" #[] 0)).get? l=some (seqObj "list" #[] e1):=by
  refine ZV _ (ZV _ ku)
 show wpAny (model prog w) A _ P E {s with heap:=((s.heap.update l (Obj.mapSeq λ_=>#[])).push (seqObj "tuple" vs.toArray 0)).push (seqObj "list" #[] 0)}
 dsimp only
 have fin:∀ap:SortSt,(arrOf ap).Perm (pairsOf vs)->P (.done (.ret .none)) {s with heap:=sortedHeap s.heap l vs ((arrOf ap).map (·.2))}:=λap hp=>by
  obtain⟨bR,h1,h2⟩:=QD hI hp
  exact h _ bR h1 h2
 have big:∀ap:SortSt,(arrOf ap).Perm (pairsOf vs)->((arrOf ap).map (·.2)).size<=sizeLine+1:=λap hp=>by
  rw[Array.size_map,hp.size_eq,pairsOf_size];omega
 by_cases h2:vs.toArray.size<2
 ·rw[if_pos h2,if_pos h2]
  refine wpAny_bind (wpAny_pure (show wpAny _ _ _ _ _ _ from ?_))
  rw[StateT.run_pure]
  refine wpAny_bind (wpAny_pure (wpAny_bind (seqEpoch_at uF rfl (wpAny_bind (listUpdate_at uF rfl ?_ (by simp) (big (SortSt.mk' general' (vs.toArray.zip vs.toArray) #[] 7 none) (a2R _)))))))
  simp only[bne_self_eq_false,a0O,if_false]
  exact wpAny_pure (fin (SortSt.mk' general' (vs.toArray.zip vs.toArray) #[] 7 none) (a2R _))
 ·rw[if_neg h2,if_neg h2]
  obtain⟨v1,v2,r,rfl⟩:∃v1 v2 r,vs=v1::v2::r:=by
   rcases vs with _ | ⟨v1,_ | ⟨v2,r⟩⟩
   ·simp at h2
   ·simp at h2
   ·exact⟨v1,v2,r,rfl⟩
  rw[keyKind_ints hI]
  refine wpAny_bind (wpAny_pure (wpAny_bind (wpAny_mono (QB (a₀:=pairsOf (v1::v2::r)) (st:=SortSt.mk' oneType' ((v1::v2::r).toArray.zip (v1::v2::r).toArray) #[] 7 none)
   (Q:=λ_ ap=>(arrOf ap).Perm (pairsOf (v1::v2::r))/\failedOf ap=none) hI.intKeys ⟨a2R _,rfl,rfl,rfl⟩ λap a1 a2=>⟨a1,a2⟩) ?_ λ_ _ e=>e)))
  rintro⟨⟨⟩,ap⟩ s' ⟨rfl,hp,hf⟩
  dsimp only
  refine wpAny_bind (seqEpoch_at uF rfl (wpAny_bind (listUpdate_at uF rfl ?_ (by simp) (big ap hp))))
  rw[hf]
  simp only[bne_self_eq_false,a0O,if_false]
  exact wpAny_pure (fin ap hp)
end
section
variable{prog:Program}{w:World}{A:Around}{E:Value->Shared->Prop}{s:Shared}{T:String}{r d:Addr}{n:Nat}{P:Nat->Value->Prop}{OK:Heap->Prop}
theorem QF{R:Result->Shared->Prop}(K:PySem.W.KdlSrc prog w T r d n P OK)(hh:A.handled=none)(am:OK s.heap)(hn:n<=sizeLine)
  (h:∀h' tk acc c,(∀b o,s.heap.get? b=some o->h'.get? b=some o)->h'.get? s.heap.objs.size=some {cls:=.type "list",dict:=none,data:=.seq acc c,slots:=#[]}->ItemsOf P acc n->R (.ok (.ret (.ref s.heap.objs.size))) {s with heap:=h',toks:=tk}) :
  codeAny (model prog w) A (.builtin "proto.collect" ⟨[.ref r],[]⟩) R s:=by
 have lt:=K.there _ am
 refine codeAny_builtin PySem.F.entry_proto_collect ?_
 rw[Around.under_plainId PySem.F.plain_proto_collect _]
 show wpAny _ A.in1 (newList []>>=λl=>again (.builtin "list.__iadd__" ⟨[l,.ref r],[]⟩)) _ _ s
 refine wpAny_bind (wpAny_newObj_type (wpAny_pure ⟨plainId_quiet PySem.F.plain_list_iadd _,codeAny_builtin PySem.F.entry_list_iadd ?_⟩))
 rw[Around.under_plainId PySem.F.plain_list_iadd _]
 show wpAny _ A.in1 (Builtin.List.listExtendWith (.ref s.heap.objs.size) (.ref r) (.ref s.heap.objs.size)) _ _ _
 exact PySem.W.kdl_extend (R:=R) (s:={s with heap:=s.heap.push {cls:=.type "list",data:=.seq ([]:List Value).toArray}}) K hh (K.keep _ _ am λb _ o e=>ZV _ e) s.heap.objs.size (a0M lt.1) (a0M lt.2) _ 0 (Z3 _ rfl)
  (λh' tk acc c k hS dR=>h h' tk acc c (λb o e=>k b o (a0c (ZY e)) (ZV _ e)) hS dR) hn
theorem QG{Q:List Value->Shared->Prop}(K:PySem.W.KdlSrc prog w T r d n P OK)(hh:A.handled=none)(am:OK s.heap)(hn:n<=sizeLine)
  (h:∀h' tk acc,(∀b o,s.heap.get? b=some o->h'.get? b=some o)->s.heap.objs.size<h'.objs.size->ItemsOf P acc n->Q acc.toList {s with heap:=h',toks:=tk}):wpAny (model prog w) A (collect (.ref r)) Q E s:=by
 unfold collect
 refine wpAny_bind (wpAny_runValue (QF K hh am hn λh' tk acc c k hS dR=>?_))
 show wpAny _ A (load s.heap.objs.size>>=_) _ _ _
 exact wpAny_bind (wpAny_load hS (wpAny_pure (h h' tk acc k (ZY hS) dR)))
theorem QH{h:Heap}{l:Addr}{vs:List Value}{out:Array Value}{c:Nat}(e:h.get? l=some (seqObj "list" vs.toArray c)) :
  (∃c',(sortedHeap h l vs out).get? l=some (seqObj "list" out c'))/\∀b o,b≠l->h.get? b=some o->(sortedHeap h l vs out).get? b=some o:=by
 unfold sortedHeap
 constructor
 ·exact⟨_,get?_update_seq (ZV _ (ZV _ (get?_update_seq e _))) _⟩
 ·intro b o hb q
  refine(a0z _ _ (Ne.symm hb)).trans (ZV _ (ZV _ ?_))
  exact(a0z _ _ (Ne.symm hb)).trans q
theorem QI{ns:List Int}{Q:Value->Shared->Prop}(K:PySem.W.KdlSrc prog w T r d n P OK)(hh:A.handled=none)(am:OK s.heap)(hn:n<=sizeLine)(hi:∀acc,ItemsOf P acc n->IntsAre acc.toList ns)
  (h:∀h' tk D c (out:Array Value) (bR:List Int),(∀b o,s.heap.get? b=some o->h'.get? b=some o)->s.heap.objs.size<=D->h'.get? D=some (seqObj "list" out c)->IntsAre out.toList bR->bR.Perm ns->Q (.ref D) {s with heap:=h',toks:=tk}) :
  wpAny (model prog w) A (call (.builtin "sorted") [.ref r]) Q E s:=by
 refine Calls.call_function_entry kind_sorted plain_sorted entry_sorted (args_sorted1 _) ?_
 unfold Builtin.«sorted»
 refine wpAny_bind (m:=checkCount "sorted" 1 1 _) (wpAny_pure (wpAny_bind (QG K (by exact hh) am hn λh1 tk acc k1 z1 dR=>?_)))
 have hI:=hi acc dR
 have hz:acc.toList.length<=sizeLine:=by rw[a1S,dR.1];exact hn
 refine wpAny_bind (wpAny_newList ?_ (hsz:=hz))
 have ku:(h1.push (seqObj "list" acc.toList.toArray 0)).get? h1.objs.size=some (seqObj "list" acc.toList.toArray 0):=Z3 _ rfl
 refine wpAny_bind (wpAny_holding (wpAny_call_entry slot_list_sort ⟨_,ku,rfl⟩ entry_list_sort (QE ku hI hz λout bR a1 a2=>⟨_,rfl,?_⟩) (args_list_sort _)))
 obtain⟨⟨c',g1⟩,g2⟩:=QH (out:=out) ku
 refine wpAny_pure ⟨_,rfl,h _ _ _ c' out bR (λb o e=>?_) ?_ g1 a1 a2⟩
 ·have e1:=k1 b o e
  exact g2 b o (a0c (ZY e1)) (ZV _ e1)
 ·exact a1O z1
end
end Srt
namespace L2
open PySem PySem.Spec PyProof.Rows
theorem QJ{P:Program}{w:World}{vs:List (aE×Value)}{ns:List Int}(hk:vs.map (·.1)=ns.map Sum.inl){acc:Array Value}(h:ItemsOf (λi v=>∃k x,vs[i]?=some (k,x)/\(y_ P w).is k v=true) acc vs.length):IntsAre acc.toList ns:=by
 have hl:vs.length=ns.length:=by simpa using congrArg List.length hk
 have at_:∀(i:Nat) (v:Value),acc.toList[i]?=some v->∃n t,ns[i]?=some n/\v=Value.int n t:=λi v e=>by
  obtain⟨k,x,h1,h2⟩:=h.2 i v (by rw[<-Array.getElem?_toList];exact e)
  have h3:(vs.map (·.1))[i]?=some k:=by rw[Z2,h1];rfl
  rw[hk,Z2] at h3
  cases q:ns[i]? with
  | none=>rw[q] at h3;cases h3
  | some m =>
   rw[q] at h3
   have h4:Sum.inl m=k:=Z6 h3
   subst h4
   have h5:jq (Sum.inl m) v=true:=h2
   rcases H_ h5 with⟨i',t,e1,e2⟩ | ⟨y,t,e1,_⟩
   ·cases e1;exact⟨m,t,rfl,e2⟩
   ·cases e1
 have all:∀v:Value,v∈acc.toList->∃n t,v=Value.int n t:=λv hv=>by
  obtain⟨i,hi⟩:=a0P hv
  obtain⟨n,t,_,e⟩:=at_ i v hi
  exact⟨n,t,e⟩
 have hm:=intsAre_map _ all
 have e:acc.toList.map numOf=ns:=by
  apply a2G
  intro i
  rw[Z2]
  cases q:acc.toList[i]? with
  | none =>
   have:acc.size<=i:=by simpa using q
   have hs:=h.1
   rw[a1y (by lia)]
   rfl
  | some v =>
   obtain⟨n,t,e1,e2⟩:=at_ i v q
   rw[e1,e2]
   rfl
 rw[e] at hm
 exact hm
section
variable{X:Cx}
theorem QK(hc:X.calm=true):dm X (.builtin "sorted") (λxs H Q=>∃(a:Addr) (kvs:List (aE×V)) (ns:List Int),xs=[.ref a]/\Rd H a (.dK kvs)/\kvs.map (·.1)=ns.map Sum.inl/\
  ∀(l:Addr) (bR:List Int),H l=none->bR.Perm ns->Q (.ref l) (upd H l (.lst (bR.map V.int)))):=by
 intro aa s σ H xs us Q I r h
 obtain⟨a,kvs,ns,rfl,e,hk,q⟩:=h
 obtain⟨u,rfl,ru⟩:=vals1 r
 cases ru
 obtain⟨z,hd,vs,bT,o,es,ep,ho,dd⟩:=kI I.am e
 have jc:vs.map (·.1)=ns.map Sum.inl:=by rw[<-bT.keys];exact hk
 have hl:vs.length=ns.length:=by simpa using congrArg List.length jc
 refine Srt.QI (ns:=ns) (a2M (ep:=ep) (kvs:=vs) (knd:=y_ X.prog X.w) hd) (I.ok.hd hc) ⟨o,es,ho,dd⟩ (by rw[<-bT.length];exact z) (λacc dR=>QJ jc dR) λh' tk D c out bR k hD hg hI hp=>?_
 have hz:(bR.map V.int).length<=sizeLine:=by rw[ZW,hp.length_eq,<-hl,<-bT.length];exact z
 exact⟨.ref D,_,I.laid (a:=D) (o:=.lst (bR.map V.int)) (t':=tk) k hD ⟨hz,out.toList,c,EJ hI,by simpa using hg⟩,rfl,q D bR (I.am.fresh hD) hp⟩
end
end L2
namespace PySem
open Sem (wp)
theorem QL:typeLookup (.type "list") "keys"=pure none:=by rw[typeLookup_type,builtinLookup_eq_fast];kernel_rfl
theorem QM{prog:Program}{w:World}{A:Around}{E:Value->Shared->Prop}{s:Shared}{a:Addr}{o:Obj}{xs:Array Value}{k:Nat}{name:Str}{Q:Option Value->Shared->Prop}
  (hx:s.heap.get? a=some o) (hc:o.cls=.type "list") (oz:o.data=.seq xs k) (hd:o.dict=none) (QN:typeLookup (.type "list") name=pure none) (QO:(["__module__","__name__","__qualname__","__doc__","__annotations__"]:List Str).contains name=false) (hA:A.handled=none)
  (h:∀h' tk,(∀b ob,s.heap.get? b=some ob->h'.get? b=some ob)->Q none {s with heap:=h',toks:=tk}) (hsz:name.length+100<=sizeLine:=by size_fits) :
  wpAny (model prog w) A (getAttr? (.ref a) name) Q E s:=by
 obtain⟨c,Zb,dat,sl⟩:=o
 simp only at hc oz hd
 subst hc oz hd
 obtain⟨hp,g,d,tk,os⟩:=s
 have hT:∀Go,(⟨hp,g,d,Go,os⟩:Shared).TypeIs (.ref a) "list":=λ_=>⟨_,hx,rfl⟩
 have f1:=sub_AttributeError
 have f3:=F.slot_list_getattribute.lookup
 have f4:=F.slot_list_getattribute.bind (.ref a)
 have f5:=am_list_getattr_none
 unfold getAttr? getAttrBy? getAttrBy
 repeat (any_goals (first | assumption | exact hT _ | ((with_reducible show wpAny _ _ (call (Value.builtin "list.__getattribute__") _ _) _ _ _);refine call_meets F.slot_list_getattribute (hT _) am_entry_list_getattribute (F.args_list_getattribute_2 _ _) (meets_getattribute_miss_list a xs k sl name _ QN QO hsz) ⟨hx,hA,λh' Go e jJ=>?_⟩) | wp_step))
 obtain⟨t',u',he⟩:=jJ.there
 show wpAny _ _ (getattributeRaised _ _ _ _ _ _ _) _ _ _
 unfold getattributeRaised
 repeat (any_goals (first | assumption | wp_step))
 exact h _ _ jJ.keeps
namespace F
theorem Gp:entryFor table "dict.update.loop"=some Builtin.«dict.update.loop»:=entryFor_of_tree (by kernel_rfl)
theorem uG:plainId "dict.update.loop"=true:=by decide +kernel
end F
section
variable{prog:Program}{w:World}{A:Around}{R:Result->Shared->Prop}{I:Addr}{fp wr:List Addr}{G:Array GenState->Array GenState->Prop}{n:Nat}{P:Nat->Value->Prop}{St:Nat->Shared->Prop}
variable{K:Type}[DecidableEq K]{knd:KeyKind prog w K}
theorem QP(rs:List (K×Value)):(merged [] rs).length<=rs.length:=by
 have gen:∀(rs kvs:List (K×Value)),(merged kvs rs).length<=kvs.length+rs.length:=by
  intro rs
  induction rs with
  | nil=>intro kvs;simp[merged]
  | cons p r ih =>
   intro kvs
   have h:=ih (stored kvs p.1 p.2)
   have h2:(stored kvs p.1 p.2).length<=kvs.length+1:=by
    unfold stored
    split <;> simp
   show(merged (stored kvs p.1 p.2) r).length<=_
   simp only[a0k]
   lia
 simpa using gen rs []
theorem QQ(W:WalksS prog w A.in1 I fp wr G n P St)(S:Addr)(oq:S∉fp)(res:Value)(rs:List (K×Value))(hn:rs.length=n)(hz:n<=sizeLine)(s0:Shared)
  (iw:∀i v,P i v->∃k x,rs[i]?=some (k,x)/\∀h:Heap,(∀b o,b∉S::wr->s0.heap.get? b=some o->h.get? b=some o)->∃t o c aP,v=.ref t/\h.get? t=some o/\o.cls=.type "tuple"/\o.data=.seq #[aP,x] c/\knd.is k aP=true) :
  ∀(k i:Nat) (tk:Tok) (s:Shared),n-i=k->i<=n->St i s->(∀b o,b∉S::wr->s0.heap.get? b=some o->s.heap.get? b=some o)->
   s.heap.DictOf knd S (merged [] (rs.take i))->
   (∀s',Moved (S::wr) G s s'->s'.heap.DictOf knd S (merged [] rs)->R (.ok (.ret res)) s')->
   codeAny (model prog w) A (.builtin "dict.update.loop" ⟨[.ref S,.ref I,.int (i:Int) tk,res],[]⟩) R s:=by
 have Gq:S∉wr:=λh=>oq (W.sub _ h)
 have uH:∀b∈wr,b∈S::wr:=λb hb=>Z5 _ hb
 intro k
 induction k with
 | zero =>
  intro i tk s hk hi eh h0 hS hR
  have uI:i=n:=by lia
  refine codeAny_builtin F.Gp ?_
  rw[Around.under_plainId F.uG _]
  show wpAny _ A.in1 (pyNext (.ref I)>>=_) _ _ s
  refine wpAny_bind (W.done s _ _ (uI▸eh) λs' hm=>?_)
  show wpAny _ A.in1 (Builtin.Dict.addKeywords S []>>=λ_=>ret res) _ _ s'
  refine wpAny_bind ?_
  unfold Builtin.Dict.addKeywords
  show wpAny _ A.in1 (pure ()) _ _ s'
  refine wpAny_pure (wpAny_pure (hR s' (hm.mono uH) ?_))
  rw[uI,a0v (by lia)] at hS
  obtain⟨o,es,ep,ho,bv⟩:=hS
  exact⟨o,es,ep,hm.heap S _ Gq ho,bv⟩
 | succ k ih =>
  intro i tk s hk hi eh h0 hS hR
  have aT:i<n:=by lia
  refine codeAny_builtin F.Gp ?_
  rw[Around.under_plainId F.uG _]
  show wpAny _ A.in1 (pyNext (.ref I)>>=_) _ _ s
  refine wpAny_bind (W.item i s _ _ aT eh λv s' hP QR hm=>?_)
  have Gr:∀b o,b∉S::wr->s0.heap.get? b=some o->s'.heap.get? b=some o:=λb o hb e=>hm.heap b o (λz=>hb (uH b z)) (h0 b o hb e)
  obtain⟨k',x,hr,ht⟩:=iw i v hP
  obtain⟨t,o,c,aP,rfl,ho,hc,hd,gO⟩:=ht s'.heap Gr
  have lZ:s'.heap.DictOf knd S (merged [] (rs.take i)):=by
   obtain⟨o,es,ep,ho,bv⟩:=hS
   exact⟨o,es,ep,hm.heap S _ Gq ho,bv⟩
  have hT:s'.TypeIs (.ref t) "tuple":=⟨o,ho,hc⟩
  have b9:(merged [] (rs.take i)).length<=sizeLine:=by
   have:=QP (rs.take i)
   rw[a0g] at this
   lia
  refine wpAny_bind (wpAny_holding ?_)
  refine wpAny_bind (wpAny_tryCatch ?_)
  unfold Builtin.Dict.pairItems
  refine wpAny_bind (wpAny_typeOf hT ?_)
  refine wpAny_ite_split (λ_=>?_) (λiq=>absurd (by decide) iq)
  repeat (any_goals (first | assumption | wp_step))
  rw[hd]
  refine wpAny_pure (wpAny_pure ?_)
  show wpAny _ _ (holding [aP,x] (dictSet S aP x)) _ _ _
  refine wpAny_holding (wpAny_dictSet_pairs gO lZ (λh' hD QS=>?_) b9)
  refine wpAny_pure ⟨plainId_quiet F.uG _,?_⟩
  have ei:rawInt ((i:Int)+1)=rawInt ((i+1:Nat):Int):=by push_cast;rfl
  rw[ei]
  have bL:∀b o,b≠S->s'.heap.get? b=some o->h'.get? b=some o:=λb o hb e=>(QS.2 b hb).trans e
  refine ih (i+1) _ _ (by lia) aT (W.frame _ s' _ _ QR (a1Y _) λb hb o e=>bL b o (λh:b=S=>oq (by rw[<-h];exact hb)) e)
   (λb o hb e=>bL b o (λh:b=S=>hb (by rw[h];exact a0t)) (Gr b o hb e)) ?_ λqb QT QU=>?_
  ·rw[merged_take_succ [] rs i (k',x) hr]
   exact hD
  ·refine hR qb (Moved.trans W.gtrans ((hm.mono uH).then_heap (a1Y _) λb o hb e=>?_) QT) QU
   exact bL b o (λh:b=S=>hb (by rw[h];exact a0t)) e
end
section
variable{prog:Program}{w:World}{A:Around}{E:Value->Shared->Prop}{s:Shared}
variable{K:Type}[DecidableEq K]{knd:KeyKind prog w K}
theorem QV{l:Addr}{items:Array Value}{c:Nat}{Q:Value->Shared->Prop}(hh:A.handled=none)(hl:s.heap.get? l=some {cls:=.type "list",data:=.seq items c})(hz:items.size<=sizeLine)(rs:List (K×Value))(hn:rs.length=items.size)
  (iw:∀(i:Nat) v,items[i]?=some v->∃k x,rs[i]?=some (k,x)/\∃t o c aP,v=.ref t/\s.heap.get? t=some o/\o.cls=.type "tuple"/\o.data=.seq #[aP,x] c/\knd.is k aP=true)
  (hQ:∀h' tk,h'.DictOf knd s.heap.objs.size (merged [] rs)->(∀b o,s.heap.get? b=some o->h'.get? b=some o)->Q (.ref s.heap.objs.size) {s with heap:=h',toks:=tk}) :
  wpAny (model prog w) A (call (.type "dict") [.ref l]) Q E s:=by
 refine callType_codes (Q₁:=λobj bf=>obj=.ref s.heap.objs.size/\bf={s with heap:=s.heap.push {cls:=.type "dict",data:=.dict #[]}}) F.kt_called_dict (F.kt_typeCall_dict_1 _) F.entry_dict_init (kt_code_dict_new _ ⟨rfl,rfl⟩) ?_
 rintro obj bf ⟨rfl,rfl⟩
 have kr:(s.heap.push {cls:=.type "dict",data:=.dict #[]}).DictOf knd s.heap.objs.size []:=Heap.DictOf.new s.heap
 have cX:(s.heap.push {cls:=.type "dict",data:=.dict #[]}).get? l=some {cls:=.type "list",data:=.seq items c}:=ZV _ hl
 have Gs:l<s.heap.objs.size:=ZY hl
 refine⟨kr.typeIs,F.args_dict_init_2 _ _,?_⟩
 unfold Builtin.«dict.__init__»
 refine wpAny_bind ?_
 unfold Builtin.Dict.selfAndRest
 refine wpAny_bind (wpAny_notOrdered_dict kr.typeIs ?_)
 show wpAny _ _ (pure (s.heap.objs.size,[Value.ref l])) _ _ _
 refine wpAny_pure ?_
 show wpAny _ _ (Builtin.Dict.updateFrom "dict.__init__" s.heap.objs.size (.ref l) [] .none) _ _ _
 unfold Builtin.Dict.updateFrom
 refine wpAny_bind (wpAny_typeOf (T:="list") ⟨_,cX,rfl⟩ ?_)
 rw[if_pos (by decide)]
 refine wpAny_bind (QM cX rfl rfl rfl QL (by decide) (by simpa using hh) λh1 Zc k1=>?_)
 refine wpAny_ite_split (λ_=>?_) (λiq=>absurd rfl iq)
 refine wpAny_bind (wpAny_rule ?_)
 have bM:=k1 _ _ cX
 refine wpAny_bind (wpAny_pyIter_list ⟨_,bM,rfl,c,rfl⟩ ?_)
 refine wpAny_pure ⟨plainId_quiet F.uG _,?_⟩
 have QW:(s.heap.push {cls:=.type "dict",data:=.dict #[]}).get? s.heap.objs.size=some {cls:=.type "dict",data:=.dict #[]}:=Z3 _ rfl
 have QX:=k1 _ _ QW
 have iy:s.heap.objs.size<h1.objs.size:=ZY QX
 have lI:l≠h1.objs.size:=a0c (Nat.lt_trans Gs iy)
 have oq:s.heap.objs.size∉[h1.objs.size,l]:=by
  simp only[ZZ,a0l,or_false,not_or]
  exact⟨a0c iy,a0M Gs⟩
 have QY:A.in1.in1.handled=none:=by simpa using hh
 have W:=(Walks.list (prog:=prog) (w:=w) (A:=A.in1.in1) QY h1.objs.size l lI items).toS
 have keep:∀b o,s.heap.get? b=some o->b∉s.heap.objs.size::[h1.objs.size]:=λb o e z=>by
  have hb:=ZY e
  simp only[ZZ,a0l,or_false] at z
  rcases z with z | z
  ·rw[z] at hb;exact a0G _ hb
  ·rw[z] at hb;exact a0G _ (Nat.lt_trans hb iy)
 refine QQ (A:=A.in1) (knd:=knd) W s.heap.objs.size oq .none rs hn hz s (λi v hv=>?_) items.size 0 0 _ (by lia) (a0w _) ⟨⟨_,Z3 _ rfl,rfl,rfl⟩,⟨_,ZV _ bM,rfl,c,rfl⟩⟩ (λb o _ e=>ZV _ (k1 _ _ (ZV _ e))) ?_ λs' hm hS=>?_
 ·obtain⟨k,x,hr,t,o,c',aP,e1,e2,e3,e4,e5⟩:=iw i v hv
  exact⟨k,x,hr,λh hk=>⟨t,o,c',aP,e1,hk t o (keep t o e2) e2,e3,e4,e5⟩⟩
 ·obtain⟨o,es,ep,ho,bv⟩:=kr
  exact⟨o,es,ep,ZV _ (k1 _ _ ho),bv⟩
 ·rw[Moved.eq_with hm]
  refine⟨rfl,hQ s'.heap s'.toks hS λb o e=>hm.heap b o (keep b o e) (ZV _ (k1 _ _ (ZV _ e)))⟩
end
end PySem
namespace Me
def look(f:List (Int×Int))(k:Int):Option Int:=(f.find? λq=>decide (q.1=k)).map (·.2)
def put(f:List (Int×Int))(k v:Int):List (Int×Int) :=
 if (f.any λp=>decide (p.1=k))=true then f.map (λp=>if p.1=k then (p.1,v) else p) else f++[(k,v)]
def dD(f:List (Int×Int))(k n:Int):List (Int×Int):=put f k ((look f k).getD 0+n)
def du(p:Int×Int)(w:Int)(n:Nat)(acc:List (Int×Int)):List (Int×Int):=(List.range n).foldl (λacc (d:Nat)=>dD acc (p.1+(d:Int)*w) p.2) acc
def fc(f:List (Int×Int))(b:Nat)(w:Int):List (Int×Int):=f.foldl (λacc p=>du p w b acc) []
def aW(b:Nat)(ws:List Int):List (Int×Int):=ws.foldl (λf w=>fc f b w) [(0,1)]
abbrev keys(f:List (Int×Int)):List Int:=f.map (·.1)
theorem kM(p:Int×Int)(w:Int)(n:Nat)(acc:List (Int×Int)):du p w (n+1) acc=dD (du p w n acc) (p.1+(n:Int)*w) p.2:=by
 unfold du
 rw[a2r,a1C]
 rfl
theorem Gu{f:List (Int×Int)}{b i:Nat}{w:Int}{p:Int×Int}(h:f[i]?=some p):fc (f.take (i+1)) b w=du p w b (fc (f.take i) b w):=by
 unfold fc
 rw[Z8,h,a1C]
 rfl
theorem Gv{b i:Nat}{ws:List Int}{w:Int}(h:ws[i]?=some w):aW b (ws.take (i+1))=fc (aW b (ws.take i)) b w:=by
 unfold aW
 rw[Z8,h,a1C]
 rfl
theorem Gw(f:List (Int×Int))(k v:Int):keys (f.map λp=>if p.1=k then (p.1,v) else p)=keys f:=by
 rw[keys,a1B]
 apply a0V
 intro p _
 show(if p.1=k then (p.1,v) else p).1=p.1
 split <;> rfl
theorem GA{f:List (Int×Int)}{k v:Int}:(keys f).Nodup->(keys (put f k v)).Nodup:=by
 intro nd
 unfold put
 split
 ·rw[Gw];exact nd
 ·rename_i h
  have hn:k∉keys f:=λz=>h (by
   obtain⟨p,hp,e⟩:=a0a.mp z
   exact List.any_eq_true.mpr ⟨p,hp,by simpa using e⟩)
  rw[keys,a0p]
  refine List.nodup_append.mpr ⟨nd,by simp,λa ha b hb=>?_⟩
  have:b=k:=by simpa using hb
  rw[this]
  exact λz=>hn (z▸ha)
theorem QZ{f:List (Int×Int)}{k v lo hi:Int}(h:∀x∈keys f,lo<=x/\x<=hi)(hk:lo<=k/\k<=hi):∀x∈keys (put f k v),lo<=x/\x<=hi:=by
 unfold put
 split
 ·rw[Gw];exact h
 ·intro x hx
  rw[keys,a0p] at hx
  rcases a0s.mp hx with hx | hx
  ·exact h x hx
  ·have:x=k:=by simpa using hx
   rw[this];exact hk
structure Ok(f:List (Int×Int))(m:Int):Prop where
 nd:(keys f).Nodup
 bd:∀x∈keys f,-m<=x/\x<=m
theorem Ok.put{f:List (Int×Int)}{m k v:Int}(o:Ok f m)(h : -m<=k/\k<=m):Ok (put f k v) m:=⟨GA o.nd,QZ o.bd h⟩
theorem Ok.nil{m:Int}:Ok [] m:=⟨by simp[keys],λx h=>by simp[keys] at h⟩
theorem GB{m x w:Int}{d b:Nat}(hx : -m<=x/\x<=m)(hw : -9<=w/\w<=9)(hb:b<=16)(hd:d<b) : -(m+135)<=x+(d:Int)*w/\x+(d:Int)*w<=m+135:=by
 have d0:(0:Int)<=d:=by lia
 have Ze:(d:Int)<=15:=by lia
 have a1:(d:Int)*w<=d*9:=a2o hw.2 d0
 have a2:(d:Int)*(-9)<=d*w:=a2o hw.1 d0
 lia
theorem zf{f:List (Int×Int)}{m w:Int}{p:Int×Int}{b:Nat}(hp : -m<=p.1/\p.1<=m)(hw : -9<=w/\w<=9)(hb:b<=16)(o:Ok f (m+135)):∀n,n<=b->Ok (du p w n f) (m+135)
 | 0,_=>o
 | n+1,h=>by
  rw[kM]
  exact(zf hp hw hb o n (by lia)).put (GB hp hw hb (by lia))
theorem uJ{f:List (Int×Int)}{m w:Int}{b:Nat}(o:Ok f m)(hw : -9<=w/\w<=9)(hb:b<=16):∀i,Ok (fc (f.take i) b w) (m+135)
 | 0=>Ok.nil
 | i+1=>by
  cases h:f[i]? with
  | none =>
   rw[Z8,h]
   simpa using uJ o hw hb i
  | some p =>
   rw[Gu h]
   exact zf (o.bd p.1 (a0a.mpr ⟨p,Z1 h,rfl⟩)) hw hb (uJ o hw hb i) b (Z0 _)
theorem Q0{f:List (Int×Int)}{m w:Int}{b:Nat}(o:Ok f m)(hw : -9<=w/\w<=9)(hb:b<=16):Ok (fc f b w) (m+135):=by
 have:=uJ o hw hb f.length
 rwa [a0e] at this
theorem uK{b:Nat}{ws:List Int}(hw:∀w∈ws,-9<=w/\w<=9)(hb:b<=16):∀i:Nat,Ok (aW b (ws.take i)) (135*i)
 | 0 => ⟨by simp[aW, keys], λx h => by have : x = 0 := by simpa [aW, keys] using h
                                       lia⟩
 | i+1=>by
  cases h:ws[i]? with
  | none =>
   rw[Z8,h]
   have o:=uK hw hb i
   simp only[Option.toList_none,a0F]
   exact⟨o.nd,λx hx=>by have:=o.bd x hx;lia⟩
  | some w =>
   rw[Gv h]
   have o:=Q0 (uK hw hb i) (hw w (Z1 h)) hb
   have e:(135*((i+1:Nat):Int))=135*(i:Int)+135:=by lia
   rw[e]
   exact o
theorem uL{b:Nat}{ws:List Int}(hw:∀w∈ws,-9<=w/\w<=9)(hb:b<=16):Ok (aW b ws) (135*ws.length):=by
 have:=uK hw hb ws.length
 rwa [a0e] at this
theorem GC{α:Type}[DecidableEq α]:∀ {l m:List α},l.Nodup->(∀x∈l,x∈m)->l.length<=m.length
 | [],_,_,_=>a0w _
 | x::l,m,nd,h=>by
  have hx:=h x (by simp)
  have hn:=(a0n.mp nd).1
  have:=GC (l:=l) (m:=m.erase x) (a0n.mp nd).2 λy hy=>(List.mem_erase_of_ne (show y≠x from λe=>hn (by rw[<-e];exact hy))).mpr (h y (Z5 _ hy))
  rw[List.length_erase_of_mem hx] at this
  have hp:0<m.length:=a1d hx
  simp only[a0k]
  lia
theorem Ok.len{f:List (Int×Int)}{m:Nat}(o:Ok f m):f.length<=2*m+1:=by
 have h:=GC (l:=keys f) (m:=(List.range (2*m+1)).map λ(i:Nat)=>(i:Int)-m) o.nd λx hx=>by
  have:=o.bd x hx
  refine a0a.mpr ⟨(x+m).toNat,a2z.mpr (by lia),by lia⟩
 simpa [keys] using h
theorem mz:∀ {g:List (Int×Int)} {p:Int×Int},(keys g).Nodup->p∈g->look g p.1=some p.2
 | [],_,_,h=>by simp at h
 | q::g,p,nd,h=>by
  have hn:q.1∉keys g:=(a0n.mp nd).1
  have Q1:=(a0n.mp nd).2
  rcases ZZ.mp h with rfl | h
  ·simp[look,a0Z]
  ·have aZ:¬ q.1=p.1:=λe=>hn (by rw[e];exact a0a.mpr ⟨p,h,rfl⟩)
   have:=mz Q1 h
   simpa [look,a0Z,aZ] using this
theorem Q2{f:List (Int×Int)}(nd:(keys f).Nodup){ns:List Int}(h:ns.Perm (keys f)):(ns.map λn=>(n,(look f n).getD 0)).Perm f:=by
 have h1:=h.map λn=>(n,(look f n).getD 0)
 have e:(keys f).map (λn=>(n,(look f n).getD 0))=f:=by
  rw[keys,a1B]
  conv=>rhs;rw[<-List.map_id f]
  apply a0V
  intro p hp
  show(p.1,(look f p.1).getD 0)=p
  rw[mz nd hp]
  rfl
 rw[e] at h1
 exact h1
theorem GE{f:List (Int×Int)}{k v:Int}(h:k∉keys f):put f k v=f++[(k,v)]:=by
 unfold put
 rw[if_neg]
 intro z
 obtain⟨p,hp,e⟩:=List.any_eq_true.mp z
 exact h (a0a.mpr ⟨p,hp,by simpa using e⟩)
def uM(f more:List (Int×Int)):List (Int×Int):=more.foldl (λacc p=>put acc p.1 p.2) f
theorem GF:∀(more f:List (Int×Int)),(keys (f++more)).Nodup->uM f more=f++more
 | [],f,_=>by simp[uM]
 | p::r,f,nd=>by
  have hp:p.1∉keys f:=by
   rw[keys,a0p] at nd
   have:=(List.nodup_append.mp nd).2.2
   exact λz=>this p.1 z p.1 (by simp) rfl
  show uM (put f p.1 p.2) r=_
  rw[GE hp,GF r (f++[(p.1,p.2)]) (by simpa using nd)]
  simp
end Me
namespace L2
open PySem PySem.Spec PyProof.Rows
theorem Paired.at{α β:Type}{R:α->β->Prop}{as:List α}{bs:List β}{i:Nat}{a:α}(h:Paired R as bs)(e:as[i]?=some a):∃b,bs[i]?=some b/\R a b:=by
 induction h generalizing i with
 | nil=>simp at e
 | cons r _ ih =>
  cases i with
  | zero=>simp at e;subst e;exact⟨_,rfl,r⟩
  | succ i =>
   obtain⟨b,h1,h2⟩:=ih (i:=i) (by simpa using e)
   exact⟨b,by simpa using h1,h2⟩
abbrev mC(H:Hp)(ts:List Addr)(kvs:List (aE×V)):Prop:=Paired (λ(t:Addr) (p:aE×V)=>H t=some (.tup [kV p.1,p.2])) ts kvs
theorem GG{P:Program}{w:World}{H:Hp}{h:Heap}(ok:bC P w H h):∀ {ts:List Addr} {kvs:List (aE×V)} {ad:List Value},mC H ts kvs->aB (ts.map V.ref) ad->
  ∃rs:List (aE×Value),KV kvs rs/\Paired (λ(u:Value) (r:aE×Value)=>∃t o c aP,u=.ref t/\h.get? t=some o/\o.cls=.type "tuple"/\o.data=.seq #[aP,r.2] c/\(y_ P w).is r.1 aP=true) ad rs
 | [],_,_,.nil,r=>by cases r;exact⟨[],.nil,.nil⟩
 | t::ts,p::kvs,ad,.cons e hp,r=>by
  cases r with
  | cons r0 rr =>
   cases r0
   obtain⟨rs,a,b⟩:=GG ok hp rr
   obtain⟨_,kq,rv,tu⟩:=ok t _ e
   obtain⟨u1,u2,rfl,r1,r2⟩:=rv.two
   obtain⟨o,c,ho,hc,hd⟩:∃o c,h.get? t=some o/\o.cls=.type "tuple"/\o.data=.seq #[u1,u2] c:=by
    obtain⟨o,ho,hc,c,hd⟩:=tu
    exact⟨o,c,ho,hc,hd⟩
   exact⟨(p.1,u2)::rs,.cons ⟨rfl,r2⟩ a,.cons ⟨t,o,c,u1,rfl,ho,hc,hd,ow r1⟩ b⟩
section
variable{X:Cx}{o:Expr}{td:TE}
theorem Q3(hc:X.calm=true):dm X (.type "dict") (λxs H Q=>∃(l:Addr) (ts:List Addr) (kvs:List (aE×V)),xs=[.ref l]/\H l=some (.lst (ts.map V.ref))/\mC H ts kvs/\
  ∀p,H p=none->Q (.ref p) (upd H p (.dK (gr [] kvs)))):=by
 intro aa s σ H xs us Q I r h
 obtain⟨l,ts,kvs,rfl,e,hp,q⟩:=h
 obtain⟨u,rfl,ru⟩:=vals1 r
 cases ru
 obtain⟨z,ad,n,rv,e1⟩:=I.am l _ e
 obtain⟨rs,hk,hr⟩:=GG I.am hp rv
 have b9:rs.length=ad.length:=hr.length.symm
 have hz:ad.length<=sizeLine:=by rw[<-rv.length];exact z
 refine QV (knd:=y_ X.prog X.w) (I.ok.hd hc) e1 (by rw[Z4];exact hz) rs (by rw[Z4];exact b9) (λi v hv=>?_) λh' tk dd k=>?_
 ·obtain⟨b,hb,t,o,c,aP,x1,x2,x3,x4,x5⟩:=Paired.at (i:=i) (a:=v) hr (by simpa using hv)
  exact⟨b.1,b.2,hb,t,o,c,aP,x1,x2,x3,x4,x5⟩
 ·have hm:=yW kvs []
  have Zf:=hk.length
  refine⟨.ref _,_,I.laid (a:=s.heap.objs.size) (o:=.dK (gr [] kvs)) (t':=tk) k (Z0 _) (yR ?_ (beq_eq_false_iff_ne.mpr (Ne.symm (a0c I.big))) (KV.merge hk .nil) dd),rfl,q _ (I.am.fresh (Z0 _))⟩
  simp only[a2Q] at hm
  lia
end
def aJ(f:List (Int×Int)):List (aE×V):=f.map λp=>(Sum.inl p.1,V.int p.2)
theorem Q4(f:List (Int×Int))(k:Int):f6 (aJ f) (Sum.inl k)=(Me.look f k).map V.int:=by
 induction f with
 | nil=>rfl
 | cons p r ih =>
  by_cases e:p.1=k
  ·have h1:f6 (aJ (p::r)) (Sum.inl k)=some (V.int p.2):=ul (by show Sum.inl p.1=Sum.inl k;rw[e])
   rw[h1]
   simp[Me.look,a0Z,e]
  ·have h1:f6 (aJ (p::r)) (Sum.inl k)=f6 (aJ r) (Sum.inl k):=um (by intro z;exact e (Sum.inl.inj z))
   rw[h1,ih]
   simp[Me.look,a0Z,e]
section
variable{X:Cx}
end
theorem GH(f:List (Int×Int))(k v:Int):dU (aJ f) (Sum.inl k) (V.int v)=aJ (Me.put f k v):=by
 have e:((aJ f).any λkv=>decide (kv.1=Sum.inl k))=f.any λp=>decide (p.1=k):=by
  rw[aJ,List.any_map]
  congr 1
  funext p
  show decide (Sum.inl p.1=(Sum.inl k:aE))=decide (p.1=k)
  by_cases z:p.1=k
  ·simp[z]
  ·have z':¬ (Sum.inl p.1:aE)=Sum.inl k:=λq=>z (Sum.inl.inj q)
   simp[z,z']
 unfold dU Me.put
 rw[e]
 split
 ·rw[aJ,a1B,aJ,a1B]
  apply a0V
  intro p _
  show(if (Sum.inl p.1:aE)=Sum.inl k then (Sum.inl p.1,V.int v) else (Sum.inl p.1,V.int p.2))=(Sum.inl (if p.1=k then (p.1,v) else p).1,V.int (if p.1=k then (p.1,v) else p).2)
  by_cases z:p.1=k
  ·rw[if_pos (by rw[z]),if_pos z]
  ·rw[if_neg (λq=>z (Sum.inl.inj q)),if_neg z]
 ·simp[aJ]
theorem GI:∀(more f:List (Int×Int)),gr (aJ f) (aJ more)=aJ (Me.uM f more)
 | [],f=>rfl
 | p::r,f=>by
  show gr (dU (aJ f) (Sum.inl p.1) (V.int p.2)) (aJ r)=_
  rw[GH,GI r]
  rfl
section
variable{X:Cx}
theorem GJ(hc:X.calm=true):dm X (.builtin "sum") (λxs H Q=>∃(p:Addr) (ns:List Int),xs=[.ref p]/\af X.K H p (ns.map V.int)/\Q (.int ns.sum) H):=by
 intro aa s σ H xs us Q I r h
 obtain⟨p,ns,rfl,hq,q⟩:=h
 obtain⟨u,rfl,rx⟩:=vals1 r
 cases rx
 obtain⟨ad,rv,pl,hz⟩:=I.list hq
 have hl:=pl.isList
 have aT:p<s.heap.objs.size:=by obtain⟨_,e,_⟩:=hl;exact ZY e
 have hn:ad.toArray.size=ns.length:=by rw[Z4,<-rv.length,ZW]
 refine call_sum_walkG (wpAny_pyIter_list hl ?_)
 refine⟨_,_,_,_,_,_,λi=>(ns[i]?).getD 0,rfl,Walks.list (A:=X.A.in1) (I.ok.hd hc) s.heap.objs.size p (a0c aT) ad.toArray,⟨⟨_,Z3 _ rfl,rfl,rfl⟩,hl.push _⟩,λb cv=>?_,λi v hP=>?_,λh' tk t' hk=>?_⟩
 ·show b<(s.heap.push _).objs.size
  rw[a0x]
  rcases ZZ.mp cv with rfl | cv
  ·exact a0I _
  ·have e:b=p:=by simpa using cv
   rw[e];exact a1c aT
 ·have hv:ad[i]?=some v:=by simpa using hP
  cases eb:ns[i]? with
  | none =>
   have:=rv.none_of (i:=i) (by rw[Z2,eb];rfl)
   rw[this] at hv;cases hv
  | some b =>
   obtain⟨u,hu,ru⟩:=rv.get (i:=i) (x:=.int b) (by rw[Z2,eb];rfl)
   rw[hu] at hv;cases hv
   obtain⟨t,rfl⟩:=ru
   exact⟨t,by simp[eb]⟩
 ·rw[hn,qp ns ns.length (Z0 _),a0e]
  exact⟨.int _,H,(show Inv X aa σ H {s with heap:=h',toks:=tk} from seen I hk),⟨_,rfl⟩,q⟩
def Q5(td:TE):TE:=fun σ H Q=>td σ H λx H1=>∃a kvs,∃ns:List Int,x=.ref a/\H1 a=some (.dK kvs)/\kvs.map (·.2)=ns.map V.int/\Q (.int ns.sum) H1
theorem Q6{o:Expr}{td:TE}{p1 q1 bH cV:Pos}(hc:X.calm=true)(gS:X.mg "sum"=none)(yb:Gl X "sum")(ho:PE X o td)(qf:attributeBase o "values" X.env (eval o X.env)=eval o X.env:=by rfl)(qg:(bH.endLine==cV.line)=true:=by rfl) :
  PE X (.Call (.Name "sum" p1) [.Call (.Attribute o "values" bH) [] [] cV] [] q1) (Q5 td):=by
 intro aa s σ H Q I h
 refine wpAny_Call_Name_kw (iO I yb gS boot_sum ?_)
 refine PyProof.Rows.callWith_builtin1 ?_ rfl rfl
 show wpAny _ _ (spliced ((false,eval (.Call (.Attribute o "values" bH) [] [] cV) X.env)::backTo q1 (starEach [] X.env))) _ _ s
 refine Calls.spliced_cons ?_
 refine wpAny_Call_method0_late qf qg (au (ho aa s σ H _ I h) λv s1 ⟨x,H1,I1,r1,a,kvs,ns,ex,he,gR,q⟩=>?_)
 subst ex
 obtain rfl:v=Value.ref a:=r1
 obtain⟨t1,t2,_⟩:=FN I1 (.inl ⟨kvs,.inl he⟩)
 obtain⟨z,hd,vs,bT,dd⟩:=mf I1.am he
 refine⟨"dict","dict.values",PySem.F.plainAttrs_dict,PySem.F.slot_dict_values,PySem.F.type_dict_values,t1,t2,Calls.callWith_builtin rfl (PySem.evalArgs_none ?_)⟩
 refine call_meetsIn PySem.F.slot_dict_values dd.typeIs PySem.F.entry_dict_values (PySem.F.args_dict_values_1 _) (meets_dict_values (y_ X.prog X.w) a hd) ⟨⟨_,dd⟩,?_⟩
 refine Calls.spliced_nil ?_
 obtain⟨ob,es,ep,uN,bv⟩:=dd
 have Q7:=ZV {cls:=.type "dict_values",data:=.fields #[.ref a]} uN
 have hl:=bT.length
 have Q8:kvs.length=ns.length:=by simpa using congrArg List.length gR
 have KS:=PySem.W.kdl_values (prog:=X.prog) (w:=X.w) (r:=s1.heap.objs.size) (d:=a) (ep:=ep) (kvs:=vs) (knd:=y_ X.prog X.w)
 have am:(s1.heap.push {cls:=.type "dict_values",data:=.fields #[.ref a]}).IsValuesView s1.heap.objs.size a/\(s1.heap.push {cls:=.type "dict_values",data:=.fields #[.ref a]}).DictAt (y_ X.prog X.w) a vs ep:=⟨⟨_,Z3 _ rfl,rfl,rfl⟩,⟨ob,es,Q7,bv⟩⟩
 refine call_sum_walkG ?_
 obtain⟨oI,St,cF,W,st⟩:=KS.iter X.A.in1 {s1 with heap:=s1.heap.push {cls:=.type "dict_values",data:=.fields #[.ref a]}} (I1.ok.hd hc) am
 refine cF _ _ ⟨_,_,_,_,_,_,λi=>(ns[i]?).getD 0,rfl,W,st,λb hb=>?_,λi v hv=>?_,λh' tk t' hk=>?_⟩
 ·show b<(Heap.push _ oI).objs.size
  rw[a0x]
  rcases ZZ.mp hb with e | hb
  ·rw[e];exact a0I _
  ·rw[a0h.mp hb];exact a1c (KS.there _ am).2
 ·obtain⟨k',e1⟩:=hv
  have hi:i<kvs.length:=by rw[hl];exact(ZX.mp e1).1
  obtain⟨u',GK,ru⟩:=KV.at bT (i:=i) (p:=kvs[i]) (by simp[hi])
  rw[e1] at GK
  have eu:v=u':=congrArg Prod.snd (Z6 GK)
  have e2:(kvs.map (·.2))[i]?=(ns.map V.int)[i]?:=by rw[gR]
  have e3:(kvs.map (·.2))[i]?=some (kvs[i]).2:=by simp[hi]
  have e4:(ns.map V.int)[i]?=some (V.int ns[i]):=by simp[show i<ns.length by omega]
  rw[e3,e4] at e2
  have e5:=Z6 e2
  rw[e5] at ru
  obtain⟨t,rfl⟩:=ru
  refine⟨t,?_⟩
  rw[eu]
  have e6:ns[i]?=some ns[i]:=a0A (show i<ns.length by omega)
  show Value.int ns[i] t=Value.int ((ns[i]?).getD 0) t
  rw[e6]
  rfl
 ·rw[<-hl,Q8,qp ns ns.length (Z0 _),a0e]
  have jI:∀b o,s1.heap.get? b=some o->h'.get? b=some o:=λb o e=>hk b o (λhI=>absurd (ZY e) (by
   rw[a0h.mp hI]
   show ¬ (s1.heap.push _).objs.size<_
   rw[a0x];omega)) (ZV _ (ZV _ e))
  exact⟨.int _,H1,I1.kept (t':=tk) (h':=h') jI,⟨_,rfl⟩,q⟩
end
end L2
namespace Hv
open PySem L2
section
variable{P:Program}{w:World}{K:PySem.W.Frag}{mg:Str->Option Value}{base:Heap}
end
abbrev Zg(b n:Nat)(ps:List Nat)(ws:List Int):List Int:=Ma.tJ ps (Ma.eG b n ps.sum ws)
section
variable{P:Program}{w:World}{K:PySem.W.Frag}{mg:Str->Option Value}{base:Heap}
end
theorem GL{c A B:Prop}[Decidable c](h1:A)(h2:B):if c then A else B:=jB (λ_=>h1) λ_=>h2
theorem GM{c A:Prop}[Decidable c]{nx:St->Hp->Prop}{σ:St}{H:Hp}(Good:St->Hp->Prop)(h:∀ σ H,Good σ H->nx σ H)(hA:(∀ σ H,Good σ H->nx σ H)->A)(hB:Good σ H):if c then A else nx σ H:=GL (hA h) (h _ _ hB)
theorem uO{xs:List V}{k:Nat}:cU xs none (some (k:Int))=xs.take k:=by
 unfold cU
 rw[HT.sO,HT.qe,a2A,a1s]
 rcases a2v k xs.length with h | h
 ·rw[a1n h]
 ·rw[a2l h,a0v (Z0 _),a0v h]
theorem zg{ns:List Int}{i:Int}{Pr:Int->Prop}(h0:0<=i)(h1:i<ns.length)(h:∀n∈ns,Pr n):∃n,dQ (ns.map V.int) i=some (.int n)/\Pr n:=by
 obtain⟨v,e,n,rfl,hn⟩:=yh (xs:=ns.map V.int) (Pr:=λv=>∃n,v=.int n/\Pr n) h0 (by rw[ZW];exact h1) (λx hx=>by
  obtain⟨n,hn,rfl⟩:=a0a.mp hx
  exact⟨n,rfl,h n hn⟩)
 exact⟨n,e,hn⟩
theorem Q9{n x:Nat}:(List.replicate n [V.int (x:Int)]).flatten=ay (List.replicate n x):=by
 induction n with
 | zero=>rfl
 | succ n ih=>rw[a0E,a1l,ih,a0E];rfl
theorem Ra{ps:List Nat}(h:∀p∈ps,1<=p/\p<=6):∀n∈ps.map λ(p:Nat)=>(p:Int),-1000000000<=n/\n<=1000000000:=λn hn=>by
 obtain⟨p,hp,rfl⟩:=a0a.mp hn
 have:=h p hp
 lia
theorem Rb(k:Bool):p8 j (if k=true then 1 else 0):=.inr (by cases k <;> decide)
def bE(H:Hp)(s:Addr):Prop:=∃g c k:Int,H s=some (.lst [.int g,.int c,.int k])
theorem bE.keep{H H':Hp}{s:Addr}(h:bE H s)(t:ag H H'):bE H' s:=let ⟨g,c,k,e⟩:=h;⟨g,c,k,t _ _ e⟩
theorem bE.off{H:Hp}{s l:Addr}(h:bE H s)(e:H l=none):l≠s:=λz=>by
 obtain⟨g,c,k,q⟩:=h
 rw[z,q] at e;cases e
theorem bE.cc{H:Hp}{s l:Addr}(h:bE H s)(e:H l=none):l∉[s]:=λz=>h.off e (by simpa using z)
theorem bE.upd{H:Hp}{s l:Addr}{o:HO}(h:bE H s)(n:l≠s):bE (L2.upd H l o) s:=let ⟨g,c,k,e⟩:=h;⟨g,c,k,by rw[i_ n.symm];exact e⟩
def zh(K:PySem.W.Frag):Sp:=λvs H Q _=>∃(a:Addr) (ns:List Int) (k:Nat),vs=[.ref a,.int k]/\af K H a (ns.map V.int)/\k<=1000/\∀c:Int,Q (.int c) H
def zi:Sp:=λvs H Q _=>∃c:Int,vs=[.int c]/\∀s H',H s=none->ag H H'->bE H' s->Q (.ref s) H'
def F_:Sp:=λvs H Q _=>∃(s:Addr) (m:Int),vs=[.ref s,.int m]/\bE H s/\0<m/\m<1073741824/\∀(r:Int) (H':Hp),0<=r->r<m->bE H' s->Kp [s] H H'->Q (.int r) H'
def zj:Sp:=λvs H Q _=>∃(s:Addr) (L:Int),vs=[.ref s,.int L]/\bE H s/\1<=L/\L<=6/\
 ∀f a c b ps ws H',bE H' s->Kp [s] H H'->aS H' f a c b ps ws->H f=none->H a=none->H c=none->Q (.ref f) H'
section
variable{P:Program}{w:World}{K:PySem.W.Frag}{mg:Str->Option Value}{base:Heap}
theorem Rc:aQ ["script","k"] ["script","k"] (g_ yE):=⟨rfl,rfl,rfl,by decide +kernel,rfl,by decide +kernel,by decide +kernel⟩
theorem Re{f:Addr}{fd:FuncData}(F:aG K "_law_cell" "_law_cell" yE f fd)(T:Txt mg):ax P w K mg base aK 1 f fd ["script","k"] (zh K):=by
 refine F.ok Rc (λvs H Q E h=>?_) (λae A outer s H vs Q E hr h=>?_)
 ·obtain⟨a,ns,j,rfl,_⟩:=h;rfl
 ·obtain⟨a,ns,j,rfl,hS,hj,k⟩:=h
  refine⟨_,c_ (Z_ (v_ nW (pv 1) (dC T.len (by rfl) (pv 0)) (bO _)) (h_ (n_ (cg (pv 0) (pv 1)))) w_)
   (h_ (n_ (p_ K_ (p_ K_ (p_ fH (p_ fH f_ (pv 1)) (pv 1)) (p_ fH f_ (pv 1))) f_))),?_⟩
  refine⟨_,rfl,_,rfl,a,_,rfl,.inl hS,_,_,rfl,rfl,_,rfl,jB (λh=>?_) (λ_=>?_)⟩
  ·have h':j<ns.length:=by
    have:=of_decide_eq_true h
    rw[ZW] at this
    lia
   exact⟨_,rfl,_,rfl,a,_,_,_,rfl,rfl,hS,km (v:=V.int ns[j]) (by simp[h']),k _⟩
  ·exact⟨_,rfl,_,_,rfl,rfl,.inl ⟨by decide,by decide⟩,_,rfl,_,_,rfl,rfl,.inr ⟨by lia,by lia⟩,_,rfl,_,_,rfl,rfl,.inl ⟨by decide,by decide⟩,_,_,rfl,rfl,_,_,rfl,rfl,k _⟩
theorem zk:aQ ["cell","great"] ["cell"] (g_ yF):=⟨rfl,rfl,rfl,by decide +kernel,rfl,by decide +kernel,by decide +kernel⟩
theorem Rf{f:Addr}{fd:FuncData}(F:aG K "_law_store" "_law_store" yF f fd):ax P w K mg base aK 1 f fd ["cell"] zi:=by
 refine F.ok zk (λvs H Q E h=>?_) (λae A outer s H vs Q E hr h=>?_)
 ·obtain⟨c,rfl,_⟩:=h;rfl
 ·obtain⟨c,rfl,k⟩:=h
  refine⟨_,c_ (k_ (i:=1) zk.nd rfl (Or.inl rfl) f_)
   (c_ (Z_ (v_ Eg (pv 0) (p_ xv f_ f_) (bO _)) (h_ (k_ (i:=1) zk.nd rfl (Or.inl rfl) (pv 0))) w_)
   (h_ (n_ (A_ (a_ (pv 1) (a_ (p_ jx (pv 0) f_) (a_ f_ e_))))))),?_⟩
  refine⟨_,rfl,_,_,rfl,rfl,⟨by decide,by decide,by decide⟩,_,_,rfl,rfl,_,rfl,?_⟩
  refine GM (fun σ H'=>H=H'/\∃g:Int,σ=[some (.int c),some (.int g)]) ?_ (λhT=>⟨_,rfl,hT _ _ ⟨rfl,_,rfl⟩⟩) ⟨rfl,_,rfl⟩
  rintro σ H' ⟨rfl,g,rfl⟩
  exact⟨_,rfl,_,rfl,_,_,rfl,rfl,(by show(0:Int)<2147483629;decide),sz (by simp),λl hl=>k l _ hl (b_ hl) ⟨_,_,_,d_⟩⟩
theorem GN:aQ ["store","many","told","one"] ["store","many"] (g_ yG):=⟨rfl,rfl,rfl,by decide +kernel,rfl,by decide +kernel,by decide +kernel⟩
theorem Rg{f:Addr}{fd:FuncData}(F:aG K "_law_take" "_law_take" yG f fd):ax P w K mg base aK 1 f fd ["store","many"] F_:=by
 refine F.ok GN (λvs H Q E h=>?_) (λae A outer s H vs Q E hr h=>?_)
 ·obtain⟨s,m,rfl,_⟩:=h;rfl
 ·obtain⟨q,m,rfl,⟨g,c,j,hc⟩,m0,m1,k⟩:=h
  have nd:=GN.nd
  refine⟨_,c_ (Z_ (v_ sH (cg (pv 0) f_) f_ (bO _))
    (c_ (k_ (i:=2) nd rfl (Or.inl rfl) (p_ jx (cg (pv 0) f_) (pv 1)))
    (c_ (sv (p_ sG (cg (pv 0) f_) (pv 1)) (xm (pv 0) f_ xI))
    (h_ (n_ (pv 2))))) w_)
   (c_ (sv (p_ K_ (cg (pv 0) f_) f_) (xm (pv 0) f_ xI))
   (c_ (k_ (i:=3) nd rfl (Or.inl rfl) (p_ jx (p_ fH (p_ K_ (cg (pv 0) f_) (p_ fH f_ (cg (pv 0) f_))) f_) f_))
   (c_ (k_ (i:=3) nd rfl (Or.inl rfl) (p_ jx (p_ fH (pv 3) (pv 3)) f_))
   (c_ (k_ (i:=3) nd rfl (Or.inl rfl) (p_ jx (p_ fH (p_ K_ (pv 3) (p_ fH f_ (cg (pv 0) f_))) f_) f_))
   (h_ (n_ (p_ jx (p_ sG (pv 3) f_) (pv 1)))))))),?_⟩
  have fin:∀(c' e' j':Int) (r:Int),0<=r->r<m->Q (.int r) (upd H q (.lst [.int c',.int e',.int j'])):=λc' e' j' r r0 r1=>k r _ r0 r1 ⟨c',e',j',d_⟩ (l8 Kp.refl (.inl (by simp)))
  refine⟨_,rfl,_,_,_,_,rfl,rfl,af.of hc,rfl,⟨_,_,rfl,rfl,_,rfl,GL ?way1 ?way2⟩⟩
  case way1 =>
   refine⟨_,rfl,_,_,_,_,rfl,rfl,af.of hc,rfl,⟨_,rfl,_,_,rfl,rfl,m0,?_⟩⟩
   refine⟨_,rfl,_,_,_,_,rfl,rfl,af.of hc,rfl,⟨_,rfl,_,_,rfl,rfl,⟨m0,m1⟩,_,rfl,q,_,_,_,rfl,rfl,hc,rfl,?_⟩⟩
   exact⟨_,rfl,fin (g / m) c j (g % m) (a2s _ (by lia)) (a1X _ m0)⟩
  case way2 =>
   refine⟨_,rfl,_,_,_,_,rfl,rfl,af.of hc,rfl,⟨_,_,rfl,rfl,_,rfl,q,_,_,_,rfl,rfl,hc,rfl,?_⟩⟩
   refine⟨_,rfl,_,_,_,_,rfl,rfl,af.of d_,rfl,⟨_,rfl,_,_,_,_,rfl,rfl,af.of d_,rfl,⟨_,_,rfl,rfl,.inl ⟨by decide,by decide⟩,_,_,rfl,rfl,_,_,rfl,rfl,.inr ⟨by decide,by decide⟩,_,_,rfl,rfl,(by show(0:Int)<2147483647;decide),?_⟩⟩⟩
   refine⟨_,rfl,_,rfl,_,_,rfl,rfl,.inl ⟨by lia,by lia⟩,_,_,rfl,rfl,(by show(0:Int)<2147483629;decide),?_⟩
   refine⟨_,rfl,_,rfl,_,_,_,_,rfl,rfl,af.of d_,rfl,⟨_,_,rfl,rfl,.inl ⟨by decide,by decide⟩,_,_,rfl,rfl,_,_,rfl,rfl,.inr ⟨by decide,by decide⟩,_,_,rfl,rfl,(by show(0:Int)<2147483587;decide),?_⟩⟩
   refine⟨_,rfl,_,_,rfl,rfl,⟨by decide,by decide⟩,_,rfl,_,_,rfl,rfl,m0,?_⟩
   exact fin g c (j+1) _ (a2s _ (by lia)) (a1X _ m0)
theorem GO:aQ ["store","longest","base","parts","way","one","weights","k","any_one","some"] ["store","longest"] (g_ ue):=⟨rfl,rfl,rfl,by decide +kernel,rfl,by decide +kernel,by decide +kernel⟩
theorem Rh{f:Addr}{fd:FuncData}(F:aG K "_law_frame" "_law_frame" ue f fd)(T:Txt mg)(D1:ak P w K mg base 1 "_law_take" ["store","many"] F_):ax P w K mg base aK 2 f fd ["store","longest"] zj:=by
 refine F.ok GO (λvs H Q E h=>?_) (λae A outer s H vs Q E hr h=>?_)
 ·obtain⟨d,L,rfl,_⟩:=h;rfl
 ·obtain⟨d,L,rfl,D,L1,L6,k⟩:=h
  have nd:=GO.nd
  refine⟨_,c_ (k_ (i:=2) nd rfl (Or.inl rfl) (cg (A_ (a_ f_ (a_ f_ (a_ f_ (a_ f_ (a_ (p_ K_ f_ (o_ D1 hr (by rfl) (a_ (pv 0) (a_ f_ e_)))) e_)))))) (o_ D1 hr (by rfl) (a_ (pv 0) (a_ f_ e_)))))
   (c_ (tD (g_ ue) ["store","longest","base","parts","way","one","weights","k","any_one","some"] ["store","longest"] [0,1] (i:=3) nd rfl (Or.inl rfl) rfl
    (M_ (by rfl) T.range (a_ (cg (A_ (a_ f_ (a_ f_ (a_ f_ (a_ f_ e_))))) (o_ D1 hr (by rfl) (a_ (pv 0) (a_ f_ e_)))) e_))
    (λcl C s H fp=>fZ) (λcl C s H fp=>p_ K_ f_ (o_ D1 hr (by rfl) (a_ (pv 1) (a_ (pv 2) e_)))) (by decide +kernel) (by rfl))
   (c_ (Z_ (v_ iS (o_ D1 hr (by rfl) (a_ (pv 0) (a_ f_ e_))) f_ (bO _)) (h_ (k_ (i:=3) nd rfl (Or.inl rfl) (p_ sV (kj lT (pv 3) nZ (gQ f_)) (dC T.len (by rfl) (pv 3))))) w_)
   (c_ (k_ (i:=4) nd rfl (Or.inl rfl) (o_ D1 hr (by rfl) (a_ (pv 0) (a_ f_ e_))))
   (c_ (k_ (i:=5) nd rfl (Or.inl rfl) (p_ fF (o_ D1 hr (by rfl) (a_ (pv 0) (a_ f_ e_))) f_))
   (c_ (k_ (i:=6) nd rfl (Or.inl rfl) (A_ e_))
   (c_ (Y_ PassesOwn.never rfl (M_ (by rfl) T.range (a_ (r_ (x6 rfl) (by rfl) T.sum boot_sum (a_ (pv 3) e_)) e_)) (q_ (i:=7) nd rfl (Or.inl rfl))
    (c_ (k_ (i:=8) nd rfl (Or.inl rfl) (p_ fF (o_ D1 hr (by rfl) (a_ (pv 0) (a_ f_ e_))) f_))
    (c_ (k_ (i:=9) nd rfl (Or.inl rfl) (A_ (a_ f_ (a_ (pv 5) (a_ (p_ jx (pv 8) f_) (a_ (pv 8)
      (a_ (p_ fH (pv 8) (lS MR (by rfl) T.int boot_int (a_ (sI iS (o_ D1 hr (by rfl) (a_ (pv 0) (a_ f_ e_))) f_ (bO _)) e_)))
      (a_ (p_ K_ (p_ jx (pv 7) (cg (pv 3) f_)) f_) e_))))))))
    (h_ (C_ (kn PySem.F.plainAttrs_list PySem.F.slot_list_append PySem.F.type_list_append ko (pv 6) (a_ (cg (pv 9) (pv 4)) e_)))))))
   (h_ (n_ (dJ (a_ (pv 2) (a_ (pv 3) (a_ (pv 6) e_)))))))))))),?_⟩
  refine⟨_,rfl,d,15,rfl,D,by decide,by decide,λr1 H1 a1 b1 E1 k1=>⟨_,_,rfl,rfl,sz (by simp),λl1 cX=>?_⟩⟩
  refine⟨_,rfl,d,5,rfl,E1.keep (b_ cX),by decide,by decide,λr2 H2 a2 b2 E2 k2=>?_⟩
  obtain⟨bi,eb,hb⟩:=zg (ns:=[2,3,10,16,2+r1]) (Pr:=λn=>2<=n/\n<=16) a2 b2 (by simp;lia)
  obtain⟨b,rfl⟩:∃b:Nat,bi=b:=⟨bi.toNat,by lia⟩
  refine eY (k2 l1 _ d_ (E1.cc cX)) eb ?_
  have K2:Kp [d] H H2:=k1.trans ((Kp.of (b_ cX)).trans k2)
  refine⟨sz (by simp),λl3 cQ=>⟨_,rfl,d,4,rfl,E2.keep (b_ cQ),by decide,by decide,λr5 H5 a5 b5 E5 k5=>?_⟩⟩
  obtain⟨np,en,Zh⟩:=zg (ns:=[2,2,3,4]) (Pr:=λn=>2<=n/\n<=4) a5 b5 (by simp)
  have K5:Kp [d] H H5:=K2.trans ((Kp.of (b_ cQ)).trans k5)
  refine eY (k5 l3 _ d_ (E2.cc cQ)) en ⟨_,rfl,by lia,by lia,qo (lo:=0) (n:=np.toNat) (λi ys H6=>∃ps:List Nat,ys=ay ps/\ps.length=i/\(∀x∈ps,1<=x/\x<=6)/\bE H6 d/\Kp [d] H H6)
   ⟨[],rfl,rfl,λx hx=>by simp at hx,E5,K5⟩ ?_ ?_⟩
  ·rintro i ys H6 hi ⟨ps,rfl,hl,hp,E6,K6⟩
   refine⟨cq (by simp[ay];lia),?_⟩
   refine⟨_,rfl,_,rfl,d,L,rfl,E6,by lia,by lia,λr H7 a7 b7 E7 k7=>⟨_,_,rfl,rfl,ps++[(1+r).toNat],?_,by simp[hl],λx hx=>?_,E7,K6.trans k7⟩⟩
   ·have e:(((1+r).toNat:Nat):Int)=1+r:=by lia
    simp[ay]
    lia
   ·rcases a0s.mp hx with hx | hx
    ·exact hp x hx
    ·have:x=(1+r).toNat:=by simpa using hx
     lia
  rintro ys H6 ⟨ps,rfl,hl,hp,E6,K6⟩ a ha
  have zl:a∉[d]:=E6.cc ha
  refine⟨_,rfl,d,3,rfl,E6.keep (b_ ha),by decide,by decide,λr6 H7 a6 b6 E7 k7=>⟨rfl,_,rfl,?_⟩⟩
  have K7:Kp [d] H H7:=K6.trans ((Kp.of (b_ ha)).trans k7)
  have h7:H7 a=some (.lst (ay ps)):=k7 a _ d_ zl
  refine GM (fun σ H'=>∃(a':Addr) (dk:List Nat),σ=[some (.ref d),some (.int L),some (.int b),some (.ref a'),none,none,none,none,none,none]/\bE H' d/\Kp [d] H H'/\H' a'=some (.lst (ay dk))/\a'∉[d]/\
   H a'=none/\2<=dk.length/\dk.length<=4/\∀x∈dk,1<=x/\x<=6) ?tail (λhT=>?au) ⟨a,ps,rfl,E7,K7,h7,zl,K6.free ha zl,by lia,by lia,hp⟩
  case au =>
   refine⟨_,rfl,_,rfl,a,_,rfl,af.of h7,λl5 Ri=>?_⟩
   have s5:ag H7 (upd H7 l5 (.lst (cU (ay ps) none (some 1)))):=b_ Ri
   obtain⟨x0,rr,ee⟩:∃x0 rr,ps=x0::rr:=by
    cases ps with
    | nil=>simp at hl;lia
    | cons x0 rr=>exact⟨x0,rr,rfl⟩
   have ec:cU (ay ps) none (some 1)=[V.int (x0:Int)]:=by
    rw[show(1:Int)=((1:Nat):Int) from rfl,uO,ee]
    rfl
   refine⟨_,rfl,a,_,rfl,.inl (af.of (s5 _ _ h7)),l5,_,_,rfl,rfl,d_,by lia,?_,?_,λl6 jd=>hT _ _ ⟨l6,List.replicate ps.length x0,rfl,?_,?_,?_,?_,K7.free (s5.free jd) ((E7.keep s5).cc jd),by simp;lia,by simp;lia,λx hx=>?_⟩⟩
   ·simp[ay];lia
   ·rw[ec];exact sz (by simp[ay];lia)
   ·exact(E7.keep s5).keep (b_ jd)
   ·exact K7.same (s5.trans (b_ jd))
   ·rw[d_,ec]
    simp only[ay,ZW,Int.toNat_natCast]
    rw[Q9]
   ·exact(E7.keep s5).cc jd
   ·have:=List.eq_of_mem_replicate hx
    rw[this]
    exact hp x0 (by rw[ee];simp)
  case tail =>
   rintro σ H8 ⟨a',dk,rfl,E8,K8,h8,n8,f8,GP,Rj,uP⟩
   have qI:=Ma.ye dk uP
   obtain⟨p0,pr,ep⟩:∃x0 rr,dk=x0::rr:=by
    cases dk with
    | nil=>simp at GP
    | cons x0 rr=>exact⟨x0,rr,rfl⟩
   have uQ:=uP p0 (by rw[ep];simp)
   have Rk:dQ (ay dk) 0=some (.int (p0:Int)):=by rw[ep];exact km (j:=0) (by simp[ay])
   refine⟨_,rfl,d,6,rfl,E8,by decide,by decide,λwv H9 w0 w1 E9 k9=>⟨_,rfl,d,19,rfl,E9,by decide,by decide,λov uR o0 o1 zm GQ=>⟨_,_,rfl,rfl,sz (by decide),λl hl=>?_⟩⟩⟩
   have h9:uR a'=some (.lst (ay dk)):=GQ a' _ (k9 a' _ h8 n8) n8
   have s9:ag uR (upd uR l (.lst [])):=b_ hl
   have nl:l∉[d]:=zm.cc hl
   have Rl:l≠d:=zm.off hl
   have al:a'≠l:=l_ h9 hl
   have K9:Kp [d] H uR:=(K8.trans k9).trans GQ
   refine⟨_,rfl,a',dk.map λ(p:Nat)=>(p:Int),rfl,af.of (by rw[<-tO];exact s9 _ _ h9),⟨by rw[ZW];lia,Ra uP⟩,_,rfl,?_⟩
   rw[Ma.tI]
   refine⟨by lia,by lia,?_⟩
   have Rm:(((dk.sum:Nat):Int)).toNat=dk.sum:=by lia
   rw[Rm]
   refine iR (n:=dk.sum) (λi σ H6=>∃(ws:List Int) (v7 v8 v9:Option V),σ=[some (.ref d),some (.int L),some (.int b),some (.ref a'),some (.int wv),some (.int (ov-9)),some (.ref l),v7,v8,v9]/\bE H6 d/\Kp [d] H H6/\H6 a'=some (.lst (ay dk))/\
    H6 l=some (.lst (ws.map V.int))/\ws.length=i/\∀x∈ws,-9<=x/\x<=9) ⟨[],none,none,none,rfl,zm.keep s9,K9.same s9,s9 _ _ h9,d_,rfl,λx hx=>by simp at hx⟩ ?_ ?_
   ·rintro i σ qU hi ⟨ws,v7,v8,v9,rfl,kN,mD,zn,zo,zp,zq⟩
    refine⟨_,rfl,d,19,rfl,kN,by decide,by decide,λav G1 x1 y1 F1 j1=>⟨_,_,rfl,rfl,?_⟩⟩
    refine⟨_,rfl,_,rfl,_,_,rfl,rfl,(by show(0:Int)<3;decide),_,rfl,_,rfl,_,rfl,d,4,rfl,F1,by decide,by decide,λr3 G3 x3 y3 F3 j3=>?_⟩
    have J3:Kp [d] qU G3:=j1.trans j3
    have la:G3 a'=some (.lst (ay dk)):=J3 a' _ zn n8
    have ll:G3 l=some (.lst (ws.map V.int)):=J3 l _ zo nl
    refine⟨rfl,.inr ⟨_,rfl,_,_,rfl,rfl,Rb _,?_⟩⟩
    refine⟨_,rfl,_,rfl,_,_,_,_,rfl,rfl,af.of la,Rk,⟨_,_,rfl,rfl,(by show(0:Int)<p0;lia),_,_,rfl,rfl,sz (by simp),λm hm=>?_⟩⟩
    have nm:m≠d:=F3.off hm
    have q1:=a2s (0+(i:Int)) (show(p0:Int)≠0 by lia)
    have q2:=a1X (0+(i:Int)) (show(0:Int)<p0 by lia)
    have q3:=a2s (av-9) (show(3:Int)≠0 by decide)
    have q4:=a1X (av-9) (show(0:Int)<3 by decide)
    obtain⟨x,ev,hx⟩:=zg (ns:=[1,ov-9,(av-9) % 3,av-9,(av-9)*(if (decide (V.int r3=V.int 0))=true then 1 else 0),(0+(i:Int)) % (p0:Int)+1]) (i:=wv) (Pr:=λn => -9<=n/\n<=9) w0 w1 (by
     intro n hn
     simp only[ZZ,a0l,or_false] at hn
     rcases hn with rfl | rfl | rfl | rfl | rfl | rfl
     ·decide
     ·lia
     ·lia
     ·lia
     ·split <;> lia
     ·lia)
    refine⟨_,rfl,.inl ⟨rfl,_,af.of ((b_ hm) _ _ ll)⟩,_,rfl,_,rfl,_,_,_,_,rfl,rfl,af.of d_,ev,⟨l,_,_,rfl,rfl,(b_ hm) _ _ ll,cq (by rw[ZW];lia),ws++[x],_,_,_,rfl,?_,?_,?_,?_,by simp[zp],λy hy=>?_⟩⟩
    ·exact(F3.keep (b_ hm)).upd Rl
    ·exact l8 ((mD.trans J3).same (b_ hm)) (.inr (K9.free hl nl))
    ·rw[i_ al];exact(b_ hm) _ _ la
    ·rw[d_];simp
    ·rcases a0s.mp hy with hy | hy
     ·exact zq y hy
     ·have:y=x:=by simpa using hy
      rw[this];exact hx
   ·rintro σ H6 ⟨ws,v7,v8,v9,rfl,kN,mD,zn,zo,zp,zq⟩
    refine⟨_,rfl,_,rfl,_,rfl,sz (by simp),λf' jK=>?_⟩
    have sf:ag H6 (upd H6 f' (.tup [.int b,.ref a',.ref l])):=b_ jK
    exact k f' a' l b dk ws _ (kN.keep sf) (mD.same sf) ⟨d_,sf _ _ zn,sf _ _ zo,⟨by lia,by lia,GP,Rj,uP,zp,zq⟩⟩ (mD.free jK (kN.cc jK)) f8 (K9.free hl nl)
end
theorem boot_dict:bootBuiltins "dict"=some (.type "dict"):=PyProof.Rows.boot_dict
theorem boot_sorted:bootBuiltins "sorted"=some (.builtin "sorted"):=PyProof.Rows.boot_sorted
theorem zr{f:List (Int×Int)}{i:Nat}{k:aE}{v:V}(h:(aJ f)[i]?=some (k,v)):∃p:Int×Int,f[i]?=some p/\k=Sum.inl p.1/\v=.int p.2:=by
 rw[aJ,Z2] at h
 cases e:f[i]? with
 | none=>rw[e] at h;cases h
 | some p =>
  rw[e] at h
  have z:=Z6 h
  exact⟨p,rfl,(congrArg Prod.fst z).symm,(congrArg Prod.snd z).symm⟩
theorem mE{H:Hp}{a:Addr}{f:List (Int×Int)}{k:Int}(h:Rd H a (.dK (aJ f))):mh H a (.int k) ((Me.look f k).map V.int):=.inl ⟨aJ f,Sum.inl k,h,rfl,(Q4 f k).symm⟩
theorem uS(o:Option Int):(o.map V.int).getD (.int 0)=.int (o.getD 0):=by cases o <;> rfl
theorem zt{H:Hp}{a:Addr}{f:List (Int×Int)}{k v:Int}(h:H a=some (.dK (aJ f)))(hl:f.length<=100000):oy H a (.int k) (.int v) (upd H a (.dK (aJ (Me.put f k v)))):=by
 rw[<-GH]
 exact oy.k (k:=Sum.inl k) h (cq (by rw[aJ,ZW];lia))
def zu:Sp:=λvs H Q _=>∃(a:Addr) (f:List (Int×Int)) (b:Nat) (w:Int) (m:Nat),vs=[.ref a,.int b,.int w]/\H a=some (.dK (aJ f))/\Me.Ok f m/\m<=1000/\b<=16/\(-9<=w/\w<=9)/\
 ∀p H',H p=none->ag H H'->H' p=some (.dK (aJ (Me.fc f b w)))->Q (.ref p) H'
section
variable{P:Program}{w:World}{K:PySem.W.Frag}{mg:Str->Option Value}{base:Heap}
theorem GR:aQ ["ways","base","weight","longer","total","figure","reached"] ["ways","base","weight"] (g_ yr):=⟨rfl,rfl,rfl,by decide +kernel,rfl,by decide +kernel,by decide +kernel⟩
theorem Rn{f:Addr}{fd:FuncData}(F:aG K "with_one_more_figure" "with_one_more_figure" yr f fd)(T:Txt mg):ax P w K mg base aK 1 f fd ["ways","base","weight"] zu:=by
 refine F.ok GR (λvs H Q E h=>?_) (λae A outer s H vs Q E hr h=>?_)
 ·obtain⟨a,f,b,wt,m,rfl,_⟩:=h;rfl
 ·obtain⟨a,f,b,wt,m,rfl,ha,ok,hm,hb,hw,k⟩:=h
  have nd:=GR.nd
  have hu:=oh hr
  refine⟨_,c_ (k_ (i:=3) nd rfl (Or.inl rfl) mj)
   (c_ (Y_ PassesOwn.never rfl (za (pv 0)) (q_ (i:=4) nd rfl (Or.inl rfl))
    (h_ (Y_ PassesOwn.never rfl (M_ (by rfl) T.range (a_ (pv 1) e_)) (q_ (i:=5) nd rfl (Or.inl rfl))
     (c_ (k_ (i:=6) nd rfl (Or.inl rfl) (p_ K_ (pv 4) (p_ fH (pv 5) (pv 2))))
     (h_ (yU hu (pv 3) (pv 6) (p_ K_ (ur hu (pv 3) (pv 6) f_ ⟨rfl,rfl,rfl,rfl⟩) (yT hu (pv 0) (pv 4) (λ_ _=>rfl))) rfl))))))
   (y' (h_ (n_ (pv 3))))),?_⟩
  intro l hl
  have uT:a≠l:=l_ ha hl
  refine⟨_,rfl,a,aJ f,rfl,(by rw[i_ uT];exact ha),λo=>zb (λi σ H2=>∃v4 v5 v6,σ=[some (.ref a),some (.int b),some (.int wt),some (.ref l),v4,v5,v6]/\H2 a=some (.ce o (.dK (aJ f)))/\Kp [a] H H2/\H2 l=some (.dK (aJ (Me.fc (f.take i) b wt))))
   ⟨none,none,none,rfl,d_,l8 (l8 Kp.refl (.inr hl)) (.inl (by simp)),?_⟩ (λi σ H2 _ h=>by obtain⟨_,_,_,_,z,_⟩:=h;exact z) ?_ ?_⟩
  ·rw[i_ uT.symm,d_];rfl
  ·rintro i kk v σ H2 hk ⟨v4,v5,v6,rfl,fa,kp,bM⟩
   obtain⟨p,hp,rfl,rfl⟩:=zr hk
   have pm:=Z1 hp
   have pb:=ok.bd p.1 (a0a.mpr ⟨p,pm,rfl⟩)
   have o0:=Me.uJ ok hw hb i
   refine⟨_,rfl,_,rfl,by lia,by lia,iR (n:=(b:Int).toNat) (λd σ H3=>∃v5 v6,σ=[some (.ref a),some (.int b),some (.int wt),some (.ref l),some (.int p.1),v5,v6]/\H3 a=some (.ce o (.dK (aJ f)))/\Kp [a] H H3/\H3 l=some (.dK (aJ (Me.du p wt d (Me.fc (f.take i) b wt)))))
    ⟨v5,v6,rfl,fa,kp,bM⟩ ?_ ?_⟩
   ·rintro d σ H3 hd ⟨v5,v6,rfl,uU,zw,cQ⟩
    have fD:d<b:=by lia
    have od:=Me.zf pb hw hb o0 d (by lia)
    have b9:=Me.Ok.len (m:=m+135) (by push_cast;exact od)
    refine⟨_,rfl,_,rfl,_,rfl,_,_,rfl,rfl,.inr ⟨by lia,by lia⟩,_,_,rfl,rfl,?_⟩
    refine⟨_,rfl,l,rfl,.inl ⟨_,.inl cQ⟩,_,rfl,_,mE (.inl cQ),_,rfl,_,rfl,a,.int p.2,rfl,?_,_,_,uS _,rfl,_,rfl,_,rfl,l,_,rfl,zt cQ (by lia),?_⟩
    ·have z:=mE (k:=p.1) (.inr ⟨o,uU⟩)
     rw[Me.mz ok.nd pm] at z
     exact z
    ·refine⟨_,_,rfl,?_,l8 zw (.inr hl),?_⟩
     ·rw[i_ uT];exact uU
     ·rw[d_,Me.kM]
      have e0:(0:Int)+(d:Int)=(d:Int):=a1t _
      rw[e0]
      rfl
   ·rintro σ H3 ⟨v5,v6,rfl,uU,zw,cQ⟩
    refine⟨_,_,_,rfl,uU,zw,?_⟩
    have eb:(b:Int).toNat=b:=by lia
    rw[eb] at cQ
    rw[Me.Gu hp]
    exact cQ
  ·rintro σ H2 ⟨v4,v5,v6,rfl,fa,kp,bM⟩
   have el:(aJ f).length=f.length:=by rw[aJ,ZW]
   rw[el,a0e] at bM
   refine⟨a,o,aJ f,fa,(λo' u z=>by
    have z':H a=some (.ce o' u):=z
    rw[ha] at z';cases z'),_,rfl,k l _ hl (λx ob e=>?_) (by rw[i_ uT.symm];exact bM)⟩
   by_cases hx:x=a
   ·rw[hx,d_,<-ha,<-hx];exact e
   ·rw[i_ hx];exact kp x ob e (by simpa using hx)
end
theorem GS{H H':Hp}(s:ag H H'){ts:List Addr}{kvs:List (aE×V)}(h:mC H ts kvs):mC H' ts kvs:=Paired.iM h λ_ _ e=>s _ _ e
theorem Ro{H:Hp}{t:Addr}{p:aE×V}(h:H t=some (.tup [kV p.1,p.2])){ts:List Addr}{kvs:List (aE×V)}(q:mC H ts kvs):mC H (ts++[t]) (kvs++[p]):=by
 induction q with
 | nil=>exact .cons h .nil
 | cons h0 _ ih=>exact .cons h0 ih
def uV:Sp:=λvs H Q _=>∃(b:Nat) (r:Addr) (ws:List Int),vs=[.int b,.ref r]/\H r=some (.lst (ws.map V.int))/\b<=16/\(∀x∈ws,-9<=x/\x<=9)/\ws.length<=6/\
 ∀p H' g,H p=none->ag H H'->H' p=some (.dK (aJ g))->g.Perm (Me.aW b ws)->Q (.ref p) H'
theorem GT{b i:Nat}{ws:List Int}(hw:∀x∈ws,-9<=x/\x<=9)(hb:b<=16):Me.Ok (Me.aW b (ws.take i)) ((135*i:Nat):Int):=by
 have h:=Me.uK hw hb i
 push_cast
 exact h
section
variable{P:Program}{w:World}{K:PySem.W.Frag}{mg:Str->Option Value}{base:Heap}
theorem GU:aQ ["base","weights","ways","weight"] ["base","weights"] (g_ tS):=⟨rfl,rfl,rfl,by decide +kernel,rfl,by decide +kernel,by decide +kernel⟩
theorem Rp{f:Addr}{fd:FuncData}(F:aG K "ways_of_weights" "ways_of_weights" tS f fd)(T:Txt mg)(mF:mg "dict"=none)(mG:mg "sorted"=none)(DO:ak P w K mg base 1 "with_one_more_figure" ["ways","base","weight"] zu) :
  ax P w K mg base aK 2 f fd ["base","weights"] uV:=by
 refine F.ok GU (λvs H Q E h=>?_) (λae A outer s H vs Q E hr h=>?_)
 ·obtain⟨b,r,ws,rfl,_⟩:=h;rfl
 ·obtain⟨b,r,ws,rfl,bU,hb,hw,b9,k⟩:=h
  have nd:=GU.nd
  have hu:=oh hr
  refine⟨_,c_ (k_ (i:=2) nd rfl (Or.inr rfl) (Pm (Pk f_ f_ Pj) rfl rfl (by simp) (by decide)))
   (c_ (Y_ PassesOwn.never rfl (S_ (pv 1)) (q_ (i:=3) nd rfl (Or.inl rfl)) (h_ (k_ (i:=2) nd rfl (Or.inr rfl) (o_ DO hr (by rfl) (a_ (pv 2) (a_ (pv 0) (a_ (pv 3) e_)))))))
   (h_ (n_ (lS (Q3 rfl) (by rfl) mF boot_dict (a_ (iW (g_ tS) ["base","weights","ways","weight"] ["ways"] [2] rfl (S_ (r_ (QK rfl) (by rfl) mG boot_sorted (a_ (pv 2) e_)))
    (λcl C s H fp=>fZ) (λcl C s H fp=>dJ (a_ (pv 0) (a_ (yT hu (pv 1) (pv 0) (λ_ _=>rfl)) e_))) (by decide +kernel)) e_))))),?_⟩
  intro p0 uQ
  refine⟨d_,[(Sum.inl 0,.int 1)],rfl,by decide,?_⟩
  have s0:ag H (upd (upd H p0 (.dK [])) p0 (.dK (gr [] [(Sum.inl 0,V.int 1)]))):=iY (b_ uQ) uQ
  have u0:(upd (upd H p0 (.dK [])) p0 (.dK (gr [] [(Sum.inl 0,V.int 1)]))) p0=some (.dK (aJ [(0,1)])):=d_
  generalize upd (upd H p0 (.dK [])) p0 (.dK (gr [] [(Sum.inl 0,V.int 1)]))=H0 at s0 u0⊢
  refine⟨_,rfl,r,rfl,⟨_,af.of (s0 _ _ bU)⟩,kf (K:=K) (a:=r) (xs:=ws.map V.int) (λi σ H2=>∃p v3,σ=[some (.int b),some (.ref r),some (.ref p),v3]/\ag H H2/\H p=none/\H2 p=some (.dK (aJ (Me.aW b (ws.take i)))))
   ⟨p0,none,rfl,s0,uQ,u0⟩ (λi σ H2 _ h=>by obtain⟨_,_,_,s2,_⟩:=h;exact af.of (s2 _ _ bU)) ?_ ?_⟩
  ·rintro i x σ H2 hx ⟨p,v3,rfl,s2,np,hp⟩
   have mn:i<ws.length:=by have:=(ZX.mp hx).1;simpa using this
   obtain⟨y,hy,rfl⟩:∃y:Int,ws[i]?=some y/\x=.int y:=by
    rw[Z2] at hx
    cases e:ws[i]? with
    | none=>rw[e] at hx;cases hx
    | some d=>rw[e] at hx;exact⟨d,rfl,(Z6 hx).symm⟩
   refine⟨_,rfl,_,rfl,_,rfl,p,_,b,y,135*i,rfl,hp,GT hw hb,by lia,hb,hw y (Z1 hy),λp' H3 Rq s3 je=>⟨p',_,rfl,s2.trans s3,s2.free Rq,?_⟩⟩
   rw[Me.Gv hy]
   exact je
  rintro σ H2 ⟨p,v3,rfl,s2,np,hp⟩
  have oW:Me.Ok (Me.aW b ws) ((135*ws.length:Nat):Int):=by
   have:=GT (i:=ws.length) hw hb
   rwa [a0e] at this
  rw[ZW,a0e] at hp
  have Rr:=oW.len
  generalize Me.aW b ws=W at hp oW Rr k
  refine⟨_,rfl,p,aJ W,Me.keys W,rfl,.inl hp,by simp[aJ,Me.keys],λl bR hl zx=>?_⟩
  have s3:=b_ (o:=.lst (bR.map V.int)) hl
  have u3:(upd H2 l (.lst (bR.map V.int))) l=some (.lst (bR.map V.int)):=d_
  generalize upd H2 l (.lst (bR.map V.int))=H3 at s3 u3⊢
  have je:=s3 _ _ hp
  have Zi:bR.length=W.length:=by rw[zx.length_eq];simp[Me.keys]
  refine⟨l,rfl,⟨_,af.of u3⟩,iX (K:=K) (a:=l) (xs:=bR.map V.int) (λi ys H'=>∃ts,ys=ts.map V.ref/\ts.length=i/\ag H3 H'/\mC H' ts (aJ ((bR.take i).map λn=>(n,(Me.look W n).getD 0))))
   ⟨[],rfl,rfl,ag.refl _,.nil⟩ (λi ys H' _ h=>by obtain⟨_,_,_,s',_⟩:=h;exact af.of (s' _ _ u3)) ?_ ?_⟩
  ·rintro i x ys H' hx ⟨ts,rfl,ci,s',pa⟩
   have mn:i<bR.length:=by have:=(ZX.mp hx).1;simpa using this
   obtain⟨n,hn,rfl⟩:∃n:Int,bR[i]?=some n/\x=.int n:=by
    rw[Z2] at hx
    cases e:bR[i]? with
    | none=>rw[e] at hx;cases hx
    | some d=>rw[e] at hx;exact⟨d,rfl,(Z6 hx).symm⟩
   obtain⟨q,hq,eq⟩:=a0a.mp (zx.mem_iff.mp (Z1 hn))
   have GV:Me.look W n=some q.2:=by rw[<-eq];exact Me.mz oW.nd hq
   refine⟨cq (by rw[ZW];lia),_,rfl,_,rfl,_,rfl,p,.int q.2,rfl,?_,sz (by simp),λt ht=>⟨ts++[t],by simp,by simp[ci],s'.trans (b_ ht),?_⟩⟩
   ·have z:=mE (k:=n) (.inl (s' _ _ je))
    rw[GV] at z
    exact z
   ·rw[Z8,hn]
    have e2:aJ ((bR.take i++(some n).toList).map λn=>(n,(Me.look W n).getD 0))=aJ ((bR.take i).map λn=>(n,(Me.look W n).getD 0))++[(Sum.inl n,V.int q.2)]:=by
     simp[aJ,GV]
    rw[e2]
    exact Ro (p:=(Sum.inl n,V.int q.2)) d_ (GS (b_ ht) pa)
  rintro ys H' ⟨ts,rfl,ci,s',pa⟩ l2 bM
  rw[ZW,a0e] at pa
  have hg:=Me.Q2 oW.nd zx
  have Rs:(Me.keys (bR.map λn=>(n,(Me.look W n).getD 0))).Nodup:=(hg.map Prod.fst).nodup_iff.mpr oW.nd
  refine⟨l2,ts,_,rfl,d_,GS (b_ bM) pa,λq hq=>?_⟩
  have em:gr [] (aJ (bR.map λn=>(n,(Me.look W n).getD 0)))=aJ (bR.map λn=>(n,(Me.look W n).getD 0)):=by
   have z:=GI (bR.map λn=>(n,(Me.look W n).getD 0)) []
   rw[Me.GF _ [] (by simpa using Rs)] at z
   exact z
  rw[em]
  have S:=s2.trans (s3.trans (s'.trans (b_ (o:=.lst (ts.map V.ref)) bM)))
  exact k q _ _ (S.free hq) (S.trans (b_ hq)) d_ hg
end
end Hv
namespace Me
abbrev cL(f:List (Int×Int)):Int:=(f.map (·.2)).sum
theorem Rt{f:List (Int×Int)}{k v:Int}(h:k∉keys f):(f.map λp=>if p.1=k then (p.1,v) else p)=f:=by
 induction f with
 | nil=>rfl
 | cons p f ih =>
  have h1:p.1≠k:=λz=>h (by simp[keys,z])
  have h2:k∉keys f:=λz=>h (Z5 _ z)
  rw[a0f,ih h2,if_neg h1]
theorem Ru{f:List (Int×Int)}{a x v:Int}(h:a∉keys f):put ((a,x)::f) a v=(a,v)::f:=by
 unfold put
 rw[if_pos (by simp),a0f,Rt h,if_pos rfl]
theorem Rv{f:List (Int×Int)}{a x k v:Int}(h:a≠k):put ((a,x)::f) k v=(a,x)::put f k v:=by
 unfold put
 have e:(((a,x)::f).any λp=>decide (p.1=k))=f.any λp=>decide (p.1=k):=by
  rw[a2I]
  simp[h]
 rw[e]
 split
 ·rw[a0f,if_neg h]
 ·rfl
theorem oH{f:List (Int×Int)}{a x:Int}:look ((a,x)::f) a=some x:=by simp[look]
theorem oJ{f:List (Int×Int)}{a x k:Int}(h:a≠k):look ((a,x)::f) k=look f k:=by simp[look,h]
theorem uW{f:List (Int×Int)}{a x n:Int}(h:a∉keys f):dD ((a,x)::f) a n=(a,x+n)::f:=by
 unfold dD
 rw[oH,Ru h]
 rfl
theorem uX{f:List (Int×Int)}{a x k n:Int}(h:a≠k):dD ((a,x)::f) k n=(a,x)::dD f k n:=by
 unfold dD
 rw[oJ h,Rv h]
theorem GW{k n:Int}:∀ {f:List (Int×Int)},(keys f).Nodup->cL (dD f k n)=cL f+n
 | [],_=>by simp[dD,put,look,cL]
 | (a,x)::f,nd=>by
  have jL:a∉keys f:=(a0n.mp nd).1
  have dW:(keys f).Nodup:=(a0n.mp nd).2
  by_cases e:a=k
  ·subst e
   rw[uW jL]
   simp only[cL,a0f,a0r]
   lia
  ·have ih:=GW (k:=k) (n:=n) dW
   rw[uX e]
   simp only[cL,a0f,a0r] at ih⊢
   lia
theorem GX{k n:Int}(hn:0<=n):∀ {f:List (Int×Int)},(keys f).Nodup->(∀p∈f,0<=p.2)->∀p∈dD f k n,0<=p.2
 | [],_,_=>by
  intro p hp
  have:p=(k,0+n):=by simpa [dD,put,look] using hp
  rw[this]
  show 0<=0+n
  lia
 | (a,x)::f,nd,h=>by
  have jL:a∉keys f:=(a0n.mp nd).1
  have dW:(keys f).Nodup:=(a0n.mp nd).2
  have hx:0<=x:=h (a,x) (by simp)
  have hf:∀p∈f,0<=p.2:=λp hp=>h p (by simp[hp])
  by_cases e:a=k
  ·subst e
   rw[uW jL]
   intro p hp
   rcases ZZ.mp hp with rfl | hp
   ·show 0<=x+n
    lia
   ·exact hf p hp
  ·rw[uX e]
   intro p hp
   rcases ZZ.mp hp with rfl | hp
   ·exact hx
   ·exact GX hn dW hf p hp
theorem GY{f:List (Int×Int)}{k n:Int}(nd:(keys f).Nodup):(keys (dD f k n)).Nodup:=GA nd
structure Tw(f:List (Int×Int))(t:Int):Prop where
 nd:(keys f).Nodup
 nn:∀p∈f,0<=p.2
 tt:cL f=t
theorem Tw.add{f:List (Int×Int)}{t k n:Int}(o:Tw f t)(hn:0<=n):Tw (dD f k n) (t+n):=⟨GY o.nd,GX hn o.nd o.nn,by rw[GW o.nd,o.tt]⟩
theorem Tw.du{f:List (Int×Int)}{t w:Int}{p:Int×Int}(o:Tw f t)(hp:0<=p.2):∀n:Nat,Tw (du p w n f) (t+n*p.2)
 | 0=>by
  have e:t+((0:Nat):Int)*p.2=t:=by simp
  rw[e];exact o
 | n+1=>by
  have e:t+((n+1:Nat):Int)*p.2=(t+n*p.2)+p.2:=by push_cast;rw[a2F];lia
  rw[kM,e]
  exact(Tw.du o hp n).add hp
theorem Tw.more{b:Nat}{w:Int}:∀ {f:List (Int×Int)} {acc:List (Int×Int)} {t:Int},Tw acc t->(∀p∈f,0<=p.2)->Tw (f.foldl (λacc p=>Me.du p w b acc) acc) (t+b*cL f)
 | [],acc,t,o,_=>by
  have e:t+(b:Int)*cL []=t:=by simp[cL]
  rw[e];exact o
 | p::f,acc,t,o,h=>by
  have e:t+(b:Int)*cL (p::f)=(t+b*p.2)+b*cL f:=by
   simp only[cL,a0f,a0r]
   rw[a2U];lia
  rw[e,a0d]
  exact Tw.more (o.du (h p (by simp)) b) (λq hq=>h q (by simp[hq]))
theorem Tw.one{f:List (Int×Int)}{t w:Int}{b:Nat}(o:Tw f t):Tw (fc f b w) (b*t):=by
 have z:Tw [] 0:=⟨by simp[keys],λp hp=>by simp at hp,rfl⟩
 have h:=Tw.more (b:=b) (w:=w) z o.nn
 rw[o.tt] at h
 have e:(0:Int)+b*t=b*t:=by lia
 rw[e] at h
 exact h
theorem GZ(b:Nat):∀(ws:List Int) (f:List (Int×Int)) (t:Int),Tw f t->Tw (ws.foldl (λf w=>fc f b w) f) ((b:Int) ^ ws.length*t)
 | [],f,t,o=>by
  have e:(b:Int) ^ ([]:List Int).length*t=t:=by simp
  rw[e];exact o
 | w::ws,f,t,o=>by
  have e:(b:Int) ^ (w::ws).length*t=(b:Int) ^ ws.length*(b*t):=by
   rw[a0k,Int.pow_succ,a1V]
  rw[e]
  exact GZ b ws _ _ o.one
theorem uY(b:Nat)(ws:List Int):Tw (aW b ws) ((b:Int) ^ ws.length):=by
 have z:Tw [(0,1)] 1:=⟨by simp[keys],λp hp=>by
  have:p=(0,1):=by simpa using hp
  rw[this];decide,rfl⟩
 have h:=GZ b ws _ _ z
 rw[Int.mul_one] at h
 exact h
theorem G0:∀ {f:List (Int×Int)},(∀p∈f,0<=p.2)->0<=cL f/\∀p∈f,p.2<=cL f
 | [],_=>⟨by simp[cL],λp hp=>by simp at hp⟩
 | q::f,h=>by
  obtain⟨i1,i2⟩:=G0 (f:=f) λp hp=>h p (by simp[hp])
  have hq:=h q (by simp)
  have e:cL (q::f)=q.2+cL f:=by simp[cL]
  rw[e]
  refine⟨by lia,λp hp=>?_⟩
  rcases ZZ.mp hp with rfl | hp
  ·lia
  ·have:=i2 p hp;lia
theorem G8{b:Nat}{ws:List Int}(hb:b<=16)(hl:ws.length<=6)(k:Int):0<=(look (aW b ws) k).getD 0/\(look (aW b ws) k).getD 0<=16777216:=by
 have o:=uY b ws
 obtain⟨h0,h1⟩:=G0 o.nn
 rw[o.tt] at h1
 have hm:b ^ ws.length<=16 ^ 6:=Z9 (Nat.pow_le_pow_left hb _) (Nat.pow_le_pow_right (by decide) hl)
 have mH:((b:Int) ^ ws.length)<=16777216:=by
  have e:((b ^ ws.length:Nat):Int)=(b:Int) ^ ws.length:=Int.natCast_pow b ws.length
  rw[<-e]
  have:(16:Nat) ^ 6=16777216:=by decide
  lia
 cases e:(aW b ws).find? λq=>decide (q.1=k) with
 | none =>
  rw[look,e]
  exact⟨by decide,by decide⟩
 | some q =>
  have hq:=a1f e
  rw[look,e]
  exact⟨o.nn q hq,a1P (h1 q hq) mH⟩
theorem Ha{f g:List (Int×Int)}(h:f.Perm g)(nd:(keys g).Nodup)(k:Int):look f k=look g k:=by
 have Rw:(keys f).Nodup:=(h.map _).nodup_iff.mpr nd
 cases e:g.find? λq=>decide (q.1=k) with
 | none =>
  have e2:f.find? (λq=>decide (q.1=k))=none:=by
   rw[List.find?_eq_none] at e⊢
   exact λx hx=>e x (h.mem_iff.mp hx)
  rw[look,look,e,e2]
 | some q =>
  have hq:=a1f e
  have hk:q.1=k:=by simpa using a2S e
  rw[<-hk,mz nd hq,mz Rw (h.mem_iff.mpr hq)]
def cM(b:Nat)(rows:List (List Int))(t:Int):Int:=rows.foldl (λm row=>m*(look (aW b row) t).getD 0) 1
theorem Rx{b i:Nat}{rows:List (List Int)}{row:List Int}{t:Int}(h:rows[i]?=some row):cM b (rows.take (i+1)) t=cM b (rows.take i) t*(look (aW b row) t).getD 0:=by
 unfold cM
 rw[Z8,h,a1C]
 rfl
def dE(b:Nat)(rows:List (List Int))(ks:List Int):List (Int×Int):=(ks.filter λk=>decide (0<cM b rows k)).map λk=>(k,cM b rows k)
theorem Ry(b:Nat)(rows:List (List Int))(ks:List Int):keys (dE b rows ks)=ks.filter λk=>decide (0<cM b rows k):=by
 rw[keys,dE,a1B]
 exact List.map_id' _
theorem Rz{b:Nat}{rows:List (List Int)}{ks ls:List Int}(h:ks.Perm ls):(dE b rows ks).Perm (dE b rows ls):=(h.filter _).map _
theorem RA(b:Nat)(rows:List (List Int))(ks:List Int):(dE b rows ks).length<=ks.length:=by
 rw[dE,ZW]
 exact List.length_filter_le _ _
theorem RB{b i:Nat}{rows:List (List Int)}{ks:List Int}{k:Int}(nd:ks.Nodup)(h:ks[i]?=some k)(hp:0<cM b rows k):dE b rows (ks.take (i+1))=put (dE b rows (ks.take i)) k (cM b rows k):=by
 have hk:k∉keys (dE b rows (ks.take i)):=λz=>by
  rw[Ry] at z
  have z1:=(a2N.mp z).1
  obtain⟨j,hj⟩:=List.mem_iff_getElem?.mp z1
  rw[List.getElem?_take] at hj
  split at hj
  ·rename_i Zj
   have:=(List.getElem?_inj (by have:=(ZX.mp hj).1;exact this) nd).mp (hj.trans h.symm)
   lia
  ·cases hj
 rw[GE hk,dE,Z8,h,a2B,a0p]
 congr 1
 show([k].filter _).map _=_
 rw[List.filter_cons_of_pos (by simpa using hp)]
 rfl
theorem RC{b i:Nat}{rows:List (List Int)}{ks:List Int}{k:Int}(h:ks[i]?=some k)(hp:¬ 0<cM b rows k):dE b rows (ks.take (i+1))=dE b rows (ks.take i):=by
 rw[dE,dE,Z8,h,a2B,a0p]
 show _++([k].filter _).map _=_
 rw[List.filter_cons_of_neg (by simpa using hp)]
 simp
end Me
namespace Hv
open PySem L2
abbrev oK(H:Hp)(b:Nat)(qs:List Addr)(rows:List (List Int)):Prop:=Paired (λq row=>∃g,H q=some (.dK (aJ g))/\g.Perm (Me.aW b row)) qs rows
theorem oK.keep{H H':Hp}{b:Nat}{qs:List Addr}{rows:List (List Int)}(s:ag H H')(h:oK H b qs rows):oK H' b qs rows:=L2.Paired.iM h λq row ⟨g,e,p⟩=>⟨g,s _ _ e,p⟩
abbrev Hb(H:Hp)(b:Nat)(qs:List Addr)(rows:List (List Int)):Prop:=Paired (λq row=>∃g,Rd H q (.dK (aJ g))/\g.Perm (Me.aW b row)) qs rows
def uZ:Sp:=λvs H Q _=>∃f a c b ps ws,vs=[.ref f]/\aS H f a c b ps ws/\∀(p:Addr) (qs:List Addr) (H':Hp),ag H H'->H p=none->H' p=some (.lst (qs.map V.ref))->oK H' b qs (Ma.a9 ps ws)->Q (.ref p) H'
def zy:Sp:=λvs H Q _=>∃(p:Addr) (qs:List Addr) (b:Nat) (rows:List (List Int)) (t:Int),vs=[.ref p,.int t]/\H p=some (.lst (qs.map V.ref))/\Hb H b qs rows/\b<=16/\(∀row∈rows,(∀x∈row,-9<=x/\x<=9)/\row.length<=6)/\
 Q (.int (Me.cM b rows t)) H
section
variable{P:Program}{w:World}{K:PySem.W.Frag}{mg:Str->Option Value}{base:Heap}
theorem RE:aQ ["frame"] ["frame"] (g_ tU):=⟨rfl,rfl,rfl,by decide +kernel,rfl,by decide +kernel,by decide +kernel⟩
theorem RF{f:Addr}{fd:FuncData}(F:aG K "ways_of_parts" "ways_of_parts" tU f fd)(T:Txt mg)(DC:ak P w K mg base 1 "cut_by_parts" ["frame","row"] qK)(DV:ak P w K mg base 2 "ways_of_weights" ["base","weights"] uV) :
  ax P w K mg base aK 3 f fd ["frame"] uZ:=by
 refine F.ok RE (λvs H Q E h=>?_) (λae A outer s H vs Q E hr h=>?_)
 ·obtain⟨g,a,c,b,ps,ws,rfl,_⟩:=h;rfl
 ·obtain⟨g,a,c,b,ps,ws,rfl,G,k⟩:=h
  refine⟨_,h_ (n_ (iW (g_ tU) ["frame"] ["frame"] [0] rfl (S_ (o_ DC hr.mo (by rfl) (a_ (pv 0) (a_ (bX (pv 0) f_) e_))))
   (λcl C s H fp=>fZ) (λcl C s H fp=>o_ DV hr (by rfl) (a_ (FA K rfl (pv 1) f_) (a_ (pv 0) e_))) (by decide +kernel))),?_⟩
  refine⟨_,rfl,_,rfl,_,_,_,_,rfl,rfl,bo.of G.tp,rfl,g,a,c,b,ps,ws,c,ws,rfl,G,G.hw,λp qs H2 s2 hp rows=>?_⟩
  have G2:=G.keep s2
  have jM:qs.length=ps.length:=by
   have e:qs.length=(Ma.a9 ps ws).length:=rows.length
   rw[e,Ma.iu]
  have l4:=G.ok.l4
  refine⟨p,rfl,⟨_,af.of hp⟩,iX (K:=K) (a:=p) (xs:=qs.map V.ref) (λi ys H'=>∃ts,ys=ts.map V.ref/\ts.length=i/\ag H2 H'/\oK H' b ts ((Ma.a9 ps ws).take i))
   ⟨[],rfl,rfl,ag.refl _,.nil⟩ (λi ys H' _ h=>by obtain⟨_,_,_,s',_⟩:=h;exact af.of (s' _ _ hp)) ?_ ?_⟩
  ·rintro i x ys H' hx ⟨ts,rfl,ci,s',wa⟩
   have mn:i<qs.length:=by have:=(ZX.mp hx).1;simpa using this
   obtain⟨q,hq,rfl⟩:∃q:Addr,qs[i]?=some q/\x=.ref q:=by
    rw[Z2] at hx
    cases e:qs[i]? with
    | none=>rw[e] at hx;cases hx
    | some d=>rw[e] at hx;exact⟨d,rfl,(Z6 hx).symm⟩
   obtain⟨row,hj,bU⟩:=uy rows hq
   refine⟨cq (by rw[ZW];lia),_,rfl,_,_,_,_,rfl,rfl,bo.of (G2.keep s').tp,rfl,_,rfl,b,q,row,rfl,s' _ _ bU,G.ok.dS,λx hx=>G.ok.wr x (Ma.qx (Z1 hj) x hx),Ma.qy (λp hp=>(G.ok.pr p hp).2) (Z1 hj),λp' H3 gg np s3 je hg=>⟨ts++[p'],by simp,by simp[ci],s'.trans s3,?_⟩⟩
   rw[Z8,hj]
   exact Paired.snoc (wa.keep s3) ⟨gg,je,hg⟩
  ·rintro ys H' ⟨ts,rfl,ci,s',wa⟩ l hl
   have e:(qs.map V.ref).length=(Ma.a9 ps ws).length:=by rw[ZW,Ma.iu];exact jM
   rw[e,a0e] at wa
   have sl:=b_ (o:=.lst (ts.map V.ref)) hl
   exact k l ts _ (s2.trans (s'.trans sl)) (s2.free (s'.free hl)) d_ (wa.keep sl)
theorem Hc:aQ ["ways_by_part","total","many","ways"] ["ways_by_part","total"] (g_ yt):=⟨rfl,rfl,rfl,by decide +kernel,rfl,by decide +kernel,by decide +kernel⟩
theorem RG{f:Addr}{fd:FuncData}(F:aG K "ways_with" "ways_with" yt f fd):ax P w K mg base aK 1 f fd ["ways_by_part","total"] zy:=by
 refine F.ok Hc (λvs H Q E h=>?_) (λae A outer s H vs Q E hr h=>?_)
 ·obtain⟨p,qs,b,rows,t,rfl,_⟩:=h;rfl
 ·obtain⟨p,qs,b,rows,t,rfl,hp,wa,hb,gZ,k⟩:=h
  have nd:=Hc.nd
  have hu:=oh hr
  refine⟨_,c_ (k_ (i:=2) nd rfl (Or.inl rfl) f_)
   (c_ (Y_ PassesOwn.never rfl (S_ (pv 0)) (q_ (i:=3) nd rfl (Or.inl rfl))
    (h_ (k_ (i:=2) nd rfl (Or.inl rfl) (p_ fH (pv 2) (ur hu (pv 3) (pv 1) f_ ⟨rfl,rfl,rfl,rfl⟩)))))
   (h_ (n_ (pv 2)))),?_⟩
  refine⟨_,rfl,p,rfl,⟨_,af.of hp⟩,kf (K:=K) (a:=p) (xs:=qs.map V.ref) (λi σ H'=>∃v3,σ=[some (.ref p),some (.int t),some (.int (Me.cM b (rows.take i) t)),v3]/\H=H')
   ⟨none,rfl,rfl⟩ (λi σ H' _ h=>by obtain⟨_,_,e⟩:=h;rw[<-e];exact af.of hp) ?_ ?_⟩
  ·rintro i x σ H' hx ⟨v3,rfl,rfl⟩
   obtain⟨q,hq,rfl⟩:∃q:Addr,qs[i]?=some q/\x=.ref q:=by
    rw[Z2] at hx
    cases e:qs[i]? with
    | none=>rw[e] at hx;cases hx
    | some d=>rw[e] at hx;exact⟨d,rfl,(Z6 hx).symm⟩
   obtain⟨row,hj,g,hg,perm⟩:=uy wa hq
   obtain⟨hw,hl⟩:=gZ row (Z1 hj)
   have qV:=Me.uL (b:=b) hw hb
   obtain⟨v0,v1⟩:=Me.G8 (b:=b) hb hl t
   have Hd:=Me.Ha perm qV.nd t
   have cm:p8 (Me.cM b (rows.take i) t) ((Me.look g t).getD 0):=by rw[Hd];exact .inr ⟨by lia,by lia⟩
   refine⟨_,rfl,_,rfl,q,rfl,.inl ⟨_,hg⟩,_,rfl,_,mE hg,Me.cM b (rows.take i) t,(Me.look g t).getD 0,rfl,uS _,cm,some (.ref q),?_,rfl⟩
   rw[Me.Rx hj,<-Hd]
   rfl
  ·rintro σ H' ⟨v3,rfl,rfl⟩
   have e:(qs.map V.ref).length=rows.length:=by rw[ZW];exact wa.length
   rw[e,a0e]
   exact⟨_,rfl,k⟩
end
def zA:Sp:=λvs H Q _=>∃f a c b ps ws,vs=[.ref f]/\aS H f a c b ps ws/\∀(p:Addr) (g:List (Int×Int)) (H':Hp),H p=none->ag H H'->H' p=some (.dK (aJ g))->
 (∃row,(Ma.a9 ps ws)[0]?=some row/\g.Perm (Me.dE b (Ma.a9 ps ws) (Me.keys (Me.aW b row))))->Q (.ref p) H'
theorem He{H:Hp}{f a c:Addr}{b:Nat}{ps:List Nat}{ws:List Int}(G:aS H f a c b ps ws):∀row∈Ma.a9 ps ws,(∀x∈row,-9<=x/\x<=9)/\row.length<=6 :=
 λrow hr=>⟨λx hx=>G.ok.wr x (Ma.qx hr x hx),Ma.qy (λp hp=>(G.ok.pr p hp).2) hr⟩
section
variable{P:Program}{w:World}{K:PySem.W.Frag}{mg:Str->Option Value}{base:Heap}
theorem Hf:aQ ["frame","ways_by_part","even","total","many"] ["frame"] (g_ yu):=⟨rfl,rfl,rfl,by decide +kernel,rfl,by decide +kernel,by decide +kernel⟩
theorem RH{f:Addr}{fd:FuncData}(F:aG K "even_by_sums" "even_by_sums" yu f fd)(D5:ak P w K mg base 5 "need_frame" ["thing"] G_)(DP:ak P w K mg base 3 "ways_of_parts" ["frame"] uZ)
  (DW:ak P w K mg base 1 "ways_with" ["ways_by_part","total"] zy):ax P w K mg base aK 6 f fd ["frame"] zA:=by
 refine F.ok Hf (λvs H Q E h=>?_) (λae A outer s H vs Q E hr h=>?_)
 ·obtain⟨g,a,c,b,ps,ws,rfl,_⟩:=h;rfl
 ·obtain⟨g,a,c,b,ps,ws,rfl,G,k⟩:=h
  have nd:=Hf.nd
  have hu:=oh hr
  refine⟨_,c_ (C_ (o_ D5 hr (by rfl) (a_ (pv 0) e_)))
   (c_ (k_ (i:=1) nd rfl (Or.inl rfl) (o_ DP hr.mo (by rfl) (a_ (pv 0) e_)))
   (c_ (k_ (i:=2) nd rfl (Or.inl rfl) mj)
   (c_ (Y_ PassesOwn.never rfl (za (cg (pv 1) f_)) (q_ (i:=3) nd rfl (Or.inl rfl))
    (c_ (k_ (i:=4) nd rfl (Or.inl rfl) (o_ DW hr.mo (by rfl) (a_ (pv 1) (a_ (pv 3) e_))))
    (h_ (Z_ (v_ sH (pv 4) f_ (bO _)) (h_ (yU hu (pv 2) (pv 3) (pv 4) rfl)) w_))))
   (y' (h_ (n_ (pv 2))))))),?_⟩
  refine⟨_,rfl,g,a,c,b,ps,ws,rfl,G,λH1 s1=>?_⟩
  have G1:=G.keep s1
  refine⟨_,rfl,g,a,c,b,ps,ws,rfl,G1,λp qs H2 s2 hp cO wa=>?_⟩
  intro l hl
  obtain⟨row,bU⟩:∃row,(Ma.a9 ps ws)[0]?=some row:=⟨(Ma.a9 ps ws)[0]'(by rw[Ma.iu];have:=G.ok.l2;lia),by simp⟩
  obtain⟨q,hq⟩:∃q,qs[0]?=some q:=⟨qs[0]'(by have e:qs.length=(Ma.a9 ps ws).length:=wa.length;rw[e,Ma.iu];have:=G.ok.l2;lia),by simp⟩
  obtain⟨jN,Hg,g0,jf,perm⟩:=uy wa hq
  have er:jN=row:=by rw[bU] at Hg;exact(Z6 Hg).symm
  subst er
  obtain⟨RI,EU⟩:=He G jN (Z1 bU)
  have qV:=Me.uL (b:=b) RI G.ok.dS
  have Zk:=Me.Ok.len (m:=135*jN.length) (by push_cast at qV⊢;exact qV)
  have RJ:(Me.keys g0).Nodup:=(perm.map _).nodup_iff.mpr qV.nd
  have Zl:g0.length<=2000:=by rw[perm.length_eq];lia
  have s3:ag H2 (upd H2 l (.dK [])):=b_ hl
  have jM:q≠l:=l_ jf hl
  have hpl:p≠l:=l_ cO hl
  have RK:q≠p:=wX jf cO (by intro z;cases z)
  have l3:(upd H2 l (.dK [])) l=some (.dK (aJ [])):=d_
  generalize upd H2 l (.dK [])=H3 at s3 l3⊢
  have q3:=s3 _ _ jf
  have p3:=s3 _ _ cO
  have sZ:dQ (qs.map V.ref) 0=some (.ref q):=km (j:=0) (by rw[Z2,hq];rfl)
  refine⟨_,rfl,p,_,0,.ref q,rfl,rfl,af.of p3,sZ,q,aJ g0,rfl,q3,λo=>zb (λi σ H'=>∃v3 v4,σ=[some (.ref g),some (.ref p),some (.ref l),v3,v4]/\H' q=some (.ce o (.dK (aJ g0)))/\(∀x ob,x≠q->x≠l->H3 x=some ob->H' x=some ob)/\H' l=some (.dK (aJ (Me.dE b (Ma.a9 ps ws) ((Me.keys g0).take i)))))
   ⟨none,none,rfl,d_,λx ob hx _ e=>by rw[i_ hx];exact e,by rw[i_ jM.symm,l3];rfl⟩ (λi σ H' _ h=>by obtain⟨_,_,_,z,_⟩:=h;exact z) ?_ ?_⟩
  ·rintro i kk v σ H' hk ⟨v3,v4,rfl,fq,kp,cT⟩
   obtain⟨pr,u7,rfl,rfl⟩:=zr hk
   have Hh:(Me.keys g0)[i]?=some pr.1:=by rw[Me.keys,Z2,u7];rfl
   have p':=kp p _ RK.symm hpl p3
   have wr:Hb H' b qs (Ma.a9 ps ws):=L2.Paired.iM wa λq1 Zm ⟨g1,e1,Hi⟩=>by
    by_cases e:q1=q
    ·subst e
     have eg:aJ g1=aJ g0:=by rw[e1] at jf;injection jf with jf;injection jf
     exact⟨g1,.inr ⟨o,by rw[eg];exact fq⟩,Hi⟩
    ·exact⟨g1,.inl (kp q1 _ e (l_ e1 hl) (s3 _ _ e1)),Hi⟩
   have b9:=Me.RA b (Ma.a9 ps ws) ((Me.keys g0).take i)
   have RL:((Me.keys g0).take i).length<=2000:=by
    rw[a0g,Me.keys,ZW];lia
   refine⟨_,rfl,_,rfl,p,qs,b,Ma.a9 ps ws,pr.1,rfl,p',wr,G.ok.dS,He G,?_⟩
   refine⟨_,rfl,_,_,rfl,rfl,_,rfl,jB (λh=>?_) (λh=>?_)⟩
   ·have h':0<Me.cM b (Ma.a9 ps ws) pr.1:=of_decide_eq_true h
    refine⟨_,rfl,_,rfl,_,rfl,l,_,rfl,zt cT (by lia),_,_,rfl,?_,λx ob h1 h2 e=>?_,?_⟩
    ·rw[i_ jM];exact fq
    ·rw[i_ h2];exact kp x ob h1 h2 e
    ·rw[d_,Me.RB RJ Hh h']
   ·have h':¬ 0<Me.cM b (Ma.a9 ps ws) pr.1:=λz=>h (decide_eq_true z)
    refine⟨_,_,rfl,fq,kp,?_⟩
    rw[Me.RC Hh h']
    exact cT
  ·rintro σ H' ⟨v3,v4,rfl,fq,kp,cT⟩
   have el:(aJ g0).length=(Me.keys g0).length:=by rw[aJ,Me.keys,ZW,ZW]
   rw[el,a0e] at cT
   have S3:=s1.trans (s2.trans s3)
   have lH:H l=none:=s1.free (s2.free hl)
   refine⟨q,o,aJ g0,fq,(λo' u z=>?_),_,rfl,k l _ _ lH (λx ob e=>?_) (by rw[i_ jM.symm];exact cT) ⟨jN,bU,Me.Rz (perm.map _)⟩⟩
   ·have z':H q=some (.ce o' u):=z
    have:=S3 _ _ z'
    rw[q3] at this;cases this
   ·by_cases hx:x=q
    ·have:=S3 _ _ e
     rw[hx] at this
     rw[hx,d_,<-this,q3]
    ·rw[i_ hx];exact kp x ob hx (l_ e lH) (S3 _ _ e)
end
end Hv
namespace Me
abbrev gv(f:List (Int×Int))(k:Int):Int:=(look f k).getD 0
theorem zB{k n j:Int}:∀ {f:List (Int×Int)},(keys f).Nodup->gv (dD f k n) j=gv f j+if k=j then n else 0
 | [],_=>by
  by_cases e:k=j <;> simp[gv,dD,put,look,e]
 | (a,x)::f,nd=>by
  have jL:a∉keys f:=(a0n.mp nd).1
  have dW:(keys f).Nodup:=(a0n.mp nd).2
  by_cases e:a=k
  ·subst e
   rw[uW jL]
   by_cases h:a=j
   ·subst h
    rw[gv,gv,oH,oH,if_pos rfl]
    rfl
   ·rw[gv,gv,oJ h,oJ h,if_neg h]
    lia
  ·rw[uX e]
   by_cases h:a=j
   ·subst h
    rw[gv,gv,oH,oH,if_neg (λz=>e z.symm)]
    show x=x+0
    lia
   ·have ih:=zB (k:=k) (n:=n) (j:=j) dW
    rw[gv,gv,oJ h,oJ h]
    exact ih
theorem Hj{f:List (Int×Int)}{k n j:Int}(nd:(keys f).Nodup)(hn:0<=n):gv f j<=gv (dD f k n) j:=by
 rw[zB nd]
 split <;> lia
theorem jO{p:Int×Int}{w:Int}{acc:List (Int×Int)}(nd:(keys acc).Nodup):∀n:Nat,(keys (du p w n acc)).Nodup
 | 0=>nd
 | n+1=>by rw[kM];exact GY (jO nd n)
theorem zC{p:Int×Int}{w j:Int}{acc:List (Int×Int)}(nd:(keys acc).Nodup)(hp:0<=p.2):∀n:Nat,gv acc j<=gv (du p w n acc) j
 | 0=>a0L _
 | n+1=>by
  rw[kM]
  exact a1P (zC nd hp n) (Hj (jO nd n) hp)
theorem Hk{p:Int×Int}{w:Int}{acc:List (Int×Int)}(nd:(keys acc).Nodup)(hp:0<=p.2):∀n:Nat,gv acc p.1+p.2<=gv (du p w (n+1) acc) p.1
 | 0=>by
  rw[kM]
  have e:p.1+((0:Nat):Int)*w=p.1:=by simp
  rw[e,zB (jO nd 0),if_pos rfl]
  exact a0L _
 | n+1=>by
  rw[kM]
  exact a1P (Hk nd hp n) (Hj (jO nd (n+1)) hp)
theorem Hl{b:Nat}{w j:Int}:∀ {f acc:List (Int×Int)},(keys acc).Nodup->(∀p∈f,0<=p.2)->gv acc j<=gv (f.foldl (λacc p=>du p w b acc) acc) j
 | [],_,_,_=>a0L _
 | p::f,acc,nd,h=>by
  rw[a0d]
  exact a1P (zC nd (h p (by simp)) b) (Hl (jO nd b) λq hq=>h q (by simp[hq]))
theorem Hm{b:Nat}{w:Int}{p:Int×Int}:∀ {f acc:List (Int×Int)},(keys acc).Nodup->(∀p∈f,0<=p.2)->p∈f->gv acc p.1+p.2<=gv (f.foldl (λacc p=>du p w (b+1) acc) acc) p.1
 | [],_,_,_,hp=>by simp at hp
 | q::f,acc,nd,h,hp=>by
  rw[a0d]
  rcases ZZ.mp hp with rfl | hp
  ·exact a1P (Hk nd (h p (by simp)) b) (Hl (jO nd (b+1)) λq hq=>h q (by simp[hq]))
  ·have h1:=zC (w:=w) (j:=p.1) nd (h q (by simp)) (b+1)
   have h2:=Hm (w:=w) (b:=b) (jO (p:=q) (w:=w) nd (b+1)) (λq hq=>h q (by simp[hq])) hp
   lia
theorem Hn{f:List (Int×Int)}{k:Int}(h:1<=gv f k):(k,gv f k)∈f:=by
 cases e:f.find? λq=>decide (q.1=k) with
 | none =>
  have z:gv f k=0:=by rw[gv,look,e];rfl
  lia
 | some q =>
  have hq:=a1f e
  have hk:q.1=k:=by simpa using a2S e
  have z:gv f k=q.2:=by rw[gv,look,e];rfl
  rw[z,<-hk]
  exact hq
theorem Ho{b:Nat}:∀(ws:List Int) (f:List (Int×Int)) (t:Int),Tw f t->1<=gv f 0->1<=gv (ws.foldl (λf w=>fc f (b+1) w) f) 0
 | [],_,_,_,h=>h
 | w::ws,f,t,o,h=>by
  rw[a0d]
  refine Ho ws _ _ o.one ?_
  have:=Hm (w:=w) (b:=b) (acc:=[]) (by simp[keys]) o.nn (Hn h)
  have e:gv [] 0=0:=rfl
  unfold fc
  have h2:gv f 0<=gv (f.foldl (λacc p=>du p w (b+1) acc) []) 0:=by
   have:=this
   simp only[e] at this
   lia
  lia
theorem RM{b:Nat}(hb:1<=b)(ws:List Int):1<=gv (aW b ws) 0:=by
 obtain⟨c,rfl⟩:∃c,b=c+1:=⟨b-1,by lia⟩
 exact Ho ws [(0,1)] 1 ⟨by simp[keys],λp hp=>by
  have:p=(0,1):=by simpa using hp
  rw[this];decide,rfl⟩ (by decide)
theorem RN(b:Nat)(row:List Int)(t:Int):0<=(look (aW b row) t).getD 0:=by
 have o:=uY b row
 cases e:(aW b row).find? λq=>decide (q.1=t) with
 | none=>rw[look,e];exact a0L _
 | some q=>rw[look,e];exact o.nn q (a1f e)
theorem Hq{b:Nat}{t:Int}:∀(rows:List (List Int)) (m:Int),0<=m->0<=rows.foldl (λm row=>m*(look (aW b row) t).getD 0) m
 | [],_,h=>h
 | row::rows,m,h=>by
  rw[a0d]
  exact Hq rows _ (Int.mul_nonneg h (RN b row t))
theorem Hr{b:Nat}{t:Int}:∀(rows:List (List Int)),rows.foldl (λm row=>m*(look (aW b row) t).getD 0) 0=0
 | []=>rfl
 | row::rows=>by
  rw[a0d,a2x]
  exact Hr rows
theorem u8{f:List (Int×Int)}{t:Int}(h:t∉keys f):look f t=none:=by
 cases e:f.find? λq=>decide (q.1=t) with
 | none=>rw[look,e];rfl
 | some q =>
  exfalso
  exact h (a0a.mpr ⟨q,a1f e,by simpa using a2S e⟩)
theorem RO{b:Nat}{rows:List (List Int)}{row:List Int}{t:Int}(h:rows[0]?=some row)(ht:t∉keys (aW b row)):cM b rows t=0:=by
 cases rows with
 | nil=>cases h
 | cons r rows =>
  have e:r=row:=Z6 h
  subst e
  unfold cM
  rw[a0d,u8 ht]
  exact Hr rows
theorem Hs{l m:List Int}(h:l.Perm m):l.sum=m.sum:=by
 induction h with
 | nil=>rfl
 | cons x _ ih=>rw[a0r,a0r,ih]
 | swap x y l=>simp only[a0r];lia
 | trans _ _ a b=>exact a.trans b
theorem RP{f g:List (Int×Int)}(h:f.Perm g):cL f=cL g:=Hs (h.map _)
end Me
namespace Mq
def sm(f:Int->Int)(a:Int):Nat->Int
 | 0=>0
 | n+1=>sm f a n+f (a+n)
theorem qW(f:Int->Int)(a:Int)(n:Nat):∀m:Nat,sm f a (n+m)=sm f a n+sm f (a+n) m
 | 0=>by simp[sm]
 | m+1=>by
  rw[<-a1E,sm,sm,qW f a n m]
  have e:a+((n+m:Nat):Int)=a+n+m:=by push_cast;lia
  rw[e]
  lia
theorem hJ{f:Int->Int}{a:Int}:∀ {n:Nat},(∀t,a<=t->t<a+n->f t=0)->sm f a n=0
 | 0,_=>rfl
 | n+1,h=>by
  rw[sm,hJ (n:=n) λt h1 h2=>h t h1 (by push_cast;lia),h (a+n) (by lia) (by push_cast;lia)]
  rfl
theorem jP{f g:Int->Int}{a:Int}:∀ {n:Nat},(∀t,a<=t->t<a+n->f t=g t)->sm f a n=sm g a n
 | 0,_=>rfl
 | n+1,h=>by
  rw[sm,sm,jP (n:=n) λt h1 h2=>h t h1 (by push_cast;lia),h (a+n) (by lia) (by push_cast;lia)]
theorem Ht{f:Int->Int}{a h:Int}{n m:Nat}(hf:∀t,h<t->f t=0)(hn:h<a+n)(hm:h<a+m):sm f a n=sm f a m:=by
 have aP:∀ {n m:Nat},n<=m->h<a+n->sm f a n=sm f a m:=λ{n m} jb hn=>by
  obtain⟨k,rfl⟩:=Nat.exists_eq_add_of_le jb
  rw[qW,hJ (f:=f) (a:=a+n) (n:=k) λt h1 _=>hf t (by lia)]
  lia
 rcases a2v n m with z | z
 ·exact aP z hn
 ·exact(aP z hm).symm
theorem RQ{g:Int->Int}{a b:Int}{n m:Nat}(h1:a<=b)(h2:b+m<=a+n)(z1:∀t,a<=t->t<b->g t=0)(z2:∀t,b+m<=t->t<a+n->g t=0):sm g a n=sm g b m:=by
 obtain⟨k,rfl⟩:∃k:Nat,b=a+k:=⟨(b-a).toNat,by lia⟩
 obtain⟨r,rfl⟩:∃r:Nat,n=k+(m+r):=⟨n-k-m,by lia⟩
 rw[qW,qW,hJ (f:=g) (a:=a) (n:=k) λt h1 h2=>z1 t h1 h2,hJ (f:=g) (a:=a+k+m) (n:=r) λt h1 h2=>z2 t (by lia) (by push_cast;lia)]
 lia
def pr(fs:List (Int->Int))(a:Int)(n:Nat):Int:=fs.foldl (λm f=>m*sm f a n) 1
theorem RS{fs:List (Int->Int)}{a:Int}{n:Nat}:fs.foldl (λm f=>m*sm f a n) 0=0:=by
 induction fs with
 | nil=>rfl
 | cons f r ih=>simpa using ih
theorem qX{fs:List (Int->Int)}{a:Int}{n:Nat}{f:Int->Int}(hf:f∈fs)(h:sm f a n=0):pr fs a n=0:=by
 have aP:∀(fs:List (Int->Int)) (c:Int),f∈fs->fs.foldl (λm f=>m*sm f a n) c=0:=λfs=>by
  induction fs with
  | nil=>intro c h;simp at h
  | cons q r ih =>
   intro c hq
   rcases ZZ.mp hq with rfl | hq
   ·rw[a0d,h,Int.mul_zero];exact RS
   ·rw[a0d];exact ih _ hq
 exact aP fs 1 hf
theorem Hu{fs:List (Int->Int)}{a b:Int}{n m:Nat}(h:∀f∈fs,sm f a n=sm f b m):pr fs a n=pr fs b m:=by
 have aP:∀(fs:List (Int->Int)) (c:Int),(∀f∈fs,sm f a n=sm f b m)->fs.foldl (λm f=>m*sm f a n) c=fs.foldl (λq f=>q*sm f b m) c:=λfs=>by
  induction fs with
  | nil=>intro c _;rfl
  | cons q r ih =>
   intro c hq
   rw[a0d,a0d,hq q (by simp)]
   exact ih _ λf hf=>hq f (by simp[hf])
 exact aP fs 1 h
def dF(fs:List (Int->Int))(d:Nat)(t:Int):Int:=pr fs t (d+1)-pr fs (t+1) d
theorem RT{fs:List (Int->Int)}{d r:Nat}{t bV eM:Int}(hs:∀f∈fs,∀u,eM<u->f u=0)(ht:bV<=t)(hr:(r:Int)=d\/(eM-bV<=r/\eM-bV<=d)):dF fs d t=dF fs r t:=by
 rcases hr with hr | ⟨h1,h2⟩
 ·rw[show d=r by lia]
 ·unfold dF
  rw[Hu (fs:=fs) (a:=t) (b:=t) (n:=d+1) (m:=r+1) λf hf=>Ht (h:=eM) (hs f hf) (by push_cast;lia) (by push_cast;lia),
   Hu (fs:=fs) (a:=t+1) (b:=t+1) (n:=d) (m:=r) λf hf=>Ht (h:=eM) (hs f hf) (by push_cast;lia) (by push_cast;lia)]
theorem RU{fs:List (Int->Int)}{d:Nat}{t last:Int}{f:Int->Int}(hf:f∈fs)(h:∀u,last<u->f u=0)(ht:last<t):dF fs d t=0:=by
 unfold dF
 rw[qX hf (hJ λu h1 _=>h u (by lia)),qX hf (hJ λu h1 _=>h u (by lia))]
 rfl
theorem RV{fs:List (Int->Int)}{d:Nat}{t l:Int}{f:Int->Int}(hf:f∈fs)(h:∀u,u<l->f u=0)(ht:t+d<l):dF fs d t=0:=by
 unfold dF
 rw[qX hf (hJ λu _ h2=>h u (by push_cast at h2;lia)),qX hf (hJ λu _ h2=>h u (by push_cast at h2;lia))]
 rfl
theorem RW{fs:List (Int->Int)}{d:Nat}{bV eM mI oM:Int}{fl fg:Int->Int}(hs:∀f∈fs,∀u,eM<u->f u=0)(hl:fl∈fs)(cT:∀u,u<mI->fl u=0)(hg:fg∈fs)(om:∀u,oM<u->fg u=0)
  (o1:bV<=mI) (o2:oM<=eM) (o3:bV<=eM) (o4:bV<=oM) (o5:mI<=eM) {r:Nat} (hr:(r:Int)=if eM-bV<d then eM-bV else d) {first:Int} (Hw:first=if mI-r>bV then mI-r else bV) :
  sm (dF fs d) bV (eM-bV+1).toNat=sm (dF fs r) first (oM-first+1).toNat:=by
 have oN:(r:Int)=d\/(eM-bV<=r/\eM-bV<=d):=by split at hr <;> lia
 have e:sm (dF fs d) bV (eM-bV+1).toNat=sm (dF fs r) bV (eM-bV+1).toNat:=jP λt h1 _=>RT hs h1 oN
 rw[e]
 have up:∀t,oM<t->dF fs r t=0:=λt h=>RU hg om h
 have dn:∀t,t+r<mI->dF fs r t=0:=λt h=>RV hl cT h
 have f1:bV<=first:=by rw[Hw];split <;> lia
 have f2:∀t,bV<=t->t<first->t+r<mI:=λt a b=>by rw[Hw] at b;split at b <;> lia
 by_cases hc:first<=oM+1
 ·exact RQ f1 (by lia) (λt a b=>dn t (f2 t a b)) λt a b=>up t (by lia)
 ·rw[hJ (f:=dF fs r) (a:=bV) λt a b=>?_,hJ (f:=dF fs r) (a:=first) λt a b=>up t (by lia)]
  by_cases q:t<first
  ·exact dn t (f2 t a q)
  ·exact up t (by lia)
end Mq
namespace Me
def fw(b:Nat)(row:List Int):Int->Int:=λt=>gv (aW b row) t
def mJ(b:Nat)(rows:List (List Int)):List (Int->Int):=rows.map (fw b)
def zD(b:Nat)(row:List Int):Int:=Ma.aV (keys (aW b row))
def zE(b:Nat)(row:List Int):Int:=Ma.bD (keys (aW b row))
def jg(b:Nat)(rows:List (List Int)):List Int:=rows.map (zD b)
def mK(b:Nat)(rows:List (List Int)):List Int:=rows.map (zE b)
def u9(b:Nat)(rows:List (List Int))(d:Nat):Int:=Mq.sm (Mq.dF (mJ b rows) d) (Ma.aV (jg b rows)) (Ma.bD (mK b rows)-Ma.aV (jg b rows)+1).toNat
theorem zF{b:Nat}(hb:1<=b)(row:List Int):0<(keys (aW b row)).length:=by
 have h:=Hn (RM hb row)
 have:(0:Int)∈keys (aW b row):=a0a.mpr ⟨_,h,rfl⟩
 exact a1d this
theorem Hx{f:Int->Int}(h:∀t,0<=f t/\f t<=16777216)(a:Int):∀n:Nat,0<=Mq.sm f a n/\Mq.sm f a n<=16777216*n
 | 0=>⟨a0L _,a0L _⟩
 | n+1=>by
  have ih:=Hx h a n
  have:=h (a+n)
  simp only[Mq.sm]
  push_cast
  lia
end Me
namespace Me
structure fe(g:List (Int×Int)):Prop where
 ne:0<(keys g).length
 nd:(keys g).Nodup
 bd:∀k∈keys g,-810<=k/\k<=810
 val:∀t,0<=gv g t/\gv g t<=16777216
def bK(gs:List (List (Int×Int))):List Int:=gs.map λg=>Ma.aV (keys g)
def bZ(gs:List (List (Int×Int))):List Int:=gs.map λg=>Ma.bD (keys g)
def fG(gs:List (List (Int×Int))):List (Int->Int):=gs.map λg t=>gv g t
def mL(gs:List (List (Int×Int)))(d:Nat):Int:=Mq.sm (Mq.dF (fG gs) d) (Ma.aV (bK gs)) (Ma.bD (bZ gs)-Ma.aV (bK gs)+1).toNat
theorem RX{g:List (Int×Int)}(o:fe g){t:Int}(h:t<Ma.aV (keys g)):gv g t=0:=by
 have n:t∉keys g:=λz=>by
  have:=(Ma.E_ _ o.ne).2 t z
  lia
 unfold gv
 rw[u8 n]
 rfl
theorem Hy{g:List (Int×Int)}(o:fe g){t:Int}(h:Ma.bD (keys g)<t):gv g t=0:=by
 have n:t∉keys g:=λz=>by
  have:=(Ma.L_ _ o.ne).2 t z
  lia
 unfold gv
 rw[u8 n]
 rfl
theorem va{g:List (Int×Int)}(o:fe g) : -810<=Ma.aV (keys g)/\Ma.aV (keys g)<=Ma.bD (keys g)/\Ma.bD (keys g)<=810:=by
 have h1:=o.bd _ (Ma.E_ _ o.ne).1
 have h2:=o.bd _ (Ma.L_ _ o.ne).1
 have h3:=(Ma.E_ _ o.ne).2 _ (Ma.L_ _ o.ne).1
 lia
theorem zG{gs:List (List (Int×Int))}(aZ:0<gs.length)(hg:∀g∈gs,fe g) :
  -810<=Ma.aV (bK gs)/\Ma.aV (bK gs)<=Ma.bD (bK gs)/\Ma.bD (bK gs)<=Ma.bD (bZ gs)/\Ma.aV (bK gs)<=Ma.aV (bZ gs)/\Ma.aV (bZ gs)<=Ma.bD (bZ gs)/\Ma.bD (bZ gs)<=810:=by
 have nl:0<(bK gs).length:=by rw[bK,ZW];exact aZ
 have nh:0<(bZ gs).length:=by rw[bZ,ZW];exact aZ
 obtain⟨m1,m2⟩:=Ma.E_ _ nl
 obtain⟨m3,m4⟩:=Ma.L_ _ nl
 obtain⟨m5,m6⟩:=Ma.E_ _ nh
 obtain⟨m7,m8⟩:=Ma.L_ _ nh
 obtain⟨rl,ff,RY⟩:=a0a.mp m3
 obtain⟨rg,qY,RZ⟩:=a0a.mp m5
 obtain⟨r1,jh,Zn⟩:=a0a.mp m1
 obtain⟨r7,R0,Zo⟩:=a0a.mp m7
 have a1:=va (hg r1 jh)
 have a2:=va (hg rl ff)
 have a3:=va (hg rg qY)
 have a4:=va (hg r7 R0)
 have b1:=m8 _ (a0a.mpr ⟨rl,ff,rfl⟩)
 have b2:=m2 _ (a0a.mpr ⟨rg,qY,rfl⟩)
 exact⟨by lia,m2 _ m3,by lia,by lia,m6 _ m7,by lia⟩
theorem R1{gs:List (List (Int×Int))}(aZ:0<gs.length)(hg:∀g∈gs,fe g){d r:Nat}{first:Int}(hr:(r:Int)=if Ma.bD (bZ gs)-Ma.aV (bK gs)<d then Ma.bD (bZ gs)-Ma.aV (bK gs) else d)
  (hf:first=if Ma.bD (bK gs)-r>Ma.aV (bK gs) then Ma.bD (bK gs)-r else Ma.aV (bK gs)) :
  Mq.sm (Mq.dF (fG gs) r) first (Ma.aV (bZ gs)-first+1).toNat=mL gs d:=by
 have nl:0<(bK gs).length:=by rw[bK,ZW];exact aZ
 have nh:0<(bZ gs).length:=by rw[bZ,ZW];exact aZ
 have B:=zG aZ hg
 obtain⟨m1,m2⟩:=Ma.E_ _ nl
 obtain⟨m3,m4⟩:=Ma.L_ _ nl
 obtain⟨m5,m6⟩:=Ma.E_ _ nh
 obtain⟨m7,m8⟩:=Ma.L_ _ nh
 obtain⟨rl,ff,RY⟩:=a0a.mp m3
 obtain⟨rg,qY,RZ⟩:=a0a.mp m5
 unfold mL
 exact(Mq.RW (fs:=fG gs) (fl:=λt=>gv rl t) (fg:=λt=>gv rg t) (λf hf u hu=>by
   obtain⟨g,mM,rfl⟩:=a0a.mp hf
   exact Hy (hg g mM) (by have:=m8 _ (a0a.mpr ⟨g,mM,rfl⟩);lia))
  (a0a.mpr ⟨rl,ff,rfl⟩) (λu hu=>RX (hg rl ff) (by lia)) (a0a.mpr ⟨rg,qY,rfl⟩) (λu hu=>Hy (hg rg qY) (by lia)) (by lia) (by lia) (by lia) (by lia) (by lia) hr hf).symm
end Me
namespace L2
open PySem PySem.Spec PyProof.Rows
section
variable{X:Cx}{tg:Expr}
end
section
variable{X:Cx}
theorem vb{P:Program}{w:World}{vs:List (aE×Value)}{ns:List Int}(hk:vs.map (·.1)=ns.map Sum.inl){i:Nat}{v:Value}(h:∃k x,vs[i]?=some (k,x)/\(y_ P w).is k v=true):∃n t,ns[i]?=some n/\v=Value.int n t:=by
 obtain⟨k,x,h1,h2⟩:=h
 have h3:(vs.map (·.1))[i]?=some k:=by rw[Z2,h1];rfl
 rw[hk,Z2] at h3
 cases q:ns[i]? with
 | none=>rw[q] at h3;cases h3
 | some m =>
  rw[q] at h3
  have h4:Sum.inl m=k:=Z6 h3
  subst h4
  have h5:jq (Sum.inl m) v=true:=h2
  rcases H_ h5 with⟨i',t,e1,e2⟩ | ⟨y,t,e1,_⟩
  ·cases e1;exact⟨m,t,rfl,e2⟩
  ·cases e1
theorem R3(hc:X.calm=true):dm X (.builtin "max") (λxs H Q=>∃(a:Addr) (kvs:List (aE×V)) (ns:List Int),xs=[.ref a]/\Rd H a (.dK kvs)/\kvs.map (·.1)=ns.map Sum.inl/\0<ns.length/\Q (.int (Ma.bD ns)) H):=by
 intro aa s σ H xs us Q I r h
 obtain⟨a,kvs,ns,rfl,e,hk,aZ,q⟩:=h
 obtain⟨u,rfl,ru⟩:=vals1 r
 cases ru
 obtain⟨z,hd,vs,bT,o,es,ep,ho,dd⟩:=kI I.am e
 have jc:vs.map (·.1)=ns.map Sum.inl:=by rw[<-bT.keys];exact hk
 have hn:vs.length=ns.length:=by simpa using congrArg List.length jc
 have KS:=a2M (prog:=X.prog) (w:=X.w) (ep:=ep) (kvs:=vs) (knd:=y_ X.prog X.w) hd
 have iw:∀(i:Nat) (v:Value),(∃k x,vs[i]?=some (k,x)/\(y_ X.prog X.w).is k v=true)->∃t,v=.int ((λi=>(ns[i]?).getD 0) i) t:=λi v hP=>by
  obtain⟨n,t,e,rfl⟩:=vb jc hP
  exact⟨t,by simp[e]⟩
 obtain⟨oI,St,cF,W,st⟩:=KS.iter X.A.in1 s (I.ok.hd hc) ⟨o,es,ho,dd⟩
 refine call_max_walk (cF _ _ ?_)
 refine⟨_,_,_,_,_,_,_,rfl,W,st,λb cv=>?_,by omega,CmpOf.ints_gt (λi=>(ns[i]?).getD 0) iw,λv h' tk hP hk=>?_⟩
 ·show b<(s.heap.push _).objs.size
  rw[a0x]
  rcases ZZ.mp cv with rfl | cv
  ·exact a0I _
  ·rw[a0h.mp cv];exact a1c (ZY ho)
 ·rw[hn] at hP
  have ab:=argBest_gt (λi=>(ns[i]?).getD 0) (ns.length-1)
  obtain⟨n,t,e,rfl⟩:=vb jc hP
  have em:n=Ma.bD ns:=Ma.Fx (Z1 e) λm hm=>by
   obtain⟨j,hj⟩:=a0P hm
   have yM:=(ZX.mp hj).1
   have a2:=ab.2 j (by omega)
   simp only[hj,e,a2k] at a2
   exact a2
  subst em
  exact⟨.int _,H,I.kept (t':=tk) (h':=h') (λb o e=>hk b o (λhI=>absurd (ZY e) (by rw[a0h.mp hI];exact a0G _)) (ZV _ e)),⟨_,rfl⟩,q⟩
theorem R4(hc:X.calm=true):dm X (.builtin "min") (λxs H Q=>∃(a:Addr) (kvs:List (aE×V)) (ns:List Int),xs=[.ref a]/\Rd H a (.dK kvs)/\kvs.map (·.1)=ns.map Sum.inl/\0<ns.length/\Q (.int (Ma.aV ns)) H):=by
 intro aa s σ H xs us Q I r h
 obtain⟨a,kvs,ns,rfl,e,hk,aZ,q⟩:=h
 obtain⟨u,rfl,ru⟩:=vals1 r
 cases ru
 obtain⟨z,hd,vs,bT,o,es,ep,ho,dd⟩:=kI I.am e
 have jc:vs.map (·.1)=ns.map Sum.inl:=by rw[<-bT.keys];exact hk
 have hn:vs.length=ns.length:=by simpa using congrArg List.length jc
 have KS:=a2M (prog:=X.prog) (w:=X.w) (ep:=ep) (kvs:=vs) (knd:=y_ X.prog X.w) hd
 have iw:∀(i:Nat) (v:Value),(∃k x,vs[i]?=some (k,x)/\(y_ X.prog X.w).is k v=true)->∃t,v=.int ((λi=>(ns[i]?).getD 0) i) t:=λi v hP=>by
  obtain⟨n,t,e,rfl⟩:=vb jc hP
  exact⟨t,by simp[e]⟩
 obtain⟨oI,St,cF,W,st⟩:=KS.iter X.A.in1 s (I.ok.hd hc) ⟨o,es,ho,dd⟩
 refine call_min_walk (cF _ _ ?_)
 refine⟨_,_,_,_,_,_,_,rfl,W,st,λb cv=>?_,by omega,CmpOf.ints_lt (λi=>(ns[i]?).getD 0) iw,λv h' tk hP hk=>?_⟩
 ·show b<(s.heap.push _).objs.size
  rw[a0x]
  rcases ZZ.mp cv with rfl | cv
  ·exact a0I _
  ·rw[a0h.mp cv];exact a1c (ZY ho)
 ·rw[hn] at hP
  have ab:=argBest_lt (λi=>(ns[i]?).getD 0) (ns.length-1)
  obtain⟨n,t,e,rfl⟩:=vb jc hP
  have em:n=Ma.aV ns:=Ma.Fy (Z1 e) λm hm=>by
   obtain⟨j,hj⟩:=a0P hm
   have yM:=(ZX.mp hj).1
   have a2:=ab.2 j (by omega)
   simp only[hj,e,a2k] at a2
   exact a2
  subst em
  exact⟨.int _,H,I.kept (t':=tk) (h':=h') (λb o e=>hk b o (λhI=>absurd (ZY e) (by rw[a0h.mp hI];exact a0G _)) (ZV _ e)),⟨_,rfl⟩,q⟩
end
end L2
namespace Hv
open PySem L2
def iz(f:Int->Int)(lo:Int)(n:Nat):List V:=(List.range (n+1)).map λk=>V.int (Mq.sm f lo k)
theorem R5(f:Int->Int)(lo:Int)(n:Nat):(iz f lo n).length=n+1:=by simp[iz]
theorem Hz(f:Int->Int)(lo:Int)(n:Nat):iz f lo (n+1)=iz f lo n++[.int (Mq.sm f lo (n+1))]:=by
 unfold iz
 rw[a2r (n:=n+1),a0p]
 rfl
theorem HA{f:Int->Int}{lo:Int}{n k:Nat}(h:k<=n):(iz f lo n)[k]?=some (.int (Mq.sm f lo k)):=by
 unfold iz
 rw[Z2,a2u (by lia)]
 rfl
theorem R7(f:Int->Int)(lo:Int):∀n:Nat,dQ (iz f lo n) (-1)=some (.int (Mq.sm f lo n))
 | 0=>xF [] (V.int (Mq.sm f lo 0))
 | n+1=>by rw[Hz];exact xF _ _
theorem qZ{α β:Type}{R:α->β->Prop}:∀ {as:List α} {bs:List β},Paired R as bs->∀ {i:Nat} {a:α},as[i]?=some a->∃b,bs[i]?=some b/\R a b
 | _,_,.cons h t,0,a,e=>by cases e;exact⟨_,rfl,h⟩
 | _,_,.cons h t,i+1,a,e=>by
  rw[a1m] at e
  obtain⟨b,h1,h2⟩:=qZ t e
  exact⟨b,by rw[a1m];exact h1,h2⟩
def zH:Sp:=λvs H Q _=>∃(q:Addr) (g:List (Int×Int)) (lo hi:Int),vs=[.ref q,.int lo,.int hi]/\H q=some (.dK (aJ g))/\-5000<=lo/\lo<=5000/\-5000<=hi/\hi<=5000/\
 ∀r H',H r=none->ag H H'->H' r=some (.lst (iz (Me.gv g) lo (hi+1-lo).toNat))->Q (.ref r) H'
abbrev q9(H:Hp)(lo:Int)(n:Nat)(rs:List Addr)(rows:List (List (Int×Int))):Prop:=Paired (λr row=>H r=some (.lst (iz (λt=>Me.gv row t) lo n))) rs rows
theorem q9.keep{H H':Hp}{lo:Int}{n:Nat}{rs:List Addr}{rows:List (List (Int×Int))}(s:ag H H')(h:q9 H lo n rs rows):q9 H' lo n rs rows:=L2.Paired.iM h λq row e=>s _ _ e
abbrev oO(H:Hp)(qs:List Addr)(gs:List (List (Int×Int))):Prop:=Paired (λq g=>H q=some (.dK (aJ g))) qs gs
theorem oO.keep{H H':Hp}{qs:List Addr}{gs:List (List (Int×Int))}(h:oO H qs gs)(s:ag H H'):oO H' qs gs:=L2.Paired.iM h λq g e=>s _ _ e
def zI:Sp:=λvs H Q _=>∃(p:Addr) (rs:List Addr) (rows:List (List (Int×Int))) (lo:Int) (n s e:Nat),vs=[.ref p,.int s,.int e]/\H p=some (.lst (rs.map V.ref))/\q9 H lo n rs rows/\(∀row∈rows,Me.fe row)/\n<=20000/\s<=e/\e<=n/\
 Q (.int (Mq.pr (Me.fG rows) (lo+s) (e-s))) H
section
variable{P:Program}{w:World}{K:PySem.W.Frag}{mg:Str->Option Value}{base:Heap}
theorem HB:aQ ["ways","low","high","counts","total"] ["ways","low","high"] (g_ yw):=⟨rfl,rfl,rfl,by decide +kernel,rfl,by decide +kernel,by decide +kernel⟩
theorem R8{f:Addr}{fd:FuncData}(F:aG K "running_counts" "running_counts" yw f fd)(T:Txt mg):ax P w K mg base aK 1 f fd ["ways","low","high"] zH:=by
 refine F.ok HB (λvs H Q E h=>?_) (λae A outer s H vs Q E hr h=>?_)
 ·obtain⟨q,g,lo,hi,rfl,_⟩:=h;rfl
 ·obtain⟨q,g,lo,hi,rfl,hq,a1,a2,a3,a4,k⟩:=h
  have nd:=HB.nd
  have hu:=oh hr
  refine⟨_,c_ (k_ (i:=3) nd rfl (Or.inl rfl) (A_ (a_ f_ e_)))
   (c_ (Y_ PassesOwn.never rfl (MG (by rfl) T.range (a_ (pv 1) (a_ (p_ K_ (pv 2) f_) e_))) (q_ (i:=4) nd rfl (Or.inl rfl))
    (h_ (C_ (kn PySem.F.plainAttrs_list PySem.F.slot_list_append PySem.F.type_list_append ko (pv 3) (a_ (p_ K_ (cg (pv 3) (fE fI f_)) (ur hu (pv 0) (pv 4) f_ ⟨rfl,rfl,rfl,rfl⟩)) e_)))))
   (h_ (n_ (pv 3)))),?_⟩
  refine⟨sz (by simp),λr dj=>?_⟩
  have s0:=b_ (o:=.lst [.int 0]) dj
  refine⟨_,rfl,_,rfl,_,_,rfl,rfl,_,_,rfl,⟨by lia,by lia,by lia,by lia⟩,?_⟩
  refine iR (n:=(hi+1-lo).toNat) (λi σ H2=>∃v4,σ=[some (.ref q),some (.int lo),some (.int hi),some (.ref r),v4]/\ag H H2/\H2 r=some (.lst (iz (Me.gv g) lo i))) ⟨none,rfl,s0,d_⟩ ?_ ?_
  ·rintro i σ H2 dr ⟨v4,rfl,s2,h2⟩
   refine⟨_,rfl,.inl ⟨rfl,_,af.of h2⟩,_,rfl,1,rfl,?_⟩
   have e1:=R7 (Me.gv g) lo i
   refine eY h2 e1 ⟨_,rfl,q,rfl,.inl ⟨_,.inl (s2 _ _ hq)⟩,_,rfl,_,mE (.inl (s2 _ _ hq)),_,_,rfl,uS _,⟨r,_,_,rfl,rfl,h2,cq (by rw[R5];lia),_,rfl,iY s2 dj,?_⟩⟩
   rw[d_,Hz]
   rfl
  ·rintro σ H2 ⟨v4,rfl,s2,h2⟩
   exact⟨_,rfl,k r H2 dj s2 h2⟩
theorem zJ{qs:List Addr}{i:Nat}{x:V}(hx:(qs.map V.ref)[i]?=some x):∃q:Addr,qs[i]?=some q/\x=.ref q:=by
 rw[Z2] at hx
 cases e:qs[i]? with
 | none=>rw[e] at hx;cases hx
 | some d=>rw[e] at hx;exact⟨d,rfl,(Z6 hx).symm⟩
theorem R9(f:Int->Int)(lo:Int){s e:Nat}(h:s<=e):Mq.sm f lo e-Mq.sm f lo s=Mq.sm f (lo+s) (e-s):=by
 obtain⟨k,rfl⟩:=Nat.exists_eq_add_of_le h
 rw[Mq.qW,a1F]
 lia
theorem R'{rows:List (List (Int×Int))}{i:Nat}{row:List (Int×Int)}(h:rows[i]?=some row)(a:Int)(n:Nat):Mq.pr (Me.fG (rows.take (i+1))) a n=Mq.pr (Me.fG (rows.take i)) a n*Mq.sm (λt=>Me.gv row t) a n:=by
 unfold Mq.pr Me.fG
 rw[Z8,h]
 simp
theorem HC:aQ ["running_by_part","start","end","many","running"] ["running_by_part","start","end"] (g_ yx):=⟨rfl,rfl,rfl,by decide +kernel,rfl,by decide +kernel,by decide +kernel⟩
theorem Sa{f:Addr}{fd:FuncData}(F:aG K "ways_within" "ways_within" yx f fd):ax P w K mg base aK 1 f fd ["running_by_part","start","end"] zI:=by
 refine F.ok HC (λvs H Q E h=>?_) (λae A outer s H vs Q E hr h=>?_)
 ·obtain⟨p,rs,rows,lo,n,s,e,rfl,_⟩:=h;rfl
 ·obtain⟨p,rs,rows,lo,n,st,e,rfl,hp,ra,gZ,hn,Sb,Zp,k⟩:=h
  have nd:=HC.nd
  refine⟨_,c_ (k_ (i:=3) nd rfl (Or.inl rfl) f_)
   (c_ (Y_ PassesOwn.never rfl (S_ (pv 0)) (q_ (i:=4) nd rfl (Or.inl rfl))
    (h_ (k_ (i:=3) nd rfl (Or.inl rfl) (p_ fH (pv 3) (p_ fF (cg (pv 4) (pv 2)) (cg (pv 4) (pv 1)))))))
   (h_ (n_ (pv 3)))),?_⟩
  refine⟨_,rfl,p,rfl,⟨_,af.of hp⟩,kf (K:=K) (a:=p) (xs:=rs.map V.ref) (λi σ H'=>∃v4,σ=[some (.ref p),some (.int st),some (.int e),some (.int (Mq.pr (Me.fG (rows.take i)) (lo+st) (e-st))),v4]/\H=H')
   ⟨none,rfl,rfl⟩ (λi σ H' _ h=>by obtain⟨_,_,e⟩:=h;rw[<-e];exact af.of hp) ?_ ?_⟩
  ·rintro i x σ H' hx ⟨v4,rfl,rfl⟩
   obtain⟨q,hq,rfl⟩:∃q:Addr,rs[i]?=some q/\x=.ref q:=by
    rw[Z2] at hx
    cases e:rs[i]? with
    | none=>rw[e] at hx;cases hx
    | some d=>rw[e] at hx;exact⟨d,rfl,(Z6 hx).symm⟩
   obtain⟨row,hj,bU⟩:=qZ ra hq
   have hl:=gZ row (Z1 hj)
   have bd:=Me.Hx (f:=λt=>Me.gv row t) hl.val (lo+st) (e-st)
   refine⟨_,rfl,_,rfl,_,rfl,eY bU (km (HA (by lia))) ⟨_,rfl,_,rfl,eY bU (km (HA (by lia))) ⟨_,_,rfl,rfl,?_⟩⟩⟩
   dsimp only
   rw[R9 _ _ Sb]
   refine⟨_,_,rfl,rfl,.inr ⟨by lia,by lia⟩,some (.ref q),?_,rfl⟩
   rw[R' hj]
   rfl
  ·rintro σ H' ⟨v4,rfl,rfl⟩
   have el:(rs.map V.ref).length=rows.length:=by rw[ZW];exact ra.length
   rw[el,a0e]
   exact⟨_,rfl,k⟩
def vc:Sp:=λvs H Q _=>∃(p:Addr) (qs:List Addr) (rows:List (List (Int×Int))) (d:Nat),vs=[.ref p,.int d]/\H p=some (.lst (qs.map V.ref))/\oO H qs rows/\0<rows.length/\rows.length<=4/\(∀row∈rows,Me.fe row)/\
 ∀H',ag H H'->Q (.int (Me.mL rows d)) H'
theorem HD:aQ ["ways_by_part","width","leasts","greatests","reach","first","last","running_by_part","count","start","end"] ["ways_by_part","width"] (g_ ot):=⟨rfl,rfl,rfl,by decide +kernel,rfl,by decide +kernel,by decide +kernel⟩
theorem Sc{f:Addr}{fd:FuncData}(F:aG K "count_spread_within" "count_spread_within" ot f fd)(T:Txt mg)(DR:ak P w K mg base 1 "running_counts" ["ways","low","high"] zH)(DW:ak P w K mg base 1 "ways_within" ["running_by_part","start","end"] zI) :
  ax P w K mg base aK 2 f fd ["ways_by_part","width"] vc:=by
 refine F.ok HD (λvs H Q E h=>?_) (λae A outer s H vs Q E hr h=>?_)
 ·obtain⟨p,qs,rows,d,rfl,_⟩:=h;rfl
 ·obtain⟨p,qs,rows,d,rfl,hp,wa,aZ,h4,gZ,k⟩:=h
  have nd:=HD.nd
  refine⟨_,c_ (tD (g_ ot) ["ways_by_part","width","leasts","greatests","reach","first","last","running_by_part","count","start","end"] [] [] (i:=2) nd rfl (Or.inl rfl) rfl (S_ (pv 0)) (λcl C s H fp=>fZ) (λcl C s H fp=>r_ (R4 rfl) (by rfl) T.min boot_min (a_ (pv 0) e_)) (by decide +kernel) (by rfl))
   (c_ (tD (g_ ot) ["ways_by_part","width","leasts","greatests","reach","first","last","running_by_part","count","start","end"] [] [] (i:=3) nd rfl (Or.inl rfl) rfl (S_ (pv 0)) (λcl C s H fp=>fZ) (λcl C s H fp=>r_ (R3 rfl) (by rfl) T.max boot_max (a_ (pv 0) e_)) (by decide +kernel) (by rfl))
   (c_ (k_ (i:=4) nd rfl (Or.inr rfl) (r_ (Ek rfl) (by rfl) T.min boot_min (a_ (pv 1) (a_ (p_ fF (r_ (FE rfl) (by rfl) T.max boot_max (a_ (pv 3) e_)) (r_ (yN rfl) (by rfl) T.min boot_min (a_ (pv 2) e_))) e_))))
   (c_ (k_ (i:=5) nd rfl (Or.inr rfl) (r_ (xx rfl) (by rfl) T.max boot_max (a_ (r_ (yN rfl) (by rfl) T.min boot_min (a_ (pv 2) e_)) (a_ (p_ fF (r_ (FE rfl) (by rfl) T.max boot_max (a_ (pv 2) e_)) (pv 4)) e_))))
   (c_ (k_ (i:=6) nd rfl (Or.inr rfl) (r_ (yN rfl) (by rfl) T.min boot_min (a_ (pv 3) e_)))
   (c_ (tD (g_ ot) ["ways_by_part","width","leasts","greatests","reach","first","last","running_by_part","count","start","end"] ["first","last","reach"] [5,6,4] (i:=7) nd rfl (Or.inl rfl) rfl (S_ (pv 0)) (λcl C s H fp=>fZ) (λcl C s H fp=>o_ DR hr (by rfl) (a_ (pv 0) (a_ (pv 1) (a_ (p_ K_ (pv 2) (pv 3)) e_)))) (by decide +kernel) (by rfl))
   (c_ (k_ (i:=8) nd rfl (Or.inl rfl) f_)
   (c_ (Y_ PassesOwn.never rfl (M_ (by rfl) T.range (a_ (p_ K_ (p_ fF (pv 6) (pv 5)) f_) e_)) (q_ (i:=9) nd rfl (Or.inl rfl))
    (c_ (k_ (i:=10) nd rfl (Or.inl rfl) (p_ K_ (p_ K_ (pv 9) (pv 4)) f_))
    (h_ (Mt (i:=8) nd rfl (Or.inl rfl) (p_ fF (o_ DW hr (by rfl) (a_ (pv 7) (a_ (pv 9) (a_ (pv 10) e_)))) (o_ DW hr (by rfl) (a_ (pv 7) (a_ (p_ K_ (pv 9) f_) (a_ (pv 10) e_))))) My))))
   (h_ (n_ (pv 8)))))))))),?_⟩
  have jM:qs.length=rows.length:=wa.length
  refine⟨_,rfl,p,rfl,⟨_,af.of hp⟩,iX (K:=K) (a:=p) (xs:=qs.map V.ref) (λi ys H2=>ys=(Me.bK (rows.take i)).map V.int/\H=H2) ⟨rfl,rfl⟩ (λi ys H2 _ h=>by rw[<-h.2];exact af.of hp) ?_ ?_⟩
  ·rintro i x ys H2 hx ⟨rfl,rfl⟩
   obtain⟨q,hq,rfl⟩:=zJ hx
   have mn:i<qs.length:=(ZX.mp hq).1
   obtain⟨g,hj,hg⟩:=qZ wa hq
   have kl:=(gZ g (Z1 hj)).ne
   refine⟨cq (by simp[Me.bK];lia),_,rfl,q,aJ g,Me.keys g,rfl,.inl hg,by simp[aJ,Me.keys],kl,?_,rfl⟩
   rw[Z8,hj]
   simp[Me.bK]
  rintro ys H2 ⟨rfl,rfl⟩ l1 h1
  rw[ZW,jM,a0e]
  have s1:=b_ (o:=.lst ((Me.bK rows).map V.int)) h1
  have u1:upd H l1 (.lst ((Me.bK rows).map V.int)) l1=some (.lst ((Me.bK rows).map V.int)):=d_
  generalize upd H l1 (.lst ((Me.bK rows).map V.int))=H1 at s1 u1⊢
  have kO:=s1 _ _ hp
  have Sd:=wa.keep s1
  refine⟨_,rfl,p,rfl,⟨_,af.of kO⟩,iX (K:=K) (a:=p) (xs:=qs.map V.ref) (λi ys H2=>ys=(Me.bZ (rows.take i)).map V.int/\H1=H2) ⟨rfl,rfl⟩ (λi ys H2 _ h=>by rw[<-h.2];exact af.of kO) ?_ ?_⟩
  ·rintro i x ys H2 hx ⟨rfl,rfl⟩
   obtain⟨q,hq,rfl⟩:=zJ hx
   have mn:i<qs.length:=(ZX.mp hq).1
   obtain⟨g,hj,hg⟩:=qZ Sd hq
   have kl:=(gZ g (Z1 hj)).ne
   refine⟨cq (by simp[Me.bZ];lia),_,rfl,q,aJ g,Me.keys g,rfl,.inl hg,by simp[aJ,Me.keys],kl,?_,rfl⟩
   rw[Z8,hj]
   simp[Me.bZ]
  rintro ys H2 ⟨rfl,rfl⟩ l2 h2
  rw[ZW,jM,a0e]
  have s2:=s1.trans (b_ (o:=.lst ((Me.bZ rows).map V.int)) h2)
  have u2:upd H1 l2 (.lst ((Me.bZ rows).map V.int)) l2=some (.lst ((Me.bZ rows).map V.int)):=d_
  have vd:=b_ (o:=.lst ((Me.bZ rows).map V.int)) h2 _ _ u1
  generalize upd H1 l2 (.lst ((Me.bZ rows).map V.int))=H2 at s2 u2 vd⊢
  have nl:0<(Me.bK rows).length:=by rw[Me.bK,ZW];exact aZ
  have nh:0<(Me.bZ rows).length:=by rw[Me.bZ,ZW];exact aZ
  have B:=Me.zG aZ gZ
  obtain⟨B1,B2,B3,B4,B5,B6⟩:=B
  refine⟨_,rfl,_,rfl,l2,_,rfl,af.of u2,nh,_,rfl,l1,_,rfl,af.of vd,nl,_,_,rfl,rfl,_,_,rfl,?_⟩
  dsimp only
  obtain⟨r,dj⟩:∃r:Nat,(r:Int)=if Ma.bD (Me.bZ rows)-Ma.aV (Me.bK rows)<(d:Int) then Ma.bD (Me.bZ rows)-Ma.aV (Me.bK rows) else (d:Int):=⟨(if Ma.bD (Me.bZ rows)-Ma.aV (Me.bK rows)<(d:Int) then Ma.bD (Me.bZ rows)-Ma.aV (Me.bK rows) else (d:Int)).toNat,by split <;> lia⟩
  rw[<-dj]
  have rb:(r:Int)<=1620:=by split at dj <;> lia
  refine⟨_,rfl,l1,_,rfl,af.of vd,nl,_,rfl,l1,_,rfl,af.of vd,nl,_,rfl,_,_,rfl,rfl,_,_,rfl,?_⟩
  dsimp only
  generalize hf:(if Ma.bD (Me.bK rows)-(r:Int)>Ma.aV (Me.bK rows) then Ma.bD (Me.bK rows)-(r:Int) else Ma.aV (Me.bK rows))=first
  have fb : -2430<=first/\first<=810:=by rw[<-hf];split <;> lia
  refine⟨_,rfl,l2,_,rfl,af.of u2,nh,?_⟩
  generalize jf:Ma.aV (Me.bZ rows)=last
  rw[jf] at B4 B5
  have cO:=s2 _ _ hp
  have Se:=wa.keep s2
  obtain⟨n,hn⟩:∃n:Nat,n=(last+(r:Int)+1-first).toNat:=⟨_,rfl⟩
  refine⟨_,rfl,p,rfl,⟨_,af.of cO⟩,iX (K:=K) (a:=p) (xs:=qs.map V.ref) (λi ys H3=>∃ts,ys=ts.map V.ref/\ts.length=i/\ag H2 H3/\q9 H3 first n ts (rows.take i))
   ⟨[],rfl,rfl,ag.refl _,.nil⟩ (λi ys H3 _ h=>by obtain⟨_,_,_,s',_⟩:=h;exact af.of (s' _ _ cO)) ?_ ?_⟩
  ·rintro i x ys H3 hx ⟨ts,rfl,ci,s3,ra⟩
   obtain⟨q,hq,rfl⟩:=zJ hx
   have mn:i<qs.length:=(ZX.mp hq).1
   obtain⟨g,hj,hg⟩:=qZ Se hq
   refine⟨cq (by rw[ZW];lia),_,rfl,_,rfl,_,rfl,_,rfl,_,_,rfl,rfl,q,g,first,last+(r:Int),rfl,s3 _ _ hg,by lia,by lia,by lia,by lia,λr' H4 HE s4 h4=>?_⟩
   refine⟨ts++[r'],by simp,by simp[ci],s3.trans s4,?_⟩
   rw[Z8,hj]
   rw[<-hn] at h4
   exact Paired.snoc (ra.keep s4) h4
  rintro ys H3 ⟨ts,rfl,ci,s3,ra⟩ l3 h3
  rw[ZW,jM,a0e] at ra
  have s4:=(s2.trans s3).trans (b_ (o:=.lst (ts.map V.ref)) h3)
  have zK:=ra.keep (b_ (o:=.lst (ts.map V.ref)) h3)
  have u3:upd H3 l3 (.lst (ts.map V.ref)) l3=some (.lst (ts.map V.ref)):=d_
  generalize upd H3 l3 (.lst (ts.map V.ref))=H4 at s4 zK u3⊢
  refine⟨_,rfl,_,rfl,_,_,rfl,rfl,_,_,rfl,rfl,_,rfl,by lia,by lia,?_⟩
  have en:(last-first+1).toNat=(Ma.aV (Me.bZ rows)-first+1).toNat:=by rw[jf]
  refine iR (lo:=0) (n:=(last-first+1).toNat) (λi σ H5=>∃v9 mO,σ=[some (.ref p),some (.int d),some (.ref l1),some (.ref l2),some (.int r),some (.int first),some (.int last),some (.ref l3),some (.int (Mq.sm (Mq.dF (Me.fG rows) r) first i)),v9,mO]/\H4=H5) ⟨none,none,?_,rfl⟩ ?_ ?_
  ·rfl
  ·rintro i σ H5 hi ⟨v9,mO,rfl,rfl⟩
   refine⟨_,rfl,_,rfl,_,_,rfl,rfl,_,_,rfl,rfl,?_⟩
   dsimp only
   refine⟨_,rfl,_,rfl,_,rfl,_,rfl,l3,ts,rows,first,n,i,i+r+1,?_,u3,zK,gZ,by lia,by lia,by lia,?_⟩
   ·show[V.ref l3,V.int (0+(i:Int)),V.int (0+(i:Int)+(r:Int)+1)]=_
    rw[a1t]
    push_cast
    rfl
   refine⟨_,rfl,_,rfl,_,_,rfl,rfl,_,rfl,l3,ts,rows,first,n,i+1,i+r+1,?_,u3,zK,gZ,by lia,by lia,by lia,?_⟩
   ·show[V.ref l3,V.int (0+(i:Int)+1),V.int (0+(i:Int)+(r:Int)+1)]=_
    rw[a1t]
    push_cast
    rfl
   refine⟨_,_,rfl,rfl,_,_,rfl,rfl,some (.int (0+(i:Int))),some (.int (0+(i:Int)+(r:Int)+1)),?_,rfl⟩
   have e1:i+r+1-i=r+1:=by lia
   have e2:i+r+1-(i+1)=r:=by lia
   have e3:first+((i+1:Nat):Int)=first+(i:Int)+1:=by push_cast;lia
   rw[e1,e2,e3]
   rfl
  ·rintro σ H5 ⟨v9,mO,rfl,rfl⟩
   refine⟨_,rfl,?_⟩
   rw[en,Me.R1 aZ gZ dj hf.symm]
   exact k _ s4
end
end Hv
namespace Ma
def num(b:Nat)(ds:List Nat):Nat:=ds.foldl (λx d=>x*b+d) 0
theorem Sf(b d:Nat)(l:List Nat):num b (l++[d])=num b l*b+d:=by
 unfold num
 rw[a1C]
 rfl
theorem HF{b i d:Nat}{ds:List Nat}(h:ds[i]?=some d):num b (ds.take (i+1))=num b (ds.take i)*b+d:=by
 rw[Z8,h]
 exact Sf b d _
def Zq(b n L:Nat):Nat:=num b (aI b n L L).reverse
theorem Sg{b n L:Nat}(hb:0<b)(hn:n<b ^ L):num b (aI b n L L)=n:=by
 have:∀i,i<=L->num b ((aI b n L L).take i)=n / b ^ (L-i):=by
  intro i
  induction i with
  | zero=>intro _;rw[List.take_zero,a1s,a1Q hn];rfl
  | succ i ih =>
   intro hi
   have dr:i<L:=hi
   have g:(aI b n L L)[i]?=some (n / b ^ (L-1-i) % b):=by simp[aI,dr]
   rw[HF g,ih (by lia)]
   have e1:L-i=(L-1-i)+1:=by lia
   have e2:L-(i+1)=L-1-i:=by lia
   rw[e1,e2,a1q,<-a0U,a0H]
   exact a1W _ _
 have h:=this L (Z0 _)
 rw[a1D,a1I,a2H,a0v (by rw[W_];exact Z0 _)] at h
 exact h
end Ma
namespace Hv
open PySem L2
theorem zL{ds:List Nat}{i:Nat}{x:V}(h:(ay ds)[i]?=some x):∃y:Nat,ds[i]?=some y/\x=.int (y:Int):=by
 simp only[ay,Z2] at h
 cases e:ds[i]? with
 | none=>rw[e] at h;cases h
 | some d=>rw[e] at h;exact⟨d,rfl,(Z6 h).symm⟩
def zM:Sp:=λvs H Q _=>∃(b:Nat) (r:Addr) (ds:List Nat),vs=[.int b,.ref r]/\b<=16/\H r=some (.lst (ay ds))/\Q (.int ((Ma.num b ds:Nat):Int)) H
section
variable{P:Program}{w:World}{K:PySem.W.Frag}{mg:Str->Option Value}{base:Heap}
theorem HG:aQ ["base","figures","number","figure"] ["base","figures"] (g_ yy):=⟨rfl,rfl,rfl,by decide +kernel,rfl,by decide +kernel,by decide +kernel⟩
theorem Si{f:Addr}{fd:FuncData}(F:aG K "number_of" "number_of" yy f fd):ax P w K mg base aK 1 f fd ["base","figures"] zM:=by
 refine F.ok HG (λvs H Q E h=>?_) (λae A outer s H vs Q E hr h=>?_)
 ·obtain⟨b,r,ds,rfl,_⟩:=h;rfl
 ·obtain⟨b,r,ds,rfl,hb,hd,k⟩:=h
  have nd:=HG.nd
  refine⟨_,c_ (k_ (i:=2) nd rfl (Or.inl rfl) f_)
   (c_ (Y_ PassesOwn.never rfl (S_ (pv 1)) (q_ (i:=3) nd rfl (Or.inl rfl)) (h_ (k_ (i:=2) nd rfl (Or.inl rfl) (p_ K_ (p_ fH (pv 2) (pv 0)) (pv 3)))))
   (h_ (n_ (pv 2)))),?_⟩
  refine⟨_,rfl,r,rfl,⟨_,af.of hd⟩,kf (K:=K) (a:=r) (xs:=ay ds) (λi σ H'=>H=H'/\∃v3,σ=[some (.int b),some (.ref r),some (.int ((Ma.num b (ds.take i):Nat):Int)),v3])
   ⟨rfl,none,rfl⟩ (λi σ H' _ h=>by rw[<-h.1];exact af.of hd) ?_ ?_⟩
  ·rintro i x σ H' hx ⟨rfl,v3,rfl⟩
   obtain⟨y,hy,rfl⟩:=zL hx
   refine⟨_,rfl,_,rfl,_,_,rfl,rfl,.inr ⟨by lia,by lia⟩,_,rfl,_,_,rfl,rfl,rfl,some (.int (y:Int)),?_⟩
   rw[Ma.HF hy]
   push_cast
   rfl
  ·rintro σ H' ⟨rfl,v3,rfl⟩
   refine⟨_,rfl,?_⟩
   have e:(ay ds).length=ds.length:=by simp[ay]
   rw[e,a0e]
   exact k
end
end Hv
namespace L2
open PySem PySem.Spec PyProof.Rows
abbrev cR(h:Heap)(T:Addr)(a b c:Value):Prop:=h.get? T=some {cls:=.type "tuple",data:=.seq #[a,b,c]}
theorem Sj(a b c:Value):checkTypeCall "zip" ⟨[a,b,c],[]⟩=pure ():=by kernel_rfl
theorem Sk(a b c:Value):checkBuiltinCall "zip.__new__" ⟨[.type "zip",a,b,c],[]⟩=pure ():=by kernel_rfl
theorem Sl(a b c d:Value):argsOk "object.__init__" ⟨[a,b,c,d],[]⟩:=by
 unfold argsOk;rw[signature?_of (id:="object.__init__") (n:=['_','_','t','i','n','i','_','_']) (o:=['t','c','e','j','b','o']) (by kernel_rfl) F.owner_object];kernel_rfl
structure Zd(z TI TO i1 i2 i3 l1 l2 l3:Addr):Prop where
 nd:[z,TI,TO,i1,i2,i3].Nodup
 f1:l1∉[z,TO,i1,i2,i3]
 f2:l2∉[z,TO,i1,i2,i3]
 f3:l3∉[z,TO,i1,i2,i3]
section
variable{prog:Program}{w:World}{A:Around}{E:Value->Shared->Prop}{s:Shared}
theorem zN{T:Addr}{a b c x:Value}{k:Nat}{Q:Unit->Shared->Prop}(hT:cR s.heap T a b c)
  (h:∀h',h'.get? T=some {cls:=.type "tuple",data:=.seq ((#[a,b,c]:Array Value).setIfInBounds k x)}->Heap.SameBut T s.heap h'->Q () {s with heap:=h'}) :
  wpAny (model prog w) A (updateSeq T (·.setIfInBounds k x)) Q E s:=by
 refine wpAny_updateSeq hT rfl (h _ ?_ (Heap.SameBut.update ..))
 rw[a1x _ hT rfl]
 simp[Obj.mapSeq]
theorem Sm{z TI TO i1 i2 i3 l1 l2 l3:Addr}{k1 k2 k3:Nat}{xs ys zs:Array Value}{x y u a b c:Value}{Q:Value->Shared->Prop}(D:Zd z TI TO i1 i2 i3 l1 l2 l3)
  (hz:IsZip s.heap z TI TO .none) (mP:cR s.heap TI (.ref i1) (.ref i2) (.ref i3)) (oP:cR s.heap TO a b c)
  (h1:s.heap.IsListIter i1 l1 k1) (h2:s.heap.IsListIter i2 l2 k2) (h3:s.heap.IsListIter i3 l3 k3) (cX:s.heap.IsList l1 xs) (bM:s.heap.IsList l2 ys) (cQ:s.heap.IsList l3 zs) (hx:xs[k1]?=some x) (hy:ys[k2]?=some y) (hu:zs[k3]?=some u)
  (hQ:∀h',IsZip h' z TI TO (rawInt s.heap.objs.size)->cR h' TO x y u->h'.IsListIter i1 l1 (k1+1)->h'.IsListIter i2 l2 (k2+1)->h'.IsListIter i3 l3 (k3+1)->cR h' s.heap.objs.size x y u->h'.objs.size=s.heap.objs.size+1->
   (∀c o,c∉[z,TO,i1,i2,i3]->s.heap.get? c=some o->h'.get? c=some o)->Q (.ref s.heap.objs.size) {s with heap:=h'}) :
  wpAny (model prog w) A (Builtin.«zip.__next__» ⟨[.ref z],[]⟩) (λfin s'=>∃v,fin=.done (.ret v)/\Q v s') E s:=by
 have nd:=D.nd
 simp only[a0n,ZZ,a0l,or_false,not_or,not_false_eq_true,a2C,and_true] at nd
 obtain⟨⟨vf,kP,kQ,oQ,oR⟩,⟨TITO,TIi1,TIi2,zO⟩,⟨oS,oU,rc⟩,⟨mQ,mR⟩,mS⟩:=nd
 have f1:=D.f1
 have f2:=D.f2
 have f3:=D.f3
 simp only[ZZ,a0l,or_false,not_or] at f1 f2 f3
 obtain⟨zP,Sn,So,Sq,Sr⟩:=f1
 obtain⟨Ss,Su,Sv,Zr,Zs⟩:=f2
 obtain⟨Sw,Sx,Sy,Sz,Zt⟩:=f3
 show wpAny _ _ (field (.ref z) 2>>=_) _ _ _
 refine wpAny_bind (wpAny_field hz rfl (x:=.bool false) rfl ?_)
 show wpAny _ _ (field (.ref z) 3>>=_) _ _ _
 refine wpAny_bind (wpAny_field hz rfl (x:=.ref TI) rfl ?_)
 refine wpAny_bind (wpAny_seqItems mP rfl ?_)
 show wpAny _ _ (Builtin.SmallTypes.ownedTupleIsFree (.ref z)>>=_) _ _ _
 refine wpAny_bind ?_
 unfold Builtin.SmallTypes.ownedTupleIsFree
 refine wpAny_bind (wpAny_field hz rfl (x:=.none) rfl (wpAny_pure ?_))
 simp only[if_true]
 refine wpAny_bind (wpAny_rule ?_)
 refine wpAny_bind (wpAny_field hz rfl (x:=.ref TO) rfl ?_)
 refine wpAny_bind (wpAny_setField_rec hz (by simp) λH1 iy s1=>?_)
 replace iy:IsZip H1 z TI TO .ellipsis:=iy
 refine wpAny_bind ?_
 simp only[a2K,List.zipIdx_nil,a2P,List.forIn_nil]
 refine wpAny_bind (wpAny_bind (wpAny_onRaise ?_))
 show wpAny _ _ (Builtin.SmallTypes.nextOf (.ref i1)>>=_) _ _ _
 refine wpAny_bind (wpAny_nextOf_list_item (h1.extBut s1.extBut (Ne.symm kQ)) (cX.extBut s1.extBut zP) hx λH2 q2 s2=>wpAny_pure ?_)
 have t2:cR H2 TO a b c:=s2.extBut _ _ oS (s1.extBut _ _ (Ne.symm kP) oP)
 refine wpAny_bind (wpAny_seqItems t2 rfl ?_)
 refine wpAny_bind (zN t2 λH3 t3 s3=>?_)
 replace t3:cR H3 TO x b c:=t3
 refine wpAny_bind (wpAny_letGo (wpAny_pure ?_))
 refine wpAny_bind (wpAny_bind (wpAny_onRaise ?_))
 show wpAny _ _ (Builtin.SmallTypes.nextOf (.ref i2)>>=_) _ _ _
 have zQ:∀c o,c≠z->c≠TO->c≠i1->s.heap.get? c=some o->H3.get? c=some o:=λc o c1 c2 c3 e=>s3.extBut _ _ c2 (s2.extBut _ _ c3 (s1.extBut _ _ c1 e))
 refine wpAny_bind (wpAny_nextOf_list_item (h2.at λo e=>zQ _ o (Ne.symm oQ) (Ne.symm oU) (Ne.symm mQ) e) (Heap.IsList.at bM λo e=>zQ _ o Ss Su Sv e) hy λH4 q4 s4=>wpAny_pure ?_)
 have t4:cR H4 TO x b c:=s4.extBut _ _ oU t3
 refine wpAny_bind (wpAny_seqItems t4 rfl ?_)
 refine wpAny_bind (zN t4 λH5 t5 s5=>?_)
 replace t5:cR H5 TO x y c:=t5
 refine wpAny_bind (wpAny_letGo (wpAny_pure ?_))
 refine wpAny_bind (wpAny_bind (wpAny_onRaise ?_))
 show wpAny _ _ (Builtin.SmallTypes.nextOf (.ref i3)>>=_) _ _ _
 have zR:∀c o,c≠z->c≠TO->c≠i1->c≠i2->s.heap.get? c=some o->H5.get? c=some o:=λc o c1 c2 c3 c4 e=>s5.extBut _ _ c2 (s4.extBut _ _ c4 (zQ c o c1 c2 c3 e))
 refine wpAny_bind (wpAny_nextOf_list_item (h3.at λo e=>zR _ o (Ne.symm oR) (Ne.symm rc) (Ne.symm mR) (Ne.symm mS) e) (Heap.IsList.at cQ λo e=>zR _ o Sw Sx Sy Sz e) hu λH6 q6 s6=>wpAny_pure ?_)
 have t6:cR H6 TO x y c:=s6.extBut _ _ rc t5
 refine wpAny_bind (wpAny_seqItems t6 rfl ?_)
 refine wpAny_bind (zN t6 λH7 t7 s7=>?_)
 replace t7:cR H7 TO x y u:=t7
 refine wpAny_bind (wpAny_letGo (wpAny_pure (wpAny_pure ?_)))
 refine wpAny_bind (wpAny_seqItems t7 rfl ?_)
 refine wpAny_bind (wpAny_newTuple ?_)
 have hsz:H7.objs.size=s.heap.objs.size:=by rw[s7.1,s6.1,s5.1,s4.1,s3.1,s2.1,s1.1]
 have z3:IsZip H3 z TI TO .ellipsis:=s3.extBut _ _ kP (s2.extBut _ _ kQ iy)
 have z7:IsZip H7 z TI TO .ellipsis:=s7.extBut _ _ kP (s6.extBut _ _ oR (s5.extBut _ _ kP (s4.extBut _ _ oQ z3)))
 have SA:∀c o,c∉[z,TO,i1,i2,i3]->s.heap.get? c=some o->H7.get? c=some o:=λc o hc e=>by
  simp only[ZZ,a0l,or_false,not_or] at hc
  obtain⟨c1,c2,c3,c4,c5⟩:=hc
  exact s7.extBut _ _ c2 (s6.extBut _ _ c5 (zR c o c1 c2 c3 c4 e))
 have r1:H7.IsListIter i1 l1 (k1+1):=q2.at λo e=>s7.extBut _ _ (Ne.symm oS) (s6.extBut _ _ mR (s5.extBut _ _ (Ne.symm oS) (s4.extBut _ _ mQ (s3.extBut _ _ (Ne.symm oS) e))))
 have r2:H7.IsListIter i2 l2 (k2+1):=q4.at λo e=>s7.extBut _ _ (Ne.symm oU) (s6.extBut _ _ mS (s5.extBut _ _ (Ne.symm oU) e))
 have r3:H7.IsListIter i3 l3 (k3+1):=q6.at λo e=>s7.extBut _ _ (Ne.symm rc) e
 have HH:z<H7.objs.size:=ZY z7
 show wpAny _ _ (Builtin.SmallTypes.ownedTupleHandOut (.ref z) (.ref H7.objs.size)>>=_) _ _ _
 refine wpAny_bind ?_
 unfold Builtin.SmallTypes.ownedTupleHandOut
 have z8:IsZip (H7.push {cls:=.type "tuple",data:=.seq #[x,y,u]}) z TI TO .ellipsis:=ZV _ z7
 refine wpAny_bind (wpAny_setField_rec z8 (by simp) λH8 w8 s8=>?_)
 replace w8:IsZip H8 z TI TO (rawInt H7.objs.size):=w8
 refine wpAny_setField_rec w8 (by simp) λH9 w9 s9=>?_
 replace w9:IsZip H9 z TI TO (rawInt H7.objs.size):=w9
 have up:∀c o,c≠z->H7.get? c=some o->H9.get? c=some o:=λc o c1 e=>s9.extBut _ _ c1 (s8.extBut _ _ c1 (ZV _ e))
 have t9:cR H9 H7.objs.size x y u:=s9.extBut _ _ (a0M HH) (s8.extBut _ _ (a0M HH) (Z3 _ rfl))
 have zz:H9.objs.size=H7.objs.size+1:=by rw[s9.1,s8.1,a0x]
 rw[hsz] at w9 t9 zz
 refine wpAny_pure ⟨_,rfl,?_⟩
 show Q (.ref H7.objs.size) _
 rw[hsz]
 exact hQ H9 w9 (up _ _ (Ne.symm kP) t7) (r1.at λo e=>up _ o (Ne.symm kQ) e) (r2.at λo e=>up _ o (Ne.symm oQ) e) (r3.at λo e=>up _ o (Ne.symm oR) e) t9 zz λc o hc e=>up c o (λq=>hc (by simp[q])) (SA c o hc e)
theorem SB{z TI TO i1 i2 i3 l1 l2 l3:Addr}{k1:Nat}{xs:Array Value}{a b c:Value}{Q:Fin->Shared->Prop}(hh:A.handled=none)(D:Zd z TI TO i1 i2 i3 l1 l2 l3)
  (hz:IsZip s.heap z TI TO .none) (mP:cR s.heap TI (.ref i1) (.ref i2) (.ref i3)) (oP:cR s.heap TO a b c)
  (h1:s.heap.IsListIter i1 l1 k1) (cX:s.heap.IsList l1 xs) (oV:xs[k1]?=none)
  (hE:∀h' e,(∀c o,c∉[z,TO,i1,i2,i3]->s.heap.get? c=some o->h'.get? c=some o)->(∃o,h'.get? e=some o/\o.cls=.type "StopIteration")->E (.ref e) {s with heap:=h'}) :
  wpAny (model prog w) A (Builtin.«zip.__next__» ⟨[.ref z],[]⟩) Q E s:=by
 have nd:=D.nd
 simp only[a0n,ZZ,a0l,or_false,not_or,not_false_eq_true,a2C,and_true] at nd
 obtain⟨⟨vf,kP,kQ,oQ,oR⟩,⟨TITO,TIi1,TIi2,zO⟩,⟨oS,oU,rc⟩,⟨mQ,mR⟩,mS⟩:=nd
 have f1:=D.f1
 simp only[ZZ,a0l,or_false,not_or] at f1
 obtain⟨zP,Sn,So,Sq,Sr⟩:=f1
 show wpAny _ _ (field (.ref z) 2>>=_) _ _ _
 refine wpAny_bind (wpAny_field hz rfl (x:=.bool false) rfl ?_)
 show wpAny _ _ (field (.ref z) 3>>=_) _ _ _
 refine wpAny_bind (wpAny_field hz rfl (x:=.ref TI) rfl ?_)
 refine wpAny_bind (wpAny_seqItems mP rfl ?_)
 show wpAny _ _ (Builtin.SmallTypes.ownedTupleIsFree (.ref z)>>=_) _ _ _
 refine wpAny_bind ?_
 unfold Builtin.SmallTypes.ownedTupleIsFree
 refine wpAny_bind (wpAny_field hz rfl (x:=.none) rfl (wpAny_pure ?_))
 simp only[if_true]
 refine wpAny_bind (wpAny_rule ?_)
 refine wpAny_bind (wpAny_field hz rfl (x:=.ref TO) rfl ?_)
 refine wpAny_bind (wpAny_setField_rec hz (by simp) λH1 iy s1=>?_)
 replace iy:IsZip H1 z TI TO .ellipsis:=iy
 refine wpAny_bind ?_
 simp only[a2K,List.zipIdx_nil,a2P,List.forIn_nil]
 refine wpAny_bind (wpAny_bind (wpAny_onRaise ?_))
 show wpAny _ _ (Builtin.SmallTypes.nextOf (.ref i1)>>=_) _ _ _
 refine wpAny_bind (wpAny_nextOf_list_end hh (h1.extBut s1.extBut (Ne.symm kQ)) (cX.extBut s1.extBut zP) oV λH2 e s2 he=>?_)
 obtain⟨oe,zS,HI⟩:=he
 have my:IsZip H2 z TI TO .ellipsis:=s2 _ _ kQ iy
 have SC:e≠z:=λx=>by subst x;rw[my] at zS;cases zS;simp at HI
 refine wpAny_setField_rec my (by simp) λH3 _ s3=>hE H3 e (λc o hc x=>?_) ⟨oe,s3.extBut _ _ SC zS,HI⟩
 simp only[ZZ,a0l,or_false,not_or] at hc
 exact s3.extBut _ _ hc.1 (s2 _ _ hc.2.2.1 (s1.extBut _ _ hc.1 x))
theorem SD{z TI TO i1 i2 i3 l1 l2 l3:Addr}{k1 k2 k3:Nat}{xs ys zs:Array Value}{x y u a b c:Value}{Q:Option Value->Shared->Prop}(D:Zd z TI TO i1 i2 i3 l1 l2 l3)
  (hz:IsZip s.heap z TI TO .none) (mP:cR s.heap TI (.ref i1) (.ref i2) (.ref i3)) (oP:cR s.heap TO a b c)
  (h1:s.heap.IsListIter i1 l1 k1) (h2:s.heap.IsListIter i2 l2 k2) (h3:s.heap.IsListIter i3 l3 k3) (cX:s.heap.IsList l1 xs) (bM:s.heap.IsList l2 ys) (cQ:s.heap.IsList l3 zs) (hx:xs[k1]?=some x) (hy:ys[k2]?=some y) (hu:zs[k3]?=some u)
  (hQ:∀h',IsZip h' z TI TO (rawInt s.heap.objs.size)->cR h' TO x y u->h'.IsListIter i1 l1 (k1+1)->h'.IsListIter i2 l2 (k2+1)->h'.IsListIter i3 l3 (k3+1)->cR h' s.heap.objs.size x y u->h'.objs.size=s.heap.objs.size+1->
   (∀c o,c∉[z,TO,i1,i2,i3]->s.heap.get? c=some o->h'.get? c=some o)->Q (some (.ref s.heap.objs.size)) {s with heap:=h'}) :
  wpAny (model prog w) A (pyNext (.ref z)) Q E s:=by
 have hT:s.TypeIs (.ref z) "zip":=⟨_,hz,rfl⟩
 unfold pyNext
 exact wpAny_bind (wpAny_attempt (wpAny_callSpecial?_slot (name:=Str.ofString "__next__") hT F.slot_zip_next
  (wpAny_call_entry F.slot_zip_next hT F.entry_zip_next
   (Sm D hz mP oP h1 h2 h3 cX bM cQ hx hy hu λh' a1 a2 a3 a4 a5 a6 a7 a8=>wpAny_pure (hQ h' a1 a2 a3 a4 a5 a6 a7 a8)) (F.args_zip_next_1 _))))
theorem SE{z TI TO i1 i2 i3 l1 l2 l3:Addr}{k1:Nat}{xs:Array Value}{a b c:Value}{Q:Option Value->Shared->Prop}(hh:A.handled=none)(D:Zd z TI TO i1 i2 i3 l1 l2 l3)
  (hz:IsZip s.heap z TI TO .none) (mP:cR s.heap TI (.ref i1) (.ref i2) (.ref i3)) (oP:cR s.heap TO a b c)
  (h1:s.heap.IsListIter i1 l1 k1) (cX:s.heap.IsList l1 xs) (oV:xs[k1]?=none)
  (hQ:∀h',(∀c o,c∉[z,TO,i1,i2,i3]->s.heap.get? c=some o->h'.get? c=some o)->Q none {s with heap:=h'}):wpAny (model prog w) A (pyNext (.ref z)) Q E s:=by
 have hT:s.TypeIs (.ref z) "zip":=⟨_,hz,rfl⟩
 unfold pyNext
 refine wpAny_bind (wpAny_attempt (wpAny_callSpecial?_slot (name:=Str.ofString "__next__") hT F.slot_zip_next
  (wpAny_call_entry F.slot_zip_next hT F.entry_zip_next (SB hh D hz mP oP h1 cX oV λh' e hk he=>?_) (F.args_zip_next_1 _))))
 obtain⟨o,ho,hc⟩:=he
 refine wpAny_bind (wpAny_isInstance (T:="StopIteration") (b:=true) ⟨o,ho,hc⟩ isSubtype_stop ?_)
 exact wpAny_pure (hQ _ hk)
end
abbrev vg(h:Heap)(l1:Addr):Heap:=h.push {cls:=.type "list_iterator",data:=.fields #[.ref l1,.int 0 0]}
abbrev vh(h:Heap)(l1 l2:Addr):Heap:=(vg h l1).push {cls:=.type "list_iterator",data:=.fields #[.ref l2,.int 0 0]}
abbrev vi(h:Heap)(l1 l2 l3:Addr):Heap:=(vh h l1 l2).push {cls:=.type "list_iterator",data:=.fields #[.ref l3,.int 0 0]}
abbrev vj(h:Heap)(l1 l2 l3:Addr):Heap:=(vi h l1 l2 l3).push {cls:=.type "tuple",data:=.seq #[.ref h.objs.size,.ref (vg h l1).objs.size,.ref (vh h l1 l2).objs.size]}
abbrev vk(h:Heap)(l1 l2 l3:Addr):Heap:=(vj h l1 l2 l3).push {cls:=.type "tuple",data:=.seq #[.none,.none,.none]}
abbrev mT(h:Heap)(l1 l2 l3:Addr):Heap:=(vk h l1 l2 l3).push {cls:=.type "zip",data:=.fields #[.none,.bool false,.bool false,.ref (vi h l1 l2 l3).objs.size,.ref (vj h l1 l2 l3).objs.size]}
theorem SF(l1 l2 l3:Addr)(xs ys zs:Array Value) :
  Meets (Builtin.«zip.__new__» ⟨[.type "zip",.ref l1,.ref l2,.ref l3],[]⟩) (λ_ R s=>s.heap.IsList l1 xs/\s.heap.IsList l2 ys/\s.heap.IsList l3 zs/\
   R (.ok (.ret (.ref (vk s.heap l1 l2 l3).objs.size))) {s with heap:=mT s.heap l1 l2 l3}) :=
 .of_wp λprog w A R s h=>by
  obtain⟨hp,g,d,tk,os⟩:=s;obtain⟨cX,bM,cQ,h⟩:=h
  have uH:=sub_zip
  have SG:Heap.IsList (Shared.heap ⟨hp,g,d,tk,os⟩) l1 xs:=cX
  have SH:Heap.IsList (Shared.heap ⟨hp.push {cls:=.type "list_iterator",data:=.fields #[.ref l1,.int 0 0]},g,d,tk,os⟩) l2 ys:=Heap.IsList.push bM _
  have SI:Heap.IsList (Shared.heap ⟨(hp.push {cls:=.type "list_iterator",data:=.fields #[.ref l1,.int 0 0]}).push {cls:=.type "list_iterator",data:=.fields #[.ref l2,.int 0 0]},g,d,tk,os⟩) l3 zs:=Heap.IsList.push (Heap.IsList.push cQ _) _
  wp_walk using wpAny_pyIter_list SG,wpAny_pyIter_list SH,wpAny_pyIter_list SI
  exact⟨_,rfl,h⟩
theorem SJ(n:Nat):List.Nodup [n+5,n+3,n+4,n,n+1,n+2]:=by
 simp only[a0n,ZZ,a0l,or_false,not_or,not_false_eq_true,a2C,and_true]
 refine⟨⟨?_,?_,?_,?_,?_⟩,⟨?_,?_,?_,?_⟩,⟨?_,?_,?_⟩,⟨?_,?_⟩,?_⟩ <;> lia
theorem SK{n l1 l2 l3:Addr}(h1:l1<n)(h2:l2<n)(h3:l3<n):Zd (n+5) (n+3) (n+4) n (n+1) (n+2) l1 l2 l3:=by
 have Zu:(l1:Nat)<n:=h1
 have kE:(l2:Nat)<n:=h2
 have SL:(l3:Nat)<n:=h3
 have aP:∀l:Nat,l<n->l∉[(n:Nat)+5,n+4,n,n+1,n+2]:=λl hl z=>by
  simp only[ZZ,a0l,or_false] at z
  lia
 refine⟨?_,aP l1 h1,aP l2 h2,aP l3 h3⟩
 exact SJ n
section
variable{prog:Program}{w:World}{A:Around}{E:Value->Shared->Prop}{s:Shared}
theorem SM{l1 l2 l3:Addr}{xs ys zs:Array Value}{Q:Value->Shared->Prop}(cX:s.heap.IsList l1 xs)(bM:s.heap.IsList l2 ys)(cQ:s.heap.IsList l3 zs)
  (h:∀h',IsZip h' (s.heap.objs.size+5) (s.heap.objs.size+3) (s.heap.objs.size+4) .none->cR h' (s.heap.objs.size+3) (.ref s.heap.objs.size) (.ref (s.heap.objs.size+1)) (.ref (s.heap.objs.size+2))->
   cR h' (s.heap.objs.size+4) .none .none .none->h'.IsListIter s.heap.objs.size l1 0->h'.IsListIter (s.heap.objs.size+1) l2 0->h'.IsListIter (s.heap.objs.size+2) l3 0->
   (∀c o,s.heap.get? c=some o->h'.get? c=some o)->Q (.ref (s.heap.objs.size+5)) {s with heap:=h'}) :
  wpAny (model prog w) A (call (.type "zip") [.ref l1,.ref l2,.ref l3]) Q E s:=by
 refine callType_new F.called_zip (by decide) (Sj _ _ _) (Sk _ _ _) (λobj=>Sl obj _ _ _) F.entry_zip_new
  (SF l1 l2 l3 xs ys zs) ⟨cX,bM,cQ,?_⟩
 have e1:(vg s.heap l1).objs.size=s.heap.objs.size+1:=a0x ..
 have e2:(vh s.heap l1 l2).objs.size=s.heap.objs.size+2:=by rw[a0x,e1]
 have e3:(vi s.heap l1 l2 l3).objs.size=s.heap.objs.size+3:=by rw[a0x,e2]
 have e4:(vj s.heap l1 l2 l3).objs.size=s.heap.objs.size+4:=by rw[a0x,e3]
 have e5:(vk s.heap l1 l2 l3).objs.size=s.heap.objs.size+5:=by rw[a0x,e4]
 have g6:(mT s.heap l1 l2 l3).get? (vk s.heap l1 l2 l3).objs.size=some _:=Z3 _ rfl
 have g5:(mT s.heap l1 l2 l3).get? (vj s.heap l1 l2 l3).objs.size=some _:=ZV _ (Z3 _ rfl)
 have g4:(mT s.heap l1 l2 l3).get? (vi s.heap l1 l2 l3).objs.size=some _:=ZV _ (ZV _ (Z3 _ rfl))
 have g3:(mT s.heap l1 l2 l3).get? (vh s.heap l1 l2).objs.size=some _:=ZV _ (ZV _ (ZV _ (Z3 _ rfl)))
 have g2:(mT s.heap l1 l2 l3).get? (vg s.heap l1).objs.size=some _:=ZV _ (ZV _ (ZV _ (ZV _ (Z3 _ rfl))))
 have g1:(mT s.heap l1 l2 l3).get? s.heap.objs.size=some _:=ZV _ (ZV _ (ZV _ (ZV _ (ZV _ (Z3 _ rfl)))))
 show _/\_
 rw[e3,e4,e5] at g6
 rw[e1,e2,e3] at g4
 rw[e4] at g5
 rw[e2] at g3
 rw[e1] at g2
 rw[e5]
 exact⟨⟨_,g6,rfl⟩,h _ g6 g4 g5 ⟨_,g1,rfl,rfl⟩ ⟨_,g2,rfl,rfl⟩ ⟨_,g3,rfl,rfl⟩ λc o x =>
  ZV _ (ZV _ (ZV _ (ZV _ (ZV _ (ZV _ x)))))⟩
end
def re(K:PySem.W.Frag)(a b c:Addr):It :=
 ⟨λi H=>∃xs ys zs x y u,af K H a xs/\af K H b ys/\af K H c zs/\xs[i]?=some x/\ys[i]?=some y/\zs[i]?=some u,
  λi H v H'=>∃t x y u,v=.ref t/\H t=none/\(∀xs,af K H a xs->xs[i]?=some x)/\(∀ys,af K H b ys->ys[i]?=some y)/\(∀zs,af K H c zs->zs[i]?=some u)/\H'=upd H t (.tup [x,y,u]),
  λi H=>∃xs,af K H a xs/\xs.length<=i⟩
theorem SN{P:Program}{w:World}{K:PySem.W.Frag}{elts:List Expr}{x1}{pos:Pos}(a b c z TI TO i1 i2 i3:Addr)(D:Zd z TI TO i1 i2 i3 a b c):j8 P w K (.Tuple elts x1 pos) (re K a b c) [z,TI,TO,i1,i2,i3] z
  (λi h=>IsZip h z TI TO .none/\cR h TI (.ref i1) (.ref i2) (.ref i3)/\(∃u v t,cR h TO u v t)/\h.IsListIter i1 a i/\h.IsListIter i2 b i/\h.IsListIter i3 c i) where
 mem:=by simp
 obj:=λi h st e hb=>by
  obtain⟨h1,h2,⟨u,v,t,h3⟩,⟨o4,h4,_,d4⟩,⟨o5,h5,_,d5⟩,⟨o6,h6,_,d6⟩⟩:=st
  simp only[ZZ,a0l,or_false] at hb
  rcases hb with rfl | rfl | rfl | rfl | rfl | rfl
  ·exact⟨_,h1,λv z=>by cases z⟩
  ·exact⟨_,h2,λv z=>by cases z⟩
  ·exact⟨_,h3,λv z=>by cases z⟩
  ·exact⟨o4,h4,λv z=>by rw[d4] at z;cases z⟩
  ·exact⟨o5,h5,λv z=>by rw[d5] at z;cases z⟩
  ·exact⟨o6,h6,λv z=>by rw[d6] at z;cases z⟩
 keep:=λi h h' st k=>by
  obtain⟨h1,h2,⟨u,v,t,h3⟩,h4,h5,h6⟩:=st
  exact⟨k z (by simp) _ h1,k TI (by simp) _ h2,⟨u,v,t,k TO (by simp) _ h3⟩,h4.at λo q=>k i1 (by simp) o q,h5.at λo q=>k i2 (by simp) o q,h6.at λo q=>k i3 (by simp) o q⟩
 item:=by
  intro X hP hw hK hc i aa s σ H E I hf st hg
  subst hP hw hK
  have nd:=D.nd
  simp only[a0n,ZZ,a0l,or_false,not_or,not_false_eq_true,a2C,and_true] at nd
  obtain⟨⟨vf,kP,kQ,oQ,oR⟩,⟨TITO,TIi1,TIi2,zO⟩,⟨oS,oU,rc⟩,⟨mQ,mR⟩,mS⟩:=nd
  obtain⟨h1,h2,⟨u0,v0,t0,h3⟩,h4,h5,h6⟩:=st
  obtain⟨xs,ys,zs,x,y,y3,gq,ir,vm,hx,hy,qR⟩:=hg
  obtain⟨ad,rv,p,hz⟩:=I.list gq
  obtain⟨tH,eD,p',aR⟩:=I.list ir
  obtain⟨SQ,SR,p3,SS⟩:=I.list vm
  obtain⟨u,hu,ru⟩:=rv.get hx
  obtain⟨v,hv,qv⟩:=eD.get hy
  obtain⟨t,ht,ST⟩:=SR.get qR
  have e1:=ZY h1
  have yc:∀e∈[z,TI,TO,i1,i2,i3],∃o,s.heap.get? e=some o:=λe hb=>by
   obtain⟨o4,q4,_⟩:=h4
   obtain⟨o5,q5,_⟩:=h5
   obtain⟨o6,q6,_⟩:=h6
   simp only[ZZ,a0l,or_false] at hb
   rcases hb with rfl | rfl | rfl | rfl | rfl | rfl
   ·exact⟨_,h1⟩
   ·exact⟨_,h2⟩
   ·exact⟨_,h3⟩
   ·exact⟨_,q4⟩
   ·exact⟨_,q5⟩
   ·exact⟨_,q6⟩
  refine SD D h1 h2 h3 h4 h5 h6 p.isList p'.isList p3.isList (x:=u) (y:=v) (u:=t) (by simpa using hu) (by simpa using hv) (by simpa using ht) λh' g1 g2 g3 g4 oX g5 g6 g7=>⟨_,rfl,?_⟩
  refine wpAny_letOwnedTupleGo_zip g1 λkE g8 g9=>?_
  have kk:∀e o,e∉[z,TI,TO,i1,i2,i3]->s.heap.get? e=some o->kE.get? e=some o:=λe o hb q=>by
   simp only[ZZ,a0l,or_false,not_or] at hb
   exact g9.extBut e o hb.1 (g7 e o (by simp only[ZZ,a0l,or_false,not_or];exact⟨hb.1,hb.2.2.1,hb.2.2.2.1,hb.2.2.2.2.1,hb.2.2.2.2.2⟩) q)
  have tT:kE.get? s.heap.objs.size=some {cls:=.type "tuple",data:=.seq #[u,v,t]}:=g9.extBut _ _ (a0M e1) g5
  have I1:=I.Ft (t':=s.toks) (T:=s.heap.objs.size) (o:=.tup [x,y,y3]) kk hf (Z0 _) ⟨by show 3<=sizeLine;decide,[u,v,t],.cons ru (.cons qv (.cons ST .nil)),⟨_,tT,rfl,_,rfl⟩⟩
  have hn:H s.heap.objs.size=none:=I.am.fresh (Z0 _)
  refine⟨.ref s.heap.objs.size,_,I1,rfl,⟨_,x,y,y3,rfl,hn,λzs cz=>by rw[I.nU cz gq];exact hx,λzs cz=>by rw[I.nU cz ir];exact hy,λzs cz=>by rw[I.nU cz vm];exact qR,rfl⟩,⟨g8,?_,⟨u,v,t,?_⟩,?_,?_,?_⟩,λe hb=>?_⟩
  ·exact g9.extBut _ _ (Ne.symm vf) (g7 _ _ (by simp only[ZZ,a0l,or_false,not_or];exact⟨Ne.symm vf,TITO,TIi1,TIi2,zO⟩) h2)
  ·exact g9.extBut _ _ (Ne.symm kP) g2
  ·exact g3.extBut g9.extBut (Ne.symm kQ)
  ·exact g4.extBut g9.extBut (Ne.symm oQ)
  ·exact oX.extBut g9.extBut (Ne.symm oR)
  ·obtain⟨f0,_⟩:=hf e hb
   obtain⟨o,q⟩:=yc e hb
   rw[i_ (a0c (ZY q))];exact f0
 done:=by
  intro X hP hw hK hc i aa s σ H E I hf st hg
  subst hP hw hK
  obtain⟨h1,h2,⟨u0,v0,t0,h3⟩,h4,h5,h6⟩:=st
  obtain⟨xs,gq,hx⟩:=hg
  obtain⟨ad,rv,p,hz⟩:=I.list gq
  have hl:=rv.length
  refine SE (I.ok.hd hc) D h1 h2 h3 h4 p.isList (by simp;lia) λh' eb=>⟨rfl,I.Fu (t':=s.toks) (ch:=[z,TI,TO,i1,i2,i3]) (λe o hb q=>eb e o (λz'=>hb ?_) q) hf⟩
  simp only[ZZ,a0l,or_false] at z'⊢
  rcases z' with r | r | r | r | r <;> simp[r]
 self:=λ_ _ _ _ _ st h=>wpAny_pyIter_zip st.1 h
section
variable{X:Cx}{l l2 l3:Expr}{tl jD vn:TE}{elts:List Expr}{p pos lP:Pos}
def SU(K:PySem.W.Frag)(tl jD vn:TE):TI:=fun σ H R=>tl σ H λx H1=>jD σ H1 λy H2=>vn σ H2 λu H3=>∃a b c,x=.ref a/\y=.ref b/\u=.ref c/\(∃xs,af K H3 a xs)/\(∃ys,af K H3 b ys)/\(∃zs,af K H3 c zs)/\R (re K a b c) H3
theorem SV{x1}(hg:Gl X "zip")(hm:X.mg "zip"=none)(hl:PE X l tl)(bM:PE X l2 jD)(cQ:PE X l3 vn)(hs:starEach [l,l2,l3] X.env=[(false,eval l X.env),(false,eval l2 X.env),(false,eval l3 X.env)]:=by rfl)(df:starEach [l2,l3] X.env=[(false,eval l2 X.env),(false,eval l3 X.env)]:=by rfl) :
  PI X (.Tuple elts x1 lP) (.Call (.Name "zip" p) [l,l2,l3] [] pos) (SU X.K tl jD vn):=by
 intro aa s σ H R I h
 refine Call_ (iO I hg hm boot_zip (PyProof.Rows.callWith_type1 ?_ (by rw[hs,df]) (by rw[df];rfl)))
 rw[hs]
 show wpAny _ _ (spliced ((false,eval l X.env)::(false,eval l2 X.env)::(false,eval l3 X.env)::backTo pos (starEach [] X.env))) _ _ s
 refine Calls.spliced_cons (au (hl aa s σ H _ I h) λu s1 ⟨x,H1,I1,r1,q1⟩=>Calls.spliced_cons (au (bM aa s1 σ H1 _ I1 q1) λu2 s2 ⟨y,H2,I2,r2,q2⟩=>Calls.spliced_cons (au (cQ aa s2 σ H2 _ I2 q2) λu3 s3 ⟨y3,H3,I3,r3,q3⟩=>Calls.spliced_nil ?_)))
 obtain⟨a,b,c,rfl,rfl,rfl,⟨xs,gq⟩,⟨ys,ir⟩,⟨zs,vm⟩,q⟩:=q3
 cases r1
 cases r2
 cases r3
 obtain⟨ad,rv,pl,hz⟩:=I3.list gq
 obtain⟨tH,qv,qw,aR⟩:=I3.list ir
 obtain⟨SQ,Zv,HJ,SS⟩:=I3.list vm
 have la:a<s3.heap.objs.size:=by obtain⟨_,e,_⟩:=pl.isList;exact ZY e
 have lb:b<s3.heap.objs.size:=by obtain⟨_,e,_⟩:=qw.isList;exact ZY e
 have lc:c<s3.heap.objs.size:=by obtain⟨_,e,_⟩:=HJ.isList;exact ZY e
 refine SM pl.isList qw.isList HJ.isList λh' g1 g2 g3 g4 g5 g6 g7=>?_
 have D:=SK la lb lc
 have T:=SN (P:=X.prog) (w:=X.w) (K:=X.K) (elts:=elts) (x1:=x1) (pos:=lP) a b c _ _ _ _ _ _ D
 refine T.self _ 0 _ _ _ ⟨g1,g2,⟨_,_,_,g3⟩,g4,g5,g6⟩ ?_
 refine⟨s3.heap.objs.size+5,_,_,_,H3,rfl,I3.kept (t':=s3.toks) g7,T,⟨g1,g2,⟨_,_,_,g3⟩,g4,g5,g6⟩,λe hb=>?_,q⟩
 have cv:s3.heap.objs.size<=e:=by
  simp only[ZZ,a0l,or_false] at hb
  rcases hb with rfl | rfl | rfl | rfl | rfl | rfl
  ·exact a1b _ _
  ·exact a1b _ _
  ·exact a1b _ _
  ·exact Z0 _
  ·exact a1b _ _
  ·exact a1b _ _
 exact I3.pZ cv (I3.am.fresh cv)
end
theorem SW{K:PySem.W.Frag}{a b c:Addr}{xs ys zs:List V}{g:TG}{tb:TS}{D:Ends}{σ:St}{H:Hp}(Pv:Nat->St->Hp->Prop)(b9:xs.length=ys.length)(RL:xs.length=zs.length)(h0:Pv 0 σ H)(hl:∀i σ H,i<=xs.length->Pv i σ H->af K H a xs/\af K H b ys/\af K H c zs)
  (hs:∀i x y u σ H t,xs[i]?=some x->ys[i]?=some y->zs[i]?=some u->Pv i σ H->H t=none->g (.ref t) σ (upd H t (.tup [x,y,u])) λcr H2=>tb {D with nx:=Pv (i+1),ct:=Pv (i+1),bk:=D.nx} cr H2) (hd:∀ σ H,Pv xs.length σ H->D.nx σ H) :
  ∃W:Nat->Nat->St->Hp->Prop,(∃m,W 0 m σ H)/\∀i m σ H,W i m σ H->
   ((re K a b c).stop i H/\D.nx σ H)\/((re K a b c).go i H/\∃N:St->Hp->Prop,(∀ az H',N az H'->∃m',m'<m/\W (i+1) m' az H')/\∀x H',(re K a b c).gN i H x H'->g x σ H' λcr H2=>tb {D with nx:=N,ct:=N,bk:=D.nx} cr H2):=by
 refine⟨λi m σ H=>m=xs.length-i/\i<=xs.length/\Pv i σ H,⟨xs.length,by simp,a0w _,h0⟩,?_⟩
 rintro i m σ H ⟨rfl,hi,p⟩
 obtain⟨q1,q2,q3⟩:=hl i σ H hi p
 by_cases aT:i<xs.length
 ·have e1:xs[i]?=some xs[i]:=by simp[aT]
  have e2:ys[i]?=some (ys[i]'(by lia)):=by simp
  have e3:zs[i]?=some (zs[i]'(by lia)):=by simp
  refine .inr ⟨⟨xs,ys,zs,_,_,_,q1,q2,q3,e1,e2,e3⟩,Pv (i+1),λaz H' p'=>⟨xs.length-(i+1),by lia,rfl,aT,p'⟩,λv H' y=>?_⟩
  obtain⟨t,x,y,u,rfl,ht,y1,y2,y3,rfl⟩:=y
  exact hs i x y u σ H t (y1 xs q1) (y2 ys q2) (y3 zs q3) p ht
 ·have e:i=xs.length:=by lia
  subst e
  exact .inl ⟨⟨xs,q1,Z0 _⟩,hd σ H p⟩
theorem SX{K:PySem.W.Frag}{a b:Addr}{xs ys:List V}{G:V->Hp->(List V->Hp->Prop)->List V->Prop}{Fin:List V->Hp->Prop}{H:Hp}(Pv:Nat->List V->Hp->Prop)(b9:xs.length<=ys.length)(h0:Pv 0 [] H)
  (hl:∀i zs H,i<=xs.length->Pv i zs H->af K H a xs/\af K H b ys) (hz:∀i zs H,i<xs.length->Pv i zs H->zs.length<sizeLine)
  (hs:∀i x y zs H t,xs[i]?=some x->ys[i]?=some y->Pv i zs H->H t=none->G (.ref t) (upd H t (.tup [x,y])) (Pv (i+1)) zs) (hd:∀zs H,Pv xs.length zs H->Fin zs H) :
  ∃W:Nat->Nat->List V->Hp->Prop,(∃m,W 0 m [] H)/\∀i m zs H,W i m zs H->
   ((kD K a b).stop i H/\Fin zs H)\/((kD K a b).go i H/\zs.length<sizeLine/\∃Nx:List V->Hp->Prop,(∀cJ H',Nx cJ H'->∃m',m'<m/\W (i+1) m' cJ H')/\∀x H',(kD K a b).gN i H x H'->G x H' Nx zs):=by
 refine⟨λi m zs H=>m=xs.length-i/\i<=xs.length/\Pv i zs H,⟨xs.length,by simp,a0w _,h0⟩,?_⟩
 rintro i m zs H ⟨rfl,hi,p⟩
 obtain⟨q1,q2⟩:=hl i zs H hi p
 by_cases aT:i<xs.length
 ·have e1:xs[i]?=some xs[i]:=by simp[aT]
  have e2:ys[i]?=some (ys[i]'(by lia)):=by simp
  refine .inr ⟨⟨xs,ys,_,_,q1,q2,e1,e2⟩,hz i zs H aT p,Pv (i+1),λcJ H' p'=>⟨xs.length-(i+1),by lia,rfl,aT,p'⟩,λv H' y=>?_⟩
  obtain⟨t,x,y,rfl,ht,y1,y2,rfl⟩:=y
  exact hs i x y zs H t (y1 xs q1) (y2 ys q2) p ht
 ·have e:i=xs.length:=by lia
  subst e
  exact .inl ⟨⟨xs,ys,q1,q2,.inl (Z0 _)⟩,hd zs H p⟩
end L2
namespace Hv
open PySem L2
abbrev wz(ds:List Nat)(ws:List Int):List Int:=List.zipWith (λ(d:Nat) (x:Int)=>(d:Int)*x) ds ws
theorem SY{ds:List Nat}{ws:List Int}{i d:Nat}{x:Int}(h1:ds[i]?=some d)(h2:ws[i]?=some x):(wz ds ws)[i]?=some ((d:Int)*x):=by
 simp[wz,List.getElem?_zipWith,h1,h2]
theorem SZ{ws:List Int}{i:Nat}{x:V}(h:(ws.map V.int)[i]?=some x):∃y:Int,ws[i]?=some y/\x=.int y:=by
 rw[Z2] at h
 cases e:ws[i]? with
 | none=>rw[e] at h;cases h
 | some d=>rw[e] at h;exact⟨d,rfl,(Z6 h).symm⟩
def zT:Sp:=λvs H Q _=>∃(r c:Addr) (ds:List Nat) (ws:List Int),vs=[.ref r,.ref c]/\H r=some (.lst (ay ds))/\H c=some (.lst (ws.map V.int))/\(∀x∈ws,-9<=x/\x<=9)/\ds.length<=ws.length/\ws.length<=6/\
 ∀H',ag H H'->Q (.int (wz ds ws).sum) H'
section
variable{P:Program}{w:World}{K:PySem.W.Frag}{mg:Str->Option Value}{base:Heap}
theorem S0:aQ ["figures","weights"] ["figures","weights"] (g_ qB):=⟨rfl,rfl,rfl,by decide +kernel,rfl,by decide +kernel,by decide +kernel⟩
theorem S4{f:Addr}{fd:FuncData}(F:aG K "weighted_sum" "weighted_sum" qB f fd)(T:Txt mg):ax P w K mg base aK 1 f fd ["figures","weights"] zT:=by
 refine F.ok S0 (λvs H Q E h=>?_) (λae A outer s H vs Q E hr h=>?_)
 ·obtain⟨r,c,ds,ws,rfl,_⟩:=h;rfl
 ·obtain⟨r,c,ds,ws,rfl,h1,h2,hw,hl,jd,k⟩:=h
  have dW:List.Nodup (["figure","weight"]:List Str):=by decide +kernel
  refine⟨_,h_ (n_ (r_ (GJ rfl) (by rfl) T.sum boot_sum (a_ (xX (N:=["figure","weight"]) (k:=2) (fr:=[]) (ql (sc:=g_ qB) (NX:=["figures","weights"]) (k:=2) (fr:=[]) rfl rfl (by decide +kernel))
    (qm (sc:=g_ qB) (NX:=["figures","weights"]) rfl (by decide +kernel)) rfl (Fv (by rfl) T.zip (pv 0) (pv 1))
    (λcl C s H fp=>yf K rfl rfl (N_ (q_ (i:=0) dW rfl (Or.inl rfl)) (N_ (q_ (i:=1) dW rfl (Or.inl rfl)) nV))) yg (λcl C s H fp=>fZ) (λcl C s H fp=>p_ fH (pv 0) (pv 1))) e_))),?_⟩
  refine⟨_,rfl,_,rfl,r,c,rfl,rfl,⟨_,af.of h1⟩,⟨_,af.of h2⟩,SX (K:=K) (a:=r) (b:=c) (xs:=ay ds) (ys:=ws.map V.int)
   (λi zs H'=>zs=((wz ds ws).take i).map V.int/\ag H H') (by simp[ay];lia) ⟨by simp,ag.refl _⟩ (λi zs H' _ p=>⟨af.of (p.2 _ _ h1),af.of (p.2 _ _ h2)⟩)
   (λi zs H' hi p=>cq (by rw[p.1,ZW,a0g];simp[ay] at hi;lia)) ?_ ?_⟩
  ·rintro i x y zs H' t hx hy ⟨rfl,s2⟩ ht
   obtain⟨d,hd,rfl⟩:=zL hx
   obtain⟨x,HK,rfl⟩:=SZ hy
   have Zw:=hw x (Z1 HK)
   refine⟨t,_,rfl,bo.of d_,rfl,_,_,rfl,_,_,rfl,rfl,_,rfl,_,rfl,_,_,rfl,rfl,.inr ⟨by lia,by lia⟩,?_,iY s2 (s2.free ht)⟩
   rw[Z8,SY hd HK]
   simp
  rintro zs H' ⟨rfl,s2⟩ wl fK
  have e1:(ay ds).length=(wz ds ws).length:=by simp[ay,wz];lia
  rw[e1,a0e]
  exact⟨wl,_,rfl,af.of d_,k _ (iY s2 (s2.free fK))⟩
end
end Hv
namespace Mq
theorem HL{f:Int->Int}{a k:Int}:∀ {n:Nat},a<=k->k<a+n->sm f a n=sm (λt=>if t=k then 0 else f t) a n+f k
 | 0,h1,h2=>by lia
 | n+1,h1,h2=>by
  simp only[sm]
  by_cases e:a+(n:Int)=k
  ·rw[if_pos e,e]
   have:sm f a n=sm (λt=>if t=k then 0 else f t) a n:=jP λt _ h=>by
    rw[if_neg (by lia)]
   rw[this]
   lia
  ·rw[if_neg e,HL (n:=n) h1 (by push_cast at h2;lia)]
   lia
theorem HM{a:Int}{n:Nat}:∀ {ks:List Int} {f:Int->Int},ks.Nodup->(∀k∈ks,a<=k/\k<a+n)->(∀t,t∉ks->f t=0)->(ks.map f).sum=sm f a n
 | [],f,_,_,z=>by
  rw[hJ λt _ _=>z t (by simp)]
  rfl
 | k::ks,f,nd,h,z=>by
  obtain⟨n1,n2⟩:=a0n.mp nd
  rw[HL (f:=f) (h k (by simp)).1 (h k (by simp)).2]
  have ih:=HM (a:=a) (n:=n) (ks:=ks) (f:=λt=>if t=k then 0 else f t) n2 (λq hq=>h q (by simp[hq])) (λt ht=>by
   by_cases e:t=k
   ·rw[if_pos e]
   ·rw[if_neg e];exact z t (by simp[e,ht]))
  rw[<-ih,a0f,a0r]
  have e:ks.map (λt=>if t=k then 0 else f t)=ks.map f:=a0V λt ht=>if_neg (λ(z:t=k)=>n1 (by rw[<-z];exact ht))
  rw[e]
  lia
end Mq
namespace Me
open Mq
theorem S5(b:Nat)(rows:List (List Int))(t:Int):0<=cM b rows t:=Hq rows 1 (by decide)
theorem HN{b:Nat}{rows:List (List Int)}:∀ks:List Int,((ks.filter λk=>decide (0<cM b rows k)).map (cM b rows)).sum=(ks.map (cM b rows)).sum
 | []=>rfl
 | k::ks=>by
  have ih:=HN (b:=b) (rows:=rows) ks
  by_cases h:0<cM b rows k
  ·rw[List.filter_cons_of_pos (by simpa using h),a0f,a0f,a0r,a0r,ih]
  ·have:cM b rows k=0:=by have:=S5 b rows k;lia
   rw[List.filter_cons_of_neg (by simpa using h),a0f,a0r,ih,this]
   lia
theorem Ta(b:Nat)(rows:List (List Int))(ks:List Int):cL (dE b rows ks)=(ks.map (cM b rows)).sum:=by
 rw[<-HN]
 unfold cL dE
 rw[a1B]
 rfl
theorem HP{b:Nat}(t:Int):∀(rows:List (List Int)) (c:Int),(mJ b rows).foldl (λm f=>m*sm f t 1) c=rows.foldl (λm row=>m*(look (aW b row) t).getD 0) c
 | [],_=>rfl
 | r::rows,c=>by
  have e:sm (fw b r) t 1=(look (aW b r) t).getD 0:=by
   simp[sm,fw]
  show(mJ b rows).foldl _ (c*sm (fw b r) t 1)=_
  rw[HP t rows,a0d,e]
theorem HQ{b:Nat}(hb:1<=b){rows:List (List Int)}{row:List Int}(hr:row∈rows):∀k∈keys (aW b row),Ma.aV (jg b rows)<=k/\k<=Ma.bD (mK b rows):=λk hk=>by
 have h1:=(Ma.E_ _ (zF hb row)).2 k hk
 have h2:=(Ma.L_ _ (zF hb row)).2 k hk
 have nl:0<(jg b rows).length:=by rw[jg,ZW];exact a1d hr
 have nh:0<(mK b rows).length:=by rw[mK,ZW];exact a1d hr
 have h3:=(Ma.E_ _ nl).2 (zD b row) (a0a.mpr ⟨row,hr,rfl⟩)
 have h4:=(Ma.L_ _ nh).2 (zE b row) (a0a.mpr ⟨row,hr,rfl⟩)
 unfold zD at h3
 unfold zE at h4
 lia
theorem Tb{b:Nat}(hb:1<=b){rows:List (List Int)}{row:List Int}(h0:rows[0]?=some row):u9 b rows 0=cL (dE b rows (keys (aW b row))):=by
 have hm:row∈rows:=Z1 h0
 rw[Ta]
 have uI:=HQ hb hm
 rw[HM (a:=Ma.aV (jg b rows)) (n:=(Ma.bD (mK b rows)-Ma.aV (jg b rows)+1).toNat) (uY b row).nd (λk hk=>by have:=uI k hk;lia) λt ht=>RO h0 ht]
 unfold u9
 apply jP
 intro t _ _
 unfold dF
 rw[qX (fs:=mJ b rows) (f:=fw b row) (a:=t+1) (n:=0) (a0a.mpr ⟨row,hm,rfl⟩) rfl]
 have:pr (mJ b rows) t (0+1)=cM b rows t:=HP t rows 1
 rw[this]
 lia
theorem Tc(ps:List Nat):∀ws:List Int,ws.length=ps.sum->(Ma.a9 ps ws).map List.length=ps:=by
 induction ps with
 | nil=>intro ws _;rfl
 | cons p ps ih =>
  intro ws h
  rw[a0r] at h
  rw[Ma.a9,a0f,ih (ws.drop p) (by rw[a0B];lia),a0g]
  congr 1
  lia
end Me
namespace Mg
open Me Mq
def ns(g:Nat->Int):Nat->Int
 | 0=>0
 | n+1=>ns g n+g n
theorem iA{g h:Nat->Int}:∀ {n:Nat},(∀i,i<n->g i=h i)->ns g n=ns h n
 | 0,_=>rfl
 | n+1,e=>by rw[ns,ns,iA (n:=n) λi hi=>e i (by lia),e n (by lia)]
theorem rf(g:Nat->Int)(n:Nat):∀m:Nat,ns g (n+m)=ns g n+ns (λi=>g (n+i)) m
 | 0=>by simp[ns]
 | m+1=>by
  rw[<-a1E,ns,ns,rf g n m]
  lia
theorem vo(g:Nat->Int)(b:Nat):∀a:Nat,ns g (a*b)=ns (λi=>ns (λj=>g (i*b+j)) b) a
 | 0=>by simp[ns]
 | a+1=>by
  rw[Nat.succ_mul,rf,ns,vo g b a]
def tg(f:List (Int×Int))(G:Int->Int):Int:=(f.map λq=>q.2*G q.1).sum
theorem f9(p:Int×Int)(f:List (Int×Int))(G:Int->Int):tg (p::f) G=p.2*G p.1+tg f G:=by simp[tg]
theorem zU{k n:Int}{G:Int->Int}:∀ {f:List (Int×Int)},(keys f).Nodup->tg (dD f k n) G=tg f G+n*G k
 | [],_=>by simp[dD,put,look,tg]
 | (a,x)::f,nd=>by
  have jL:a∉keys f:=(a0n.mp nd).1
  have dW:(keys f).Nodup:=(a0n.mp nd).2
  by_cases e:a=k
  ·subst e
   rw[uW jL,f9,f9]
   simp only
   rw[a2F]
   lia
  ·rw[uX e,f9,f9,zU (k:=k) (n:=n) dW]
   lia
theorem HR{p:Int×Int}{w:Int}{G:Int->Int}{acc:List (Int×Int)}(nd:(keys acc).Nodup):∀n:Nat,tg (du p w n acc) G=tg acc G+p.2*ns (λ(d:Nat)=>G (p.1+(d:Int)*w)) n
 | 0=>by simp[ns,du]
 | n+1=>by
  rw[kM,zU (jO nd n),HR nd n,ns,a2U]
  lia
theorem HS{b:Nat}{w:Int}{G:Int->Int}:∀(f acc:List (Int×Int)),(keys acc).Nodup->tg (f.foldl (λacc p=>du p w b acc) acc) G=tg acc G+tg f λx=>ns (λ(d:Nat)=>G (x+(d:Int)*w)) b
 | [],acc,_=>by simp[tg]
 | p::f,acc,nd=>by
  rw[a0d,HS f _ (jO nd b),HR nd b,f9]
  lia
theorem Td{b:Nat}{w:Int}{G:Int->Int}(f:List (Int×Int)):tg (fc f b w) G=tg f λx=>ns (λ(d:Nat)=>G (x+(d:Int)*w)) b:=by
 have:=HS (b:=b) (w:=w) (G:=G) f [] (by simp[keys])
 have e:tg [] G=0:=rfl
 rw[e,a1t] at this
 exact this
def cG(b d:Nat)(row:List Int):Int:=(Ma.eG b d row.length row).sum
theorem zV(b d e L:Nat)(he:e<b):Ma.aI b (d*b+e) (L+1) (L+1)=Ma.aI b d L L++[e]:=by
 rw[Ma.yd]
 congr 1
 ·unfold Ma.aI
  apply a0V
  intro j hj
  have HU:=a2z.mp hj
  have e1:L+1-1-j=(L-1-j)+1:=by lia
  rw[e1,a2n,<-a0U]
  have e2:(d*b+e) / b=d:=by
   rw[a0H d b,a2T (by lia),a1Q he,a1r]
  rw[e2]
 ·have e1:L+1-1-L=0:=by lia
  rw[e1,a1I,a2H,a0H d b,Nat.mul_add_mod,Nat.mod_eq_of_lt he]
theorem Te(b d e:Nat)(row:List Int)(w:Int)(he:e<b):cG b (d*b+e) (row++[w])=cG b d row+e*w:=by
 unfold cG Ma.eG
 rw[a0j,a0W,zV b d e row.length he,a1T (by rw[Ma.W_]),a0T]
 simp
theorem HV(b:Nat)(G:Int->Int)(row:List Int):ns (λd=>G (cG b d row)) (b ^ row.length)=tg (aW b row) G:=by
 have aP:∀(n:Nat) (row:List Int),row.length=n->∀G:Int->Int,ns (λd=>G (cG b d row)) (b ^ row.length)=tg (aW b row) G:=λn=>by
  induction n with
  | zero =>
   intro row h G
   have:row=[]:=a1k h
   subst this
   simp[ns,tg,aW,cG,Ma.eG]
  | succ n ih =>
   intro row h G
   obtain⟨r,w,rfl⟩:∃r w,row=r++[w]:=by
    refine⟨row.dropLast,row.getLast (by intro z;rw[z] at h;simp at h),?_⟩
    exact(a1o _).symm
   have hr:r.length=n:=by simpa using h
   have e1:aW b (r++[w])=fc (aW b r) b w:=by
    unfold aW
    rw[a1C]
    rfl
   rw[e1,Td,<-ih r hr,a0j,a0W,a1q,vo]
   apply iA
   intro d _
   apply iA
   intro e he
   rw[Te b d e r w he]
 exact aP row.length row rfl G
theorem HW(b d m p L:Nat)(hb:0<b)(hm:m<b ^ L):Ma.aI b (d*b ^ L+m) (p+L) (p+L)=Ma.aI b d p p++Ma.aI b m L L:=by
 have gen:∀i,i<=L->Ma.aI b (d*b ^ L+m) (p+L) (p+i)=Ma.aI b d p p++Ma.aI b m L i:=λi=>by
  induction i with
  | zero =>
   intro _
   unfold Ma.aI
   simp only[a1r,List.range_zero,a2d,a0F]
   apply a0V
   intro j hj
   have HU:=a2z.mp hj
   have e1:p+L-1-j=(p-1-j)+L:=by lia
   rw[e1,a0Q,a0H (b ^ (p-1-j)),<-a0U]
   have e2:(d*b ^ L+m) / b ^ L=d:=by
    rw[a0H d,a2T (a1u hb),a1Q hm,a1r]
   rw[e2]
  | succ i ih =>
   intro hi
   rw[<-a1E,Ma.yd,Ma.yd,ih (by lia),a0C]
   congr 3
   have e1:p+L-1-(p+i)=L-1-i:=by lia
   rw[e1]
   have e3:b ^ L=b ^ (L-1-i)*b*b ^ i:=by
    rw[<-a1q,<-a0Q]
    congr 1
    lia
   have e4:d*b ^ L+m=b ^ (L-1-i)*(d*b ^ i*b)+m:=by
    rw[e3]
    congr 1
    rw[a0Y (b ^ (L-1-i)),<-a0Y d,a0H d,a0Y (b ^ (L-1-i))]
    congr 1
    rw[a0H b,<-a0Y]
   rw[e4,a2T (a1u hb),Nat.add_comm,Nat.add_mul_mod_self_right]
 exact gen L (Z0 _)
abbrev fj(b n:Nat)(ps:List Nat)(ws:List Int):List Int:=Ma.tJ ps (Ma.eG b n ps.sum ws)
theorem vp{b d m p:Nat}{ps:List Nat}{ws:List Int}(hb:0<b)(hm:m<b ^ ps.sum)(hw:ws.length=p+ps.sum):fj b (d*b ^ ps.sum+m) (p::ps) ws=cG b d (ws.take p)::fj b m ps (ws.drop p):=by
 have hl:(ws.take p).length=p:=by rw[a0g];lia
 have e:Ma.eG b (d*b ^ ps.sum+m) (p::ps).sum ws=Ma.eG b d p (ws.take p)++Ma.eG b m ps.sum (ws.drop p):=by
  unfold Ma.eG
  rw[a0r,HW b d m p ps.sum hb hm]
  conv=>lhs;rw[<-a0u p ws]
  rw[a1T (by rw[Ma.W_,hl])]
 show Ma.tJ (p::ps) (Ma.eG b (d*b ^ ps.sum+m) (p::ps).sum ws)=_
 rw[e]
 have l1:(Ma.eG b d p (ws.take p)).length=p:=Ma.Fw _ _ _ _ hl
 unfold Ma.tJ
 rw[Ma.a9,a0f]
 congr 1
 ·rw[List.take_left' l1]
  unfold cG
  rw[hl]
 ·rw[List.drop_left' l1]
  rfl
def tr(b:Nat):List (List Int)->(List Int->Int)->Int
 | [],F=>F []
 | row::rows,F=>tg (aW b row) λx=>tr b rows λv=>F (x::v)
theorem zW{b:Nat}(hb:0<b):∀(ps:List Nat) (ws:List Int) (F:List Int->Int),ws.length=ps.sum->ns (λn=>F (fj b n ps ws)) (b ^ ps.sum)=tr b (Ma.a9 ps ws) F
 | [],ws,F,_=>by
  show ns _ (b ^ 0)=F []
  rw[a1I]
  simp only[ns,a1t]
  rfl
 | p::ps,ws,F,h=>by
  rw[a0r] at h
  have hl:(ws.take p).length=p:=by rw[a0g];lia
  rw[a0r,a0Q,vo,Ma.a9,tr,<-HV,hl]
  apply iA
  intro d _
  rw[<-zW hb ps (ws.drop p) _ (by rw[a0B];lia)]
  apply iA
  intro m hm
  rw[vp hb hm h]
theorem T_{f:List (Int×Int)}{G H:Int->Int}(h:∀x,G x=H x):tg f G=tg f H:=by
 unfold tg
 congr 1
 exact a0V λp _=>by rw[h]
theorem HX{b:Nat}:∀ {rows:List (List Int)} {F G:List Int->Int},(∀v,v.length=rows.length->F v=G v)->tr b rows F=tr b rows G
 | [],_,_,h=>h [] rfl
 | _::rows,_,_,h=>T_ λx=>HX λv hv=>h (x::v) (by simp[hv])
theorem rh(c:Int)(f:List (Int×Int))(G:Int->Int):tg f (λx=>c*G x)=c*tg f G:=by
 induction f with
 | nil=>simp[tg]
 | cons p f ih=>rw[f9,f9,ih,a2U,<-a1V,<-a1V,a2y p.2 c]
theorem HY(f:List (Int×Int))(G H:Int->Int):tg f (λx=>G x-H x)=tg f G-tg f H:=by
 induction f with
 | nil=>simp[tg]
 | cons p f ih=>rw[f9,f9,f9,ih,Int.mul_sub];lia
theorem zX(f:List (Int×Int))(G H:Int->Int):tg f (λx=>G x+H x)=tg f G+tg f H:=by
 induction f with
 | nil=>simp[tg]
 | cons p f ih=>rw[f9,f9,f9,ih,a2U];lia
theorem zY{b:Nat}(c:Int):∀(rows:List (List Int)) (F:List Int->Int),tr b rows (λv=>c*F v)=c*tr b rows F
 | [],_=>rfl
 | row::rows,F=>by
  show tg _ _=c*tg _ _
  rw[<-rh]
  exact T_ λx=>zY c rows _
theorem HZ{b:Nat}:∀(rows:List (List Int)) (F G:List Int->Int),tr b rows (λv=>F v-G v)=tr b rows F-tr b rows G
 | [],_,_=>rfl
 | row::rows,F,G=>by
  show tg _ _=tg _ _-tg _ _
  rw[<-HY]
  exact T_ λx=>HZ rows _ _
theorem Ia{b:Nat}:∀(rows:List (List Int)) (F G:List Int->Int),tr b rows (λv=>F v+G v)=tr b rows F+tr b rows G
 | [],_,_=>rfl
 | row::rows,F,G=>by
  show tg _ _=tg _ _+tg _ _
  rw[<-zX]
  exact T_ λx=>Ia rows _ _
theorem Tg{b:Nat}(rows:List (List Int)):tr b rows (λ_=>0)=0:=by
 have:=zY (b:=b) 0 rows λ_=>0
 simp only[a2x] at this
 exact this
theorem Ib{b:Nat}(rows:List (List Int))(F:Int->List Int->Int)(a:Int):∀n:Nat,tr b rows (λv=>sm (λt=>F t v) a n)=sm (λt=>tr b rows (F t)) a n
 | 0=>Tg rows
 | n+1=>by
  simp only[sm]
  rw[Ia,Ib rows F a n]
def fp(h:Int->Int)(v:List Int):Int:=v.foldl (λm x=>m*h x) 1
theorem rj(h:Int->Int):∀(v:List Int) (c:Int),v.foldl (λm x=>m*h x) c=c*v.foldl (λm x=>m*h x) 1
 | [],c=>by simp
 | x::v,c=>by
  rw[a0d,a0d,rj h v (c*h x),rj h v (1*h x),a1G,a1V]
theorem Id{b:Nat}(h:Int->Int):∀rows:List (List Int),tr b rows (fp h)=rows.foldl (λm row=>m*tg (aW b row) h) 1
 | []=>rfl
 | row::rows=>by
  have e:∀(rs:List (List Int)) (c:Int),rs.foldl (λm row=>m*tg (aW b row) h) c=c*rs.foldl (λm row=>m*tg (aW b row) h) 1:=λrs=>by
   induction rs with
   | nil=>intro c;simp
   | cons r rs ih=>intro c;rw[a0d,a0d,ih (c*_),ih (1*_),a1G,a1V]
  rw[a0d,e rows,a1G,<-Id h rows]
  show tg (aW b row) (λx=>tr b rows λv=>fp h (x::v))=_
  have e2:∀x,tr b rows (λv=>fp h (x::v))=tr b rows (fp h)*h x:=λx=>by
   rw[a2y,<-zY]
   exact HX λv _=>by
    unfold fp
    rw[a0d,rj,a1G]
  rw[T_ e2,rh,a2y]
def iv(a:Int)(n:Nat)(x:Int):Int:=if a<=x/\x<a+n then 1 else 0
theorem vq(x a:Int):∀n:Nat,sm (λt=>if x=t then 1 else 0) a n=iv a n x
 | 0=>by
  unfold iv
  rw[if_neg (by lia)]
  rfl
 | n+1=>by
  simp only[sm]
  rw[vq x a n]
  unfold iv
  by_cases h1:a<=x/\x<a+n
  ·rw[if_pos h1,if_neg (by lia),if_pos (by push_cast;lia)]
   rfl
  ·by_cases h2:x=a+n
   ·rw[if_neg h1,if_pos h2,if_pos (by push_cast;lia)]
    rfl
   ·rw[if_neg h1,if_neg h2,if_neg (by push_cast;lia)]
    rfl
theorem vt{t:Int}:∀ {f:List (Int×Int)},(keys f).Nodup->tg f (λx=>if x=t then 1 else 0)=gv f t
 | [],_=>rfl
 | (a,x)::f,nd=>by
  have jL:a∉keys f:=(a0n.mp nd).1
  have dW:(keys f).Nodup:=(a0n.mp nd).2
  rw[f9,vt dW]
  unfold gv
  by_cases e:a=t
  ·subst e
   rw[oH,u8 jL,if_pos rfl]
   simp
  ·rw[oJ e,if_neg e]
   simp
theorem zZ(f:List (Int×Int))(F:Int->Int->Int)(a:Int):∀n:Nat,tg f (λx=>sm (λt=>F t x) a n)=sm (λt=>tg f (F t)) a n
 | 0=>by
  have:=rh 0 f λ_=>0
  simp only[a2x] at this
  exact this
 | n+1=>by
  simp only[sm]
  rw[zX,zZ f F a n]
theorem Ti{b:Nat}(row:List Int)(a:Int)(n:Nat):tg (aW b row) (iv a n)=sm (fw b row) a n:=by
 have e:∀x,iv a n x=sm (λt=>if x=t then 1 else 0) a n:=λx=>(vq x a n).symm
 rw[T_ e,zZ (aW b row) (λt x=>if x=t then 1 else 0)]
 apply jP
 intro t _ _
 exact vt (uY b row).nd
theorem Ie{b:Nat}(rows:List (List Int))(a:Int)(n:Nat):tr b rows (fp (iv a n))=pr (mJ b rows) a n:=by
 rw[Id]
 unfold pr mJ
 rw[List.foldl_map]
 congr 1
 funext m row
 rw[Ti]
theorem Ig{f:List (Int×Int)}{G H:Int->Int}(h:∀x∈keys f,G x=H x):tg f G=tg f H:=by
 unfold tg
 congr 1
 exact a0V λp hp=>by rw[h p.1 (a0a.mpr ⟨p,hp,rfl⟩)]
theorem Ih{b:Nat}{lo hi:Int}:∀ {rows:List (List Int)} {F G:List Int->Int},(∀row∈rows,∀k∈keys (aW b row),lo<=k/\k<=hi)->(∀v,v.length=rows.length->(∀x∈v,lo<=x/\x<=hi)->F v=G v)->tr b rows F=tr b rows G
 | [],_,_,_,h=>h [] rfl λ_ z=>by simp at z
 | row::rows,_,_,hk,h=>Ig λx hx=>Ih (λr hr=>hk r (by simp[hr])) λv hv hb=>h (x::v) (by simp[hv]) λy hy=>by
   rcases ZZ.mp hy with rfl | hy
   ·exact hk row (by simp) _ hx
   ·exact hb y hy
theorem Ii(q:Int->Prop)[DecidablePred q]:∀v:List Int,fp (λx=>if q x then 1 else 0) v=if ∀x∈v,q x then 1 else 0
 | []=>by simp[fp]
 | x::v=>by
  have e:fp (λx=>if q x then 1 else 0) (x::v)=(if q x then 1 else 0)*fp (λx=>if q x then 1 else 0) v:=by
   unfold fp
   rw[a0d,rj,a1G]
  rw[e,Ii q v]
  by_cases h1:q x
  ·by_cases h2:∀y∈v,q y
   ·rw[if_pos h1,if_pos h2,if_pos (by intro y hy;rcases ZZ.mp hy with rfl | hy;exact h1;exact h2 y hy)];rfl
   ·rw[if_pos h1,if_neg h2,if_neg (λz=>h2 λy hy=>z y (by simp[hy]))];rfl
  ·have h3:¬ ∀y∈x::v,q y:=λz=>h1 (z x a0t)
   rw[if_neg h1,if_neg h3,a2x]
def kR(v:List Int):Int:=Ma.bD v-Ma.aV v
theorem Ij{v:List Int}(hv:0<v.length){a:Int}{n:Nat}:(∀x∈v,a<=x/\x<a+n)↔a<=Ma.aV v/\Ma.bD v<a+n:=by
 obtain⟨m1,m2⟩:=Ma.E_ v hv
 obtain⟨m3,m4⟩:=Ma.L_ v hv
 constructor
 ·intro h
  exact⟨(h _ m1).1,(h _ m3).2⟩
 ·rintro⟨h1,h2⟩ x hx
  have:=m2 x hx
  have:=m4 x hx
  lia
theorem Ik{v:List Int}(hv:0<v.length)(a:Int)(n:Nat):fp (iv a n) v=if a<=Ma.aV v/\Ma.bD v<a+n then 1 else 0:=by
 have:=Ii (λx=>a<=x/\x<a+n) v
 have e:iv a n=λx=>if a<=x/\x<a+(n:Int) then 1 else 0:=rfl
 rw[e,this]
 by_cases h:∀x∈v,a<=x/\x<a+n
 ·rw[if_pos h,if_pos ((Ij hv).mp h)]
 ·rw[if_neg h,if_neg λz=>h ((Ij hv).mpr z)]
theorem Il{v:List Int}(hv:0<v.length){d:Nat}{A:Int}{N:Nat}(h1:A<=Ma.aV v)(h2:Ma.aV v<A+N):(if kR v<=d then 1 else 0)=sm (λa=>fp (iv a (d+1)) v-fp (iv (a+1) d) v) A N:=by
 have e:sm (λa=>fp (iv a (d+1)) v-fp (iv (a+1) d) v) A N=sm (λa=>if Ma.aV v=a then (if kR v<=d then 1 else 0) else 0) A N:=by
  apply jP
  intro a _ _
  rw[Ik hv,Ik hv]
  unfold kR
  obtain⟨m1,m2⟩:=Ma.E_ v hv
  obtain⟨m3,m4⟩:=Ma.L_ v hv
  have mm:=m2 _ m3
  push_cast
  by_cases q1:Ma.aV v=a
  ·rw[if_pos q1]
   by_cases q2:Ma.bD v-Ma.aV v<=d
   ·rw[if_pos (by lia),if_neg (by lia),if_pos q2];rfl
   ·rw[if_neg (by lia),if_neg (by lia),if_neg q2];rfl
  ·rw[if_neg q1]
   by_cases q2:a<=Ma.aV v/\Ma.bD v<a+(d+1)
   ·rw[if_pos q2,if_pos (by lia)];rfl
   ·rw[if_neg q2,if_neg (by lia)];rfl
 rw[e]
 by_cases q:kR v<=d
 ·rw[if_pos q,vq]
  unfold iv
  rw[if_pos ⟨h1,h2⟩]
 ·rw[if_neg q]
  refine(hJ λt _ _=>?_).symm
  split <;> rfl
section
variable{b:Nat}{ps:List Nat}{ws:List Int}
theorem Tj(hb:0<b)(hw:ws.length=ps.sum)(hp:0<ps.length)(d:Nat):ns (λn=>if kR (fj b n ps ws)<=d then 1 else 0) (b ^ ps.sum)=u9 b (Ma.a9 ps ws) d:=by
 rw[zW hb ps ws (λv=>if kR v<=d then 1 else 0) hw]
 have aZ:0<(Ma.a9 ps ws).length:=by rw[Ma.iu];exact hp
 rw[Ih (G:=λv=>sm (λa=>fp (iv a (d+1)) v-fp (iv (a+1) d) v) (Ma.aV (jg b (Ma.a9 ps ws))) (Ma.bD (mK b (Ma.a9 ps ws))-Ma.aV (jg b (Ma.a9 ps ws))+1).toNat) (lo:=Ma.aV (jg b (Ma.a9 ps ws))) (hi:=Ma.bD (mK b (Ma.a9 ps ws)))
  (λrow hr k hk=>HQ hb hr k hk) λv hv hx=>?_]
 ·rw[Ib (Ma.a9 ps ws) λa v=>fp (iv a (d+1)) v-fp (iv (a+1) d) v]
  unfold u9
  apply jP
  intro a _ _
  rw[HZ,Ie,Ie]
  rfl
 ·have jQ:0<v.length:=by lia
  have m1:=hx _ (Ma.E_ v jQ).1
  exact Il jQ (by lia) (by lia)
end
def cd(w:Nat->Bool)(k:Nat->Int):Nat->List (Int×Int)
 | 0=>[]
 | n+1=>if w n=true then dD (cd w k n) (k n) 1 else cd w k n
structure Pos(f:List (Int×Int)):Prop where
 nd:(keys f).Nodup
 ps:∀p∈f,1<=p.2
section
variable{b:Nat}{ps:List Nat}{ws:List Int}
end
end Mg
namespace Mu
open Me Mg
abbrev vv:=List (Int×Int×Int)
abbrev Zx(h:vv):List Int:=h.map (·.1)
def Tk(h:vv)(k:Int):Option (Int×Int):=(h.find? λq=>decide (q.1=k)).map (·.2)
abbrev gT(h:vv)(k:Int):Int×Int:=(Tk h k).getD (0,0)
def TT(h:vv)(A B:Int->Int):Int:=(h.map λq=>q.2.1*A q.1+q.2.2*B q.1).sum
theorem Im{g:Nat->Int}:∀ {n:Nat},(∀i,i<n->0<=g i)->0<=ns g n
 | 0,_=>a0L _
 | n+1,h=>by
  rw[ns]
  have:=Im (n:=n) λi hi=>h i (by lia)
  have:=h n (by lia)
  lia
theorem Io{g h:Nat->Int}:∀ {n:Nat},(∀i,i<n->g i<=h i)->ns g n<=ns h n
 | 0,_=>a0L _
 | n+1,e=>by
  rw[ns,ns]
  have:=Io (n:=n) λi hi=>e i (by lia)
  have:=e n (by lia)
  lia
theorem z9(x:Int):∀n:Nat,ns (λ_=>x) n=n*x
 | 0=>by simp[ns]
 | n+1=>by rw[ns,z9 x n];push_cast;rw[a2F];lia
theorem Tl{b d i:Nat}{r1 r2:List Int}(hb:0<b)(hi:i<b ^ r2.length):cG b (d*b ^ r2.length+i) (r1++r2)=cG b d r1+cG b i r2:=by
 unfold cG Ma.eG
 rw[a0j,HW b d i r1.length r2.length hb hi,a1T (by rw[Ma.W_]),a0T]
end Mu
namespace Hv
open PySem L2
theorem Tm{b q j:Nat}{ws:List Int}(hj:j<=ws.length):(wz (Ma.aI b q j j) ws).sum=Mg.cG b q (ws.take j):=by
 unfold Mg.cG Ma.eG
 rw[a0g,a1n hj]
 congr 1
 have e:ws=ws.take j++ws.drop j:=(a0u j ws).symm
 conv=>lhs;rw[e]
 unfold wz
 rw[<-a0F (Ma.aI b q j j),a1T (by rw[Ma.W_,a0g,a1n hj])]
 simp
theorem Tn{b q:Nat}{r:List Int}(Fn:0<b)(hb:b<=16)(hw:∀x∈r,-9<=x/\x<=9) : -(135*(r.length:Int))<=Mg.cG b q r/\Mg.cG b q r<=135*(r.length:Int):=by
 unfold Mg.cG
 have gen:∀l:List Int,(∀y∈l,-135<=y/\y<=135)->-(135*(l.length:Int))<=l.sum/\l.sum<=135*(l.length:Int):=λl=>by
  induction l with
  | nil=>intro _;simp
  | cons a t ih =>
   intro h
   have h1:=h a (by simp)
   have h2:=ih λy hy=>h y (by simp[hy])
   simp only[a0r,a0k]
   push_cast
   lia
 have g:=gen (Ma.eG b q r.length r) λy hy=>by
  unfold Ma.eG at hy
  obtain⟨i,hi⟩:=a0P hy
  rw[List.getElem?_zipWith] at hi
  cases e1:(Ma.aI b q r.length r.length)[i]? with
  | none=>rw[e1] at hi;simp at hi
  | some d =>
   cases e2:r[i]? with
   | none=>rw[e1,e2] at hi;simp at hi
   | some x =>
    rw[e1,e2] at hi
    have cz:y=(d:Int)*x:=by simpa using hi.symm
    have hd:=Ma.OV Fn (Z1 e1)
    have hx:=hw x (Z1 e2)
    have:=Me.GB (m:=0) (x:=0) (w:=x) (d:=d) (b:=b) ⟨by decide,by decide⟩ hx hb hd
    rw[cz]
    lia
 rw[Ma.Fw _ _ _ _ rfl] at g
 exact g
def kS(H:Hp)(b j q:Nat)(rs:List Addr):Prop:=∀k a,rs[k]?=some a->H a=some (.lst (ay (Ma.aI b (q+k) j j)))/\q+k<b ^ j
theorem kS.keep{H H':Hp}{b j q:Nat}{rs:List Addr}(h:kS H b j q rs)(s:ag H H'):kS H' b j q rs:=λk a e=>⟨s _ _ (h k a e).1,(h k a e).2⟩
end Hv
namespace Mu
open Me Mg
theorem To{lo n Aa n2 st:Nat}(g:Nat->Int)(hr:(n=1)\/(Aa=0/\n2=st)):ns (λi=>ns (λj=>g ((lo+i)*st+(Aa+j))) n2) n=ns (λi=>g (lo*st+Aa+i)) (n*n2):=by
 rcases hr with rfl | ⟨rfl,rfl⟩
 ·rw[a2a]
  simp only[ns,a1t,a1r]
  exact iA λj _=>by rw[a1E]
 ·rw[vo]
  refine iA λi _=>iA λj _=>?_
  rw[a2w,a0K,a1r,a1E]
theorem Tp{b x m t:Nat}(ht:t<m):x % b ^ m / b ^ (m-1-t) % b=x / b ^ (m-1-t) % b:=by
 have e:b ^ m=b ^ (m-1-t)*(b*b ^ t):=by
  rw[<-a2n,<-a0Q]
  congr 1
  lia
 rw[e,Nat.mod_mul_right_div_self,Nat.mod_mul_right_mod]
theorem Ab{b n L i:Nat}(h:i<L):(Ma.aI b n L L)[i]?=some (n / b ^ (L-1-i) % b):=by
 unfold Ma.aI
 rw[Z2,a2u h]
 rfl
theorem Ac{b a pl o l:Nat}(h:o+l<=pl):((Ma.aI b a pl pl).drop o).take l=Ma.aI b (a / b ^ (pl-o-l) % b ^ l) l l:=by
 apply a2G
 intro t
 by_cases ht:t<l
 ·rw[List.getElem?_take_of_lt ht,List.getElem?_drop,Ab (by lia),Ab ht,Tp ht,a0U,<-a0Q]
  have:pl-1-(o+t)=pl-o-l+(l-1-t):=by lia
  rw[this]
 ·rw[a1y (by rw[a0g,a0B,Ma.W_];lia),a1y (by rw[Ma.W_];lia)]
theorem os_{b a pl o l:Nat}(h:o<=pl)(h2:pl<=o+l):((Ma.aI b a pl pl).drop o).take l=Ma.aI b (a % b ^ (pl-o)) (pl-o) (pl-o):=by
 have e:((Ma.aI b a pl pl).drop o).take l=((Ma.aI b a pl pl).drop o).take (pl-o):=by
  rw[a0v (by rw[a0B,Ma.W_];lia),a0v (by rw[a0B,Ma.W_];lia)]
 rw[e,Ac (by lia)]
 have:pl-o-(pl-o)=0:=by lia
 rw[this,a1I,a2H]
theorem Tq{b a pl o l:Nat}(h:pl<=o):((Ma.aI b a pl pl).drop o).take l=[]:=by
 rw[a2f (by rw[Ma.W_];exact h)]
 simp
def pj(pl o l:Nat):Nat:=if o+l<=pl then l else if o<=pl then pl-o+1 else 0
def pq(b a pl o l:Nat):Nat:=if o+l<=pl then a / b ^ (pl-o-l) % b ^ l else if o<=pl then a % b ^ (pl-o)*b else 0
def pn(pl e o l:Nat):Nat:=if o+l<=pl then 1 else if o<=pl then e else 1
theorem Tr{pl o l:Nat}:pj pl o l<=l:=by
 unfold pj
 split
 ·exact Z0 _
 ·split <;> lia
end Mu
namespace Hv
open PySem L2
def mU(H:Hp)(p:Addr)(b a pl e:Nat)(ps:List Nat)(bs:List Addr):Prop:=∀i l r,ps[i]?=some l->bs[i]?=some r->r≠p/\∃rs,H r=some (.lst (rs.map V.ref))/\rs.length=Mu.pn pl e (ps.take i).sum l/\(∀x∈rs,x≠p)/\kS H b (Mu.pj pl (ps.take i).sum l) (Mu.pq b a pl (ps.take i).sum l) rs
theorem mU.up{H H':Hp}{p:Addr}{b a pl e:Nat}{ps:List Nat}{bs:List Addr}(h:mU H p b a pl e ps bs)(k:∀x o,H x=some o->x≠p->H' x=some o):mU H' p b a pl e ps bs:=λi l r h1 h2=>by
 obtain⟨n1,rs,g1,g2,g3,g4⟩:=h i l r h1 h2
 exact⟨n1,rs,k _ _ g1 n1,g2,g3,λm x e=>⟨k _ _ (g4 m x e).1 (g3 x (Z1 e)),(g4 m x e).2⟩⟩
def Ad:Sp:=λvs H Q _=>∃f A c b ps ws,∃(hd:Addr) (a pl e:Nat),vs=[.ref f,.ref hd,.int e]/\aS H f A c b ps ws/\H hd=some (.lst (ay (Ma.aI b a pl pl)))/\e<=b/\pl<=24/\
 ∀(p:Addr) (bs:List Addr) (H':Hp),H p=none->ag H H'->H' p=some (.lst (bs.map V.ref))->bs.length=ps.length->mU H' p b a pl e ps bs->Q (.ref p) H'
section
variable{P:Program}{w:World}{K:PySem.W.Frag}{mg:Str->Option Value}{base:Heap}
theorem Ip:aQ ["frame","head","end","beginnings","start","length","given"] ["frame","head","end"] (g_ tY):=⟨rfl,rfl,rfl,by decide +kernel,rfl,by decide +kernel,by decide +kernel⟩
theorem Ts{f:Addr}{fd:FuncData}(F:aG K "part_beginnings" "part_beginnings" tY f fd)(T:Txt mg):ax P w K mg base aK 1 f fd ["frame","head","end"] Ad:=by
 refine F.ok Ip (λvs H Q E h=>?_) (λae A outer s H vs Q E hr h=>?_)
 ·obtain⟨g,A,c,b,ps,ws,hd,a,pl,e,rfl,_⟩:=h;rfl
 ·obtain⟨g,A',c,b,ps,ws,hd,a,pl,e,rfl,G,oY,Zy,hpl,k⟩:=h
  have nd:=Ip.nd
  have ok:=G.ok
  have l4:=ok.l4
  have b2:=ok.b2
  refine⟨_,c_ (k_ (i:=3) nd rfl (Or.inl rfl) (A_ e_))
   (c_ (k_ (i:=4) nd rfl (Or.inl rfl) f_)
   (c_ (Y_ PassesOwn.never rfl (S_ (bX (pv 0) f_)) (q_ (i:=5) nd rfl (Or.inl rfl))
    (c_ (k_ (i:=6) nd rfl (Or.inr rfl) (kj lT (pv 1) (gQ (pv 4)) (gQ (p_ K_ (pv 4) (pv 5)))))
    (c_ (Z_ (Ej nX nW (pv 4) (dC T.len (by rfl) (pv 1)) (p_ K_ (pv 4) (pv 5)))
     (h_ (C_ (kn PySem.F.plainAttrs_list PySem.F.slot_list_append PySem.F.type_list_append ko (pv 3) (a_ (iW (g_ tY) ["frame","head","end","beginnings","start","length","given"] ["given"] [6] rfl (M_ (by rfl) T.range (a_ (pv 2) e_)) (λcl C s H fp=>fZ)
      (λcl C s H fp=>p_ io (pv 1) (A_ (a_ (pv 0) e_))) (by decide +kernel)) e_))))
     (h_ (C_ (kn PySem.F.plainAttrs_list PySem.F.slot_list_append PySem.F.type_list_append ko (pv 3) (a_ (A_ (a_ (pv 6) e_)) e_)))))
    (h_ (k_ (i:=4) nd rfl (Or.inl rfl) (p_ K_ (pv 4) (pv 5)))))))
   (h_ (n_ (pv 3))))),?_⟩
  refine⟨sz (by decide),λp hp=>?_⟩
  have s1:ag H (upd H p (.lst [])):=b_ hp
  have G1:=G.keep s1
  refine⟨_,rfl,_,_,_,_,rfl,rfl,bo.of G1.tp,rfl,A',rfl,⟨_,af.of G1.hp⟩,kf (K:=K) (a:=A') (xs:=ay ps) (λi σ H2=>∃(bs:List Addr) (v5 v6:Option V),σ=[some (.ref g),some (.ref hd),some (.int e),some (.ref p),some (.int (((ps.take i).sum:Nat):Int)),v5,v6]/\ag H H2/\H2 p=some (.lst (bs.map V.ref))/\bs.length=i/\mU H2 p b a pl e ps bs)
   ⟨[],none,none,rfl,s1,d_,rfl,λi l r _ h=>by simp at h⟩ (λi σ H2 _ h=>by obtain⟨_,_,_,_,s2,_⟩:=h;exact af.of (s2 _ _ G.hp)) ?_ ?_⟩
  ·rintro i x σ H2 hx ⟨bs,v5,v6,rfl,s2,cO,bM,B2⟩
   obtain⟨l,hl,rfl⟩:=zL hx
   have Zz:i<4:=by have:=(ZX.mp hl).1;lia
   generalize eo:(ps.take i).sum=o
   have es:(ps.take (i+1)).sum=o+l:=by rw[Z8,hl,a0T,eo];simp
   have eg:cU (ay (Ma.aI b a pl pl)) (some ((o:Nat):Int)) (some (((o:Nat):Int)+((l:Nat):Int)))=ay (((Ma.aI b a pl pl).drop o).take l):=by
    rw[F0]
    simp[ay,a1U,a2J]
   refine⟨_,rfl,_,rfl,_,rfl,_,rfl,_,rfl,_,_,rfl,rfl,_,rfl,hd,_,rfl,af.of (s2 _ _ oY),λq hq=>?_⟩
   have ZA:cU (ay (Ma.aI b a pl pl)) (some ((o:Nat):Int)) (some ((λi j=>i+j) ((o:Nat):Int) ((l:Nat):Int)))=ay (((Ma.aI b a pl pl).drop o).take l):=eg
   have s3:=b_ (o:=.lst (ay (((Ma.aI b a pl pl).drop o).take l))) hq
   have u3:(upd H2 q (.lst (ay (((Ma.aI b a pl pl).drop o).take l)))) q=_:=d_
   have Tt:p≠q:=l_ cO hq
   rw[show(upd H2 q (.lst (cU (ay (Ma.aI b a pl pl)) (some ((o:Nat):Int)) (some (((o:Nat):Int)+((l:Nat):Int))))))=upd H2 q (.lst (ay (((Ma.aI b a pl pl).drop o).take l))) from by rw[eg]]
   generalize upd H2 q (.lst (ay (((Ma.aI b a pl pl).drop o).take l)))=H3 at s3 u3⊢
   have p3:=s3 _ _ cO
   have Iq:∀(r:Addr) (rs:List Addr) (H4:Hp),ag H3 H4->H4 r=some (.lst (rs.map V.ref))->r≠p->rs.length=Mu.pn pl e o l->(∀x∈rs,x≠p)->kS H4 b (Mu.pj pl o l) (Mu.pq b a pl o l) rs->
     ag H (upd H4 p (.lst (bs.map V.ref++[V.ref r])))/\(upd H4 p (.lst (bs.map V.ref++[V.ref r]))) p=some (.lst ((bs++[r]).map V.ref))/\(bs++[r]).length=i+1/\mU (upd H4 p (.lst (bs.map V.ref++[V.ref r]))) p b a pl e ps (bs++[r]):=λr rs H4 s4 HE nr hn aZ RD=>by
    refine⟨iY ((s2.trans s3).trans s4) hp,by rw[d_,a0p];rfl,by simp[bM],λm l' r' h1 h2=>?_⟩
    have Ae:∀x ob,H4 x=some ob->x≠p->(upd H4 p (.lst (bs.map V.ref++[V.ref r]))) x=some ob:=λx ob e n=>by rw[i_ n];exact e
    by_cases hm:m<bs.length
    ·rw[a0i hm] at h2
     exact mU.up B2 (λx ob e n=>Ae x ob ((s3.trans s4) _ _ e) n) m l' r' h1 h2
    ·have mH:m=bs.length:=by
      have:=(ZX.mp h2).1
      simp at this
      lia
     have Tu:m=i:=by lia
     subst Tu
     rw[a0q (by lia),mH,a1D] at h2
     have er:r=r':=by simpa using h2
     subst er
     rw[hl] at h1
     have el:l=l':=Z6 h1
     subst el
     rw[eo]
     exact⟨nr,rs,Ae _ _ HE nr,hn,aZ,λt x e=>⟨Ae _ _ (RD t x e).1 (aZ x (Z1 e)),(RD t x e).2⟩⟩
   have one:∀H4,ag H3 H4->((Ma.aI b a pl pl).drop o).take l=Ma.aI b (Mu.pq b a pl o l) (Mu.pj pl o l) (Mu.pj pl o l)->Mu.pq b a pl o l<b ^ Mu.pj pl o l->kS H4 b (Mu.pj pl o l) (Mu.pq b a pl o l) [q]:=λH4 s4 e1 e2 t x e=>by
    have ht:t=0:=by have:=(ZX.mp e).1;simp at this;exact this
    subst ht
    have ex:q=x:=by simpa using e
    subst ex
    rw[a1r,<-e1]
    exact⟨s4 _ _ u3,e2⟩
   have Tv:(((ay (Ma.aI b a pl pl)).length:Nat):Int)=(pl:Int):=by rw[ay,ZW,Ma.W_]
   refine⟨_,rfl,_,rfl,hd,_,rfl,.inl (af.of (s3 _ _ (s2 _ _ oY))),_,_,rfl,rfl,_,rfl,?_⟩
   rw[Tv]
   have b0:0<b:=by lia
   have Ir:∀(_:((Ma.aI b a pl pl).drop o).take l=Ma.aI b (Mu.pq b a pl o l) (Mu.pj pl o l) (Mu.pj pl o l)) (_:Mu.pq b a pl o l<b ^ Mu.pj pl o l) (_:1=Mu.pn pl e o l) (d:Addr) (fD:H3 d=none),_:=λe1 e2 e3 d fD=>Iq d [q] _ (b_ (o:=.lst [.ref q]) fD) d_ (Ne.symm (l_ p3 fD)) e3 (λx hx=>(show x=q by simpa using hx)▸Ne.symm Tt) (one _ (b_ fD) e1 e2)
   by_cases hA:o+l<=pl
   ·have j1:Mu.pj pl o l=l:=by unfold Mu.pj;rw[if_pos hA]
    have j2:Mu.pq b a pl o l=a / b ^ (pl-o-l) % b ^ l:=by unfold Mu.pq;rw[if_pos hA]
    have j3:Mu.pn pl e o l=1:=by unfold Mu.pn;rw[if_pos hA]
    rw[decide_eq_true (show((o:Nat):Int)<=(pl:Int) by lia)]
    refine cf ⟨_,rfl,_,rfl,_,_,rfl,rfl,_,_,rfl,rfl,_,rfl,?_⟩
    rw[decide_eq_false (show ¬ (pl:Int)<(o:Int)+(l:Int) by lia)]
    refine aX ⟨_,rfl,.inl ⟨rfl,_,af.of p3⟩,_,rfl,sz (by simp),λd fD=>?_⟩
    obtain⟨c1,c2,c3,c4⟩:=Ir (by rw[j1,j2];exact Mu.Ac hA) (by rw[j1,j2];exact a2j _ (a1u b0)) j3.symm d fD
    refine⟨p,_,_,rfl,rfl,(b_ fD) _ _ p3,cq (by rw[ZW];lia),?_⟩
    refine⟨_,rfl,_,rfl,_,_,rfl,rfl,bs++[d],some (.int (l:Int)),some (.ref q),?_,c1,c2,c3,c4⟩
    rw[es];push_cast;rfl
   by_cases hC:pl<o
   ·have j1:Mu.pj pl o l=0:=by unfold Mu.pj;rw[if_neg hA,if_neg (by lia)]
    have j2:Mu.pq b a pl o l=0:=by unfold Mu.pq;rw[if_neg hA,if_neg (by lia)]
    have j3:Mu.pn pl e o l=1:=by unfold Mu.pn;rw[if_neg hA,if_neg (by lia)]
    rw[decide_eq_false (show ¬ ((o:Nat):Int)<=(pl:Int) by lia)]
    refine aX ⟨_,rfl,aX ⟨_,rfl,.inl ⟨rfl,_,af.of p3⟩,_,rfl,sz (by simp),λd fD=>?_⟩⟩
    obtain⟨c1,c2,c3,c4⟩:=Ir (by rw[j1,j2];exact Mu.Tq (by lia)) (by rw[j1,j2];exact a1u b0) j3.symm d fD
    refine⟨p,_,_,rfl,rfl,(b_ fD) _ _ p3,cq (by rw[ZW];lia),?_⟩
    refine⟨_,rfl,_,rfl,_,_,rfl,rfl,bs++[d],some (.int (l:Int)),some (.ref q),?_,c1,c2,c3,c4⟩
    rw[es];push_cast;rfl
   ·have j1:Mu.pj pl o l=pl-o+1:=by unfold Mu.pj;rw[if_neg hA,if_pos (by lia)]
    have j2:Mu.pq b a pl o l=a % b ^ (pl-o)*b:=by unfold Mu.pq;rw[if_neg hA,if_pos (by lia)]
    have j3:Mu.pn pl e o l=e:=by unfold Mu.pn;rw[if_neg hA,if_pos (by lia)]
    rw[decide_eq_true (show((o:Nat):Int)<=(pl:Int) by lia)]
    refine cf ⟨_,rfl,_,rfl,_,_,rfl,rfl,_,_,rfl,rfl,_,rfl,?_⟩
    rw[decide_eq_true (show(pl:Int)<(o:Int)+(l:Int) by lia)]
    have Iu:=Mu.os_ (b:=b) (a:=a) (pl:=pl) (o:=o) (l:=l) (by lia) (by lia)
    have dS:=ok.dS
    refine cf ⟨_,rfl,.inl ⟨rfl,_,af.of p3⟩,_,rfl,_,rfl,by lia,by lia,qo (lo:=0) (n:=(e:Int).toNat) (λm ys H4=>∃rs:List Addr,ys=rs.map V.ref/\rs.length=m/\(∀x∈rs,x≠p)/\ag H3 H4/\kS H4 b (pl-o+1) (a % b ^ (pl-o)*b) rs)
     ⟨[],rfl,rfl,λx hx=>by simp at hx,ag.refl _,λt x h=>by simp at h⟩ ?_ ?_⟩
    ·rintro m ys H4 hm ⟨rs,rfl,ff,aZ,s4,RD⟩
     have ZB:m<e:=by lia
     refine⟨cq (by rw[ZW];lia),_,rfl,_,rfl,sz (by simp),λt ht=>?_⟩
     have Af:ag H4 _:=b_ (o:=.lst [.int (0+(m:Int))]) ht
     have s5:=s4.trans Af
     have u5:(upd H4 t (.lst [.int (0+(m:Int))])) t=_:=d_
     generalize upd H4 t (.lst [.int (0+(m:Int))])=H5 at Af s5 u5⊢
     refine⟨q,t,_,_,rfl,rfl,s5 _ _ u3,u5,sz (by rw[Iu,ay,ZW,Ma.W_];simp;lia),λr dj=>?_⟩
     have s6:=b_ (o:=.lst (ay (((Ma.aI b a pl pl).drop o).take l)++[.int (0+(m:Int))])) dj
     have u6:(upd H5 r (.lst (ay (((Ma.aI b a pl pl).drop o).take l)++[.int (0+(m:Int))]))) r=_:=d_
     have Iv:ag H4 (upd H5 r (.lst (ay (((Ma.aI b a pl pl).drop o).take l)++[.int (0+(m:Int))]))):=Af.trans s6
     refine⟨rs++[r],by rw[a0p];rfl,by simp[ff],λx hx=>?_,s4.trans Iv,λt' x h=>?_⟩
     ·rcases a0s.mp hx with hx | hx
      ·exact aZ x hx
      ·have:x=r:=by simpa using hx
       rw[this]
       exact Ne.symm (l_ (s5 _ _ p3) dj)
     ·by_cases Ty:t'<rs.length
      ·rw[a0i Ty] at h
       exact RD.keep Iv t' x h
      ·have e1:t'=m:=by
        have:=(ZX.mp h).1
        simp at this
        lia
       subst e1
       rw[a0q (by lia),ff,a1D] at h
       have e2:r=x:=by simpa using h
       subst e2
       have Tz:t'<b:=by lia
       refine⟨?_,?_⟩
       ·rw[u6,Iu,Mg.zV b _ t' (pl-o) Tz]
        simp[ay]
       ·rw[a1q]
        have h1:a % b ^ (pl-o)<b ^ (pl-o):=a2j _ (a1u b0)
        have h2:(a % b ^ (pl-o)+1)*b<=b ^ (pl-o)*b:=a0o b h1
        rw[a0K] at h2
        lia
    ·rintro ys H4 ⟨rs,rfl,ff,aZ,s4,RD⟩ D hD
     have s5:=s4.trans (b_ (o:=.lst (rs.map V.ref)) hD)
     obtain⟨c1,c2,c3,c4⟩:=Iq D rs _ s5 d_ (Ne.symm (l_ (s4 _ _ p3) hD)) (by rw[j3,ff];lia) aZ (by rw[j1,j2];exact RD.keep (b_ hD))
     refine⟨p,_,_,rfl,rfl,s5 _ _ p3,cq (by rw[ZW];lia),?_⟩
     refine⟨_,rfl,_,rfl,_,_,rfl,rfl,bs++[D],some (.int (l:Int)),some (.ref q),?_,c1,c2,c3,c4⟩
     rw[es];push_cast;rfl
  ·rintro σ H2 ⟨bs,v5,v6,rfl,s2,cO,bM,B2⟩
   refine⟨_,rfl,k p bs H2 hp s2 cO (by rw[bM];simp[ay]) B2⟩
end
end Hv
namespace Mu
open Me Mg
abbrev eO:=Nat×Nat×Nat
abbrev oZ(b S:Nat)(x:eO):Nat:=x.1*b ^ (S-x.2.1)
abbrev sN(b S:Nat)(x:eO):Nat:=x.2.2*b ^ (S-x.2.1-1)
def iB(b S:Nat)(L:List eO)(g:Nat->Int):Int:=(L.map λx=>ns (λi=>g (oZ b S x+i)) (sN b S x)).sum
structure rm(b S:Nat)(x:eO):Prop where
 pl:x.2.1<S
 e1:1<=x.2.2
 eb:x.2.2<=b
 ha:x.1<b ^ x.2.1
def upTo(b S n:Nat):Nat->List eO
 | 0=>[]
 | i+1=>upTo b S n i++if 0<n / b ^ (S-1-i) % b then [(n / b ^ (S-i),i,n / b ^ (S-1-i) % b)] else []
theorem Iw{b S n:Nat}(hb:0<b)(hn:n<b ^ S):∀i,i<=S->∀x∈upTo b S n i,rm b S x
 | 0,_,x,hx=>by simp[upTo] at hx
 | i+1,hi,x,hx=>by
  rw[upTo] at hx
  rcases a0s.mp hx with hx | hx
  ·exact Iw hb hn i (by lia) x hx
  ·split at hx
   ·rename_i h
    have e:x=(n / b ^ (S-i),i,n / b ^ (S-1-i) % b):=by simpa using hx
    subst e
    refine⟨by simp only;lia,h,a1O (a2j _ hb),?_⟩
    show n / b ^ (S-i)<b ^ i
    rw[Nat.div_lt_iff_lt_mul (a1u hb),<-a0Q]
    have:i+(S-i)=S:=by lia
    rw[this]
    exact hn
   ·simp at hx
theorem Ag(b S n:Nat):∀i,(upTo b S n i).length<=i
 | 0=>by simp[upTo]
 | i+1=>by
  rw[upTo,a0j]
  have:=Ag b S n i
  split <;> simp <;> lia
theorem TB(b S:Nat)(L M:List eO)(g:Nat->Int):iB b S (L++M) g=iB b S L g+iB b S M g:=by simp[iB]
theorem Ix{b S n:Nat}(hb:0<b)(hn:n<b ^ S)(g:Nat->Int):∀i,i<=S->iB b S (upTo b S n i) g=ns g (n / b ^ (S-i)*b ^ (S-i))
 | 0,_=>by
  rw[a1s,a1Q hn,a1J]
  rfl
 | i+1,hi=>by
  rw[upTo,TB,Ix hb hn g i (by lia)]
  have e1:S-(i+1)=S-1-i:=by lia
  have e2:S-i=S-1-i+1:=by lia
  rw[e1]
  generalize hk:S-1-i=k at *
  have e3:n / b ^ k*b ^ k=n / b ^ (k+1)*b ^ (k+1)+n / b ^ k % b*b ^ k:=by
   have h1:=a1W (n / b ^ k) b
   rw[a0U,<-a1q] at h1
   have h2:n / b ^ (k+1)*b ^ (k+1)=b*(n / b ^ (k+1))*b ^ k:=by
    rw[a2n (m:=b) (n:=k)]
    rw[a0H b (n / _),a0Y]
   rw[h2,<-a0K,h1]
  rw[e2,e3,rf]
  congr 1
  split
  ·rename_i h
   have e4:S-i-1=k:=by lia
   simp only[iB,oZ,sN,a0f,a2d,a0r,List.sum_nil,e2,Int.add_zero]
   have e5:k+1-1=k:=by lia
   rw[e5]
  ·rename_i h
   have e6:n / b ^ k % b=0:=by lia
   rw[e6,a1J]
   rfl
theorem TD{b S n:Nat}(hb:0<b)(hn:n<b ^ S)(g:Nat->Int):iB b S (upTo b S n S) g=ns g n:=by
 rw[Ix hb hn g S (Z0 _),a1D,a1I,a2H,Nat.mul_one]
theorem TF{b S:Nat}(hS:0<S)(g:Nat->Int):iB b S [(0,0,b)] g=ns g (b ^ S):=by
 have e:b*b ^ (S-1)=b ^ S:=by
  rw[<-a2n]
  congr 1
  lia
 simp only[iB,oZ,sN,a0f,a2d,a0r,List.sum_nil,a1s,a1J,a2w,Int.add_zero,e]
theorem TJ{b n S i:Nat}(hb:0<b)(hn:n<b ^ S)(hi:i<=S):(Ma.aI b n S S).take i=Ma.aI b (n / b ^ (S-i)) i i:=by
 have:=Ac (b:=b) (a:=n) (pl:=S) (o:=0) (l:=i) (by lia)
 rw[a2A,a1s] at this
 rw[this,Nat.mod_eq_of_lt]
 rw[Nat.div_lt_iff_lt_mul (a1u hb),<-a0Q]
 have:i+(S-i)=S:=by lia
 rw[this]
 exact hn
end Mu
namespace Hv
open PySem L2
def mV(H:Hp)(b:Nat)(t:Addr)(x:Mu.eO):Prop:=∃h,H t=some (.tup [.ref h,.int (x.2.2:Int)])/\H h=some (.lst (ay (Ma.aI b x.1 x.2.1 x.2.1)))
theorem mV.keep{H H':Hp}{b:Nat}{t:Addr}{x:Mu.eO}(h:mV H b t x)(s:ag H H'):mV H' b t x:=let ⟨a,h1,h2⟩:=h;⟨a,s _ _ h1,s _ _ h2⟩
def Ah:Sp:=λvs H Q _=>∃f a c b ps ws,∃n:Nat,vs=[.ref f,.int n]/\aS H f a c b ps ws/\n<=b ^ ps.sum/\
 ∀(p:Addr) (ts:List Addr) (L:List Mu.eO) (H':Hp),H p=none->ag H H'->H' p=some (.lst (ts.map V.ref))->Paired (mV H' b) ts L->L.length<=24->(∀x∈L,Mu.rm b ps.sum x)->(∀g,Mu.iB b ps.sum L g=Mg.ns g n)->Q (.ref p) H'
section
variable{P:Program}{w:World}{K:PySem.W.Frag}{mg:Str->Option Value}{base:Heap}
theorem Iy:aQ ["frame","n","figures"] ["frame","n"] (g_ tX):=⟨rfl,rfl,rfl,by decide +kernel,rfl,by decide +kernel,by decide +kernel⟩
theorem TK{f:Addr}{fd:FuncData}(F:aG K "stretches_below" "stretches_below" tX f fd)(T:Txt mg)(D6:ak P w K mg base 6 "how_many" ["frame"] qA)(D8:ak P w K mg base 8 "figures_of" ["frame","n"] yj):ax P w K mg base aK 9 f fd ["frame","n"] Ah:=by
 refine F.ok Iy (λvs H Q E h=>?_) (λae A outer s H vs Q E hr h=>?_)
 ·obtain⟨g,a,c,b,ps,ws,n,rfl,_⟩:=h;rfl
 ·obtain⟨g,a,c,b,ps,ws,n,rfl,G,hn,k⟩:=h
  have nd:=Iy.nd
  have ok:=G.ok
  have qI:=ok.sum
  have b2:=ok.b2
  have b0:0<b:=by lia
  refine⟨_,c_ (Z_ (v_ iS (pv 1) (o_ D6 hr.mo (by rfl) (a_ (pv 0) e_)) (bO _)) (h_ (n_ (A_ (a_ (dJ (a_ (A_ e_) (a_ (bX (pv 0) f_) e_))) e_)))) w_)
   (c_ (k_ (i:=2) nd rfl (Or.inr rfl) (o_ D8 hr (by rfl) (a_ (pv 0) (a_ (pv 1) e_))))
   (h_ (n_ (iW (g_ tX) ["frame","n","figures"] ["figures"] [2] rfl (M_ (by rfl) T.range (a_ (dC T.len (by rfl) (pv 2)) e_)) (λcl C s H fp=>xV (v_ sH (Fz K rfl (pv 1) (pv 0)) f_ (bO _)))
    (λcl C s H fp=>dJ (a_ (kj (FB K rfl) (pv 1) nZ (gQ (pv 0))) (a_ (Fz K rfl (pv 1) (pv 0)) e_))) (by decide +kernel))))),?_⟩
  refine⟨_,rfl,_,rfl,g,a,c,b,ps,ws,rfl,G,λH1 s1=>⟨rfl,_,rfl,?_⟩⟩
  have G1:=G.keep s1
  by_cases he:n=b ^ ps.sum
  ·rw[decide_eq_true (by rw[he])]
   refine cf ⟨sz (by decide),λp1 kO=>?_⟩
   have t1:=b_ (o:=.lst []) kO
   have G2:=G1.keep t1
   have u1:(upd H1 p1 (.lst [])) p1=_:=d_
   generalize upd H1 p1 (.lst [])=H2 at t1 G2 u1⊢
   refine⟨_,rfl,_,_,_,_,rfl,rfl,bo.of G2.tp,rfl,sz (by simp),λp2 cO=>⟨sz (by simp),λp3 je=>?_⟩⟩
   have t2:=b_ (o:=.tup [.ref p1,.int (b:Int)]) cO
   have t3:=b_ (o:=.lst [.ref p2]) je
   refine k p3 [p2] [(0,0,b)] _ (s1.free (t1.free (t2.free je))) (((s1.trans t1).trans t2).trans t3) d_ (.cons ⟨p1,t3 _ _ d_,t3 _ _ (t2 _ _ u1)⟩ .nil) (by simp) (λx hx=>?_) (λg=>?_)
   ·have:x=(0,0,b):=by simpa using hx
    subst this
    exact⟨by simp only;lia,by simp only;lia,Z0 _,by simp⟩
   ·rw[he]
    exact Mu.TF (by lia) g
  ·have aT:n<b ^ ps.sum:=by lia
   rw[decide_eq_false (by intro z;cases z;exact he rfl)]
   refine aX ⟨_,rfl,_,rfl,g,a,c,b,ps,ws,n,rfl,G1,aT,λr H2 jh s2 h2=>?_⟩
   have el:(ay (Ma.aI b n ps.sum ps.sum)).length=ps.sum:=by rw[ay,ZW,Ma.W_]
   refine⟨_,rfl,r,_,rfl,.inl (af.of h2),_,rfl,by lia,by lia,qo (lo:=0) (n:=(((ay (Ma.aI b n ps.sum ps.sum)).length:Nat):Int).toNat) (λi ys H3=>∃ts:List Addr,ys=ts.map V.ref/\ag H2 H3/\Paired (mV H3 b) ts (Mu.upTo b ps.sum n i)) ⟨[],rfl,ag.refl _,.nil⟩ ?_ ?_⟩
   ·rintro i ys H3 hi ⟨ts,rfl,s3,PR⟩
    have dr:i<ps.sum:=by lia
    have tl:ts.length<=i:=by rw[Paired.length PR];exact Mu.Ag b ps.sum n i
    have ez:(0:Int)+(i:Int)=(i:Int):=a1t _
    have ea:dQ (ay (Ma.aI b n ps.sum ps.sum)) (0+(i:Int))=some (.int ((n / b ^ (ps.sum-1-i) % b:Nat):Int)):=by
     rw[ez]
     exact km (by rw[ay,Z2,Mu.Ab dr];rfl)
    refine⟨cq (by rw[ZW];lia),_,rfl,_,rfl,eY (s3 _ _ h2) ea ⟨_,_,rfl,rfl,_,rfl,?_⟩⟩
    by_cases hd:0<n / b ^ (ps.sum-1-i) % b
    ·rw[decide_eq_true (by lia)]
     refine cf ⟨_,rfl,_,rfl,_,rfl,r,_,rfl,af.of (s3 _ _ h2),λq hq=>?_⟩
     have eg:cU (ay (Ma.aI b n ps.sum ps.sum)) none (some (0+(i:Int)))=ay (Ma.aI b (n / b ^ (ps.sum-i)) i i):=by
      rw[ez,uO,<-Mu.TJ b0 aT (by lia)]
      simp[ay,a1U]
     rw[eg]
     have t4:=b_ (o:=.lst (ay (Ma.aI b (n / b ^ (ps.sum-i)) i i))) hq
     have u4:(upd H3 q (.lst (ay (Ma.aI b (n / b ^ (ps.sum-i)) i i)))) q=_:=d_
     generalize upd H3 q (.lst (ay (Ma.aI b (n / b ^ (ps.sum-i)) i i)))=H4 at t4 u4⊢
     refine⟨_,rfl,_,rfl,eY (t4 _ _ (s3 _ _ h2)) ea ⟨sz (by simp),λt ht=>?_⟩⟩
     have t5:=b_ (o:=.tup [.ref q,.int ((n / b ^ (ps.sum-1-i) % b:Nat):Int)]) ht
     refine⟨ts++[t],by rw[a0p];rfl,s3.trans (t4.trans t5),?_⟩
     rw[Mu.upTo,if_pos hd]
     exact Paired.snoc (L2.Paired.iM PR λ_ _ h=>mV.keep h (t4.trans t5)) ⟨q,d_,t5 _ _ u4⟩
    ·rw[decide_eq_false (by lia)]
     refine aX ⟨ts,rfl,s3,?_⟩
     rw[Mu.upTo,if_neg hd,a0F]
     exact PR
   ·rintro ys H3 ⟨ts,rfl,s3,PR⟩ D hD
    have en:(((ay (Ma.aI b n ps.sum ps.sum)).length:Nat):Int).toNat=ps.sum:=by lia
    rw[en] at PR
    exact k D ts _ _ (s1.free (s2.free (s3.free hD))) ((s1.trans s2).trans (s3.trans (b_ hD))) d_ (L2.Paired.iM PR λ_ _ h=>mV.keep h (b_ hD)) (Z9 (Mu.Ag _ _ _ _) (by lia)) (Mu.Iw b0 aT _ (Z0 _)) (Mu.TD b0 aT)
end
end Hv
namespace Mu
open Me Mg
def lo(b a pl o:Nat):Nat:=if o<=pl then a / b ^ (pl-o) else a*b ^ (o-pl)
def cn(b pl e o:Nat):Nat:=if o<=pl then 1 else e*b ^ (o-pl-1)
def jR(b a pl o l:Nat):Nat:=pq b a pl o l*b ^ (l-pj pl o l)
def jS(b pl e o l:Nat):Nat:=pn pl e o l*b ^ (l-pj pl o l)
theorem TL{b a pl e o l:Nat}(hb:0<b)(he:e<=b) :
  lo b a pl (o+l)=lo b a pl o*b ^ l+jR b a pl o l/\cn b pl e (o+l)=cn b pl e o*jS b pl e o l/\(cn b pl e o=1\/(jR b a pl o l=0/\jS b pl e o l=b ^ l))/\jR b a pl o l+jS b pl e o l<=b ^ l:=by
 unfold lo cn jR jS pj pq pn
 by_cases hA:o+l<=pl
 ·have h1:o<=pl:=by lia
  simp only[if_pos hA,if_pos h1,a1D,a1I,Nat.mul_one]
  have e1:pl-(o+l)=pl-o-l:=by lia
  have e2:a / b ^ (pl-o)=a / b ^ (pl-o-l) / b ^ l:=by
   rw[a0U,<-a0Q]
   congr 2
   lia
  have h2:a / b ^ (pl-o-l) % b ^ l<b ^ l:=a2j _ (a1u hb)
  refine⟨?_,trivial,.inl trivial,h2⟩
  rw[e1,e2,a0H]
  exact(a1W _ _).symm
 ·by_cases hC:o<=pl
  ·simp only[if_neg hA,if_pos hC]
   obtain⟨m,hm⟩:∃m,m=pl-o:=⟨_,rfl⟩
   obtain⟨r,hr⟩:∃r,r=l-m-1:=⟨_,rfl⟩
   have e1:l-(pl-o+1)=r:=by lia
   have e2:o+l-pl=r+1:=by lia
   have e3:l=m+1+r:=by lia
   rw[e1,e2,<-hm]
   have pc:b ^ l=b ^ m*b*b ^ r:=by rw[e3,a0Q,a1q]
   have h2:a % b ^ m<b ^ m:=a2j _ (a1u hb)
   have h3:a % b ^ m*b+e<=b ^ m*b:=by
    have:(a % b ^ m+1)*b<=b ^ m*b:=a0o b h2
    rw[a0K] at this
    lia
   refine⟨?_,?_,.inl trivial,?_⟩
   ·have h4:=a1W a (b ^ m)
    have h5:a*b ^ (r+1)=(b ^ m*(a / b ^ m)+a % b ^ m)*b ^ (r+1):=by rw[h4]
    rw[h5,pc,a0K,a2n]
    congr 1
    ·rw[a0H (b ^ m),a0Y,a0Y]
    ·rw[a0Y]
   ·have e4:r+1-1=r:=by lia
    rw[e4,a2a]
   ·rw[<-a0K,pc]
    exact a0o _ h3
  ·have h1:¬ o+l<=pl:=hA
   simp only[if_neg hA,if_neg hC,a1J,a1s,a2a,a1r,a2w,Z0,and_true,or_true]
   have e1:o+l-pl=(o-pl)+l:=by lia
   have e2:o+l-pl-1=(o-pl-1)+l:=by lia
   rw[e2,e1,a0Q,a0Q]
   exact⟨(a0Y _ _ _).symm,(a0Y _ _ _).symm⟩
theorem TM{b a pl:Nat}(ha:a<b ^ pl):lo b a pl 0=0:=by
 unfold lo
 rw[if_pos (a0w _),a1s]
 exact a1Q ha
theorem TN(b pl e:Nat):cn b pl e 0=1:=by unfold cn;rw[if_pos (a0w _)]
theorem TQ{b S:Nat}{x:eO}(h:x.2.1<S):lo b x.1 x.2.1 S=oZ b S x/\cn b x.2.1 x.2.2 S=sN b S x:=by
 unfold lo cn
 rw[if_neg (by lia),if_neg (by lia)]
 exact⟨rfl,rfl⟩
end Mu
namespace Hv
open PySem L2
theorem vw{α β:Type}{R:α->β->Prop}:∀ {as:List α} {bs:List β},Paired R as bs->∀ {i:Nat} {a:α},as[i]?=some a->∃b,bs[i]?=some b/\R a b
 | _,_,.cons h t,0,a,e=>by cases e;exact⟨_,rfl,h⟩
 | _,_,.cons h t,i+1,a,e=>by
  rw[a1m] at e
  obtain⟨b,h1,h2⟩:=vw t e
  exact⟨b,by rw[a1m];exact h1,h2⟩
theorem pd{qs:List Addr}{i:Nat}{x:V}(h:(qs.map V.ref)[i]?=some x):∃q,qs[i]?=some q/\x=.ref q:=by
 rw[Z2] at h
 cases e:qs[i]? with
 | none=>rw[e] at h;cases h
 | some d=>rw[e] at h;exact⟨d,rfl,(Z6 h).symm⟩
end Hv
namespace Mu
open Me Mg
def wg(b:Nat)(row:List Int)(one:Int):Int×Int:=(ns (λv=>if cG b v row=one then 1 else 0) (b ^ row.length),ns (λv=>if cG b v row=one then (v:Int) else 0) (b ^ row.length))
def lst(b:Nat)(rows:List (List Int))(one:Int):List ((Int×Int)×Int):=rows.map λrow=>(wg b row one,((b ^ row.length:Nat):Int))
theorem Iz{b:Nat}(hb:0<b):∀(bN fR:List Nat) (ws:List Int) (u z:Nat),u<b ^ bN.sum->z<b ^ fR.sum->ws.length=bN.sum+fR.sum->fj b (u*b ^ fR.sum+z) (bN++fR) ws=fj b u bN (ws.take bN.sum)++fj b z fR (ws.drop bN.sum)
 | [],fR,ws,u,z,hu,hz,hw=>by
  have h0:u=0:=by simpa using hu
  subst h0
  have e:fj b 0 [] (ws.take ([]:List Nat).sum)=[]:=rfl
  rw[e]
  simp
 | p::bN,fR,ws,u,z,hu,hz,hw=>by
  rw[a0r] at hu hw
  have TR:0<b ^ bN.sum:=a1u hb
  have em:u=u / b ^ bN.sum*b ^ bN.sum+u % b ^ bN.sum:=by rw[a0H];exact(a1W u _).symm
  have dB:u % b ^ bN.sum<b ^ bN.sum:=a2j _ TR
  have hd:u / b ^ bN.sum<b ^ p:=Nat.div_lt_of_lt_mul (by rw[<-a0Q,Nat.add_comm];exact hu)
  rw[em]
  generalize u / b ^ bN.sum=d at *
  generalize u % b ^ bN.sum=m at *
  have e1:(d*b ^ bN.sum+m)*b ^ fR.sum+z=d*b ^ (bN++fR).sum+(m*b ^ fR.sum+z):=by
   rw[a0T,a0Q,a0K,a0Y]
   lia
  have aT:m*b ^ fR.sum+z<b ^ (bN++fR).sum:=by
   rw[a0T,a0Q]
   have:(m+1)*b ^ fR.sum<=b ^ bN.sum*b ^ fR.sum:=a0o _ dB
   rw[a0K] at this
   lia
  rw[e1,a2L,vp hb aT (by rw[a0T];lia),Iz hb bN fR (ws.drop p) m z dB hz (by rw[a0B];lia),a0r]
  rw[vp hb dB (by rw[a0g];lia),a2V,List.drop_take,a2e,a2L]
  have e2:min p (p+bN.sum)=p:=by lia
  have e3:p+bN.sum-p=bN.sum:=by lia
  rw[e2,e3]
theorem TU{b:Nat}(hb:0<b){bN:List Nat}{p u v:Nat}{ws:List Int}(hu:u<b ^ bN.sum)(hv:v<b ^ p)(hw:bN.sum+p<=ws.length):fj b (u*b ^ p+v) (bN++[p]) (ws.take (bN.sum+p))=fj b u bN (ws.take bN.sum)++[cG b v ((ws.drop bN.sum).take p)]:=by
 have hs:[p].sum=p:=by simp
 have:=Iz hb bN [p] (ws.take (bN.sum+p)) u v hu (by rw[hs];exact hv) (by rw[a0g,hs];lia)
 rw[hs] at this
 rw[this,a2V,a1n (by lia),List.drop_take]
 congr 1
 have e0:bN.sum+p-bN.sum=p:=by lia
 rw[e0]
 have hz:(0:Nat)<b ^ ([]:List Nat).sum:=by simp
 have e1:=vp (b:=b) (d:=v) (m:=0) (p:=p) (ps:=[]) (ws:=(ws.drop bN.sum).take p) hb hz (by rw[a0g,a0B];simp;lia)
 have e2:v*b ^ ([]:List Nat).sum+0=v:=by simp
 rw[e2] at e1
 rw[e1,a2V,Nat.min_self]
 rfl
end Mu
namespace Mx
open Me Mg Mu
def cw:List (List (Int×Int))->(List Int->Int)->Int
 | [],F=>F []
 | g::gs,F=>tg g λx=>cw gs λv=>F (x::v)
theorem IA{lo hi:Int}:∀ {gs:List (List (Int×Int))} {F G:List Int->Int},(∀g∈gs,∀k∈keys g,lo<=k/\k<=hi)->(∀v,v.length=gs.length->(∀x∈v,lo<=x/\x<=hi)->F v=G v)->cw gs F=cw gs G
 | [],_,_,_,h=>h [] rfl λ_ z=>by simp at z
 | g :: gs, _, _, hk, h => Ig λx hx => IA (λr hr => hk r (by simp[hr])) λv hv hb => h (x :: v) (by simp[hv]) λy hy => by
   rcases ZZ.mp hy with rfl | hy
   ·exact hk g (by simp) _ hx
   ·exact hb y hy
theorem IB:∀ {gs:List (List (Int×Int))} {F G:List Int->Int},(∀v,v.length=gs.length->F v=G v)->cw gs F=cw gs G
 | [],_,_,h=>h [] rfl
 | _::gs,_,_,h=>T_ λx=>IB λv hv=>h (x::v) (by simp[hv])
theorem Ai(c:Int):∀(gs:List (List (Int×Int))) (F:List Int->Int),cw gs (λv=>c*F v)=c*cw gs F
 | [],_=>rfl
 | g::gs,F=>by
  show tg _ _=c*tg _ _
  rw[<-rh]
  exact T_ λx=>Ai c gs _
theorem IC:∀(gs:List (List (Int×Int))) (F G:List Int->Int),cw gs (λv=>F v-G v)=cw gs F-cw gs G
 | [],_,_=>rfl
 | g::gs,F,G=>by
  show tg _ _=tg _ _-tg _ _
  rw[<-HY]
  exact T_ λx=>IC gs _ _
theorem ID:∀(gs:List (List (Int×Int))) (F G:List Int->Int),cw gs (λv=>F v+G v)=cw gs F+cw gs G
 | [],_,_=>rfl
 | g::gs,F,G=>by
  show tg _ _=tg _ _+tg _ _
  rw[<-zX]
  exact T_ λx=>ID gs _ _
theorem TV(gs:List (List (Int×Int))):cw gs (λ_=>0)=0:=by
 have:=Ai 0 gs λ_=>0
 simp only[a2x] at this
 exact this
theorem IE(gs:List (List (Int×Int)))(F:Int->List Int->Int)(a:Int):∀n:Nat,cw gs (λv=>Mq.sm (λt=>F t v) a n)=Mq.sm (λt=>cw gs (F t)) a n
 | 0=>TV gs
 | n+1=>by
  simp only[Mq.sm]
  rw[ID,IE gs F a n]
theorem IF(h:Int->Int):∀gs:List (List (Int×Int)),cw gs (fp h)=gs.foldl (λm g=>m*tg g h) 1
 | []=>rfl
 | g::gs=>by
  have e:∀(rs:List (List (Int×Int))) (c:Int),rs.foldl (λm g=>m*tg g h) c=c*rs.foldl (λm g=>m*tg g h) 1:=λrs=>by
   induction rs with
   | nil=>intro c;simp
   | cons r rs ih=>intro c;rw[a0d,a0d,ih (c*_),ih (1*_),a1G,a1V]
  rw[a0d,e gs,a1G,<-IF h gs]
  show tg g (λx=>cw gs λv=>fp h (x::v))=_
  have e2:∀x,cw gs (λv=>fp h (x::v))=cw gs (fp h)*h x:=λx=>by
   rw[a2y,<-Ai]
   exact IB λv _=>by
    unfold fp
    rw[a0d,rj,a1G]
  rw[T_ e2,rh,a2y]
theorem TW{g:List (Int×Int)}(nd:(keys g).Nodup)(a:Int)(n:Nat):tg g (iv a n)=Mq.sm (λt=>gv g t) a n:=by
 have e:∀x,iv a n x=Mq.sm (λt=>if x=t then 1 else 0) a n:=λx=>(vq x a n).symm
 rw[T_ e,zZ g (λt x=>if x=t then 1 else 0)]
 apply Mq.jP
 intro t _ _
 exact vt nd
theorem IG{gs:List (List (Int×Int))}(hg:∀g∈gs,fe g)(a:Int)(n:Nat):cw gs (fp (iv a n))=Mq.pr (fG gs) a n:=by
 rw[IF]
 unfold Mq.pr fG
 rw[List.foldl_map]
 have aP:∀(rs:List (List (Int×Int))) (c:Int),(∀g∈rs,fe g)->rs.foldl (λm g=>m*tg g (iv a n)) c=rs.foldl (λm g=>m*Mq.sm (λt=>gv g t) a n) c:=λrs=>by
  induction rs with
  | nil=>intro c _;rfl
  | cons r rs ih =>
   intro c h
   rw[a0d,a0d,TW (h r (by simp)).nd]
   exact ih _ λg hg=>h g (by simp[hg])
 exact aP gs 1 hg
theorem IH{gs:List (List (Int×Int))}(aZ:0<gs.length)(hg:∀g∈gs,fe g)(d:Nat):mL gs d=cw gs λv=>if kR v<=d then 1 else 0:=by
 have B:=zG aZ hg
 have nl:0<(bK gs).length:=by rw[bK,ZW];exact aZ
 have nh:0<(bZ gs).length:=by rw[bZ,ZW];exact aZ
 rw[IA (G:=λv=>Mq.sm (λa=>fp (iv a (d+1)) v-fp (iv (a+1) d) v) (Ma.aV (bK gs)) (Ma.bD (bZ gs)-Ma.aV (bK gs)+1).toNat) (lo:=Ma.aV (bK gs)) (hi:=Ma.bD (bZ gs))
  (λg mM k hk=>⟨?_,?_⟩) λv hv hx=>?_]
 ·rw[IE gs λa v=>fp (iv a (d+1)) v-fp (iv (a+1) d) v]
  unfold mL
  apply Mq.jP
  intro a _ _
  rw[IC,IG hg,IG hg]
  rfl
 ·have h1:=(Ma.E_ _ (hg g mM).ne).2 k hk
  have h2:=(Ma.E_ _ nl).2 _ (a0a.mpr ⟨g,mM,rfl⟩)
  lia
 ·have h1:=(Ma.L_ _ (hg g mM).ne).2 k hk
  have h2:=(Ma.L_ _ nh).2 _ (a0a.mpr ⟨g,mM,rfl⟩)
  lia
 ·have jQ:0<v.length:=by lia
  have m1:=hx _ (Ma.E_ v jQ).1
  exact Il jQ (by lia) (by lia)
theorem II(g:List (Int×Int)):∀(gs:List (List (Int×Int))) (F:List Int->Int),cw (gs++[g]) F=cw gs λv=>tg g λx=>F (v++[x])
 | [],F=>rfl
 | h::gs,F=>by
  show tg h (λx=>cw (gs++[g]) λv=>F (x::v))=tg h λx=>cw gs λv=>tg g λy=>F (x::v++[y])
  exact T_ λx=>II g gs _
structure kT(g:List (Int×Int))(lo n:Nat)(s:Nat->Int):Prop where
 ok:fe g
 eq:∀F:Int->Int,tg g F=ns (λi=>F (s (lo+i))) n
theorem IJ{b:Nat}(hb:0<b){x:eO}(he:x.2.2<=b)(h1:1<=x.2.2)(ha:x.1<b ^ x.2.1){ps:List Nat}{ws:List Int}(hw:ws.length=ps.sum){gs:List (List (Int×Int))}(hl:gs.length=ps.length)
  (hg:∀i l row g,ps[i]?=some l->(Ma.a9 ps ws)[i]?=some row->gs[i]?=some g->kT g (jR b x.1 x.2.1 (ps.take i).sum l) (jS b x.2.1 x.2.2 (ps.take i).sum l) (λn=>cG b n row)) :
  ∀j,j<=ps.length->lo b x.1 x.2.1 (ps.take j).sum+cn b x.2.1 x.2.2 (ps.take j).sum<=b ^ (ps.take j).sum/\∀F:List Int->Int,cw (gs.take j) F=ns (λk=>F (fj b (lo b x.1 x.2.1 (ps.take j).sum+k) (ps.take j) (ws.take (ps.take j).sum))) (cn b x.2.1 x.2.2 (ps.take j).sum)
 | 0,_=>by
  have e1:(ps.take 0).sum=0:=by simp
  rw[e1,TM ha,TN]
  refine⟨by simp,λF=>?_⟩
  show F []=_
  simp only[ns,a1t]
  rfl
 | j+1,hj=>by
  obtain⟨Aj,ih⟩:=IJ hb he h1 ha hw hl hg j (by lia)
  obtain⟨l,cT⟩:∃l,ps[j]?=some l:=⟨_,a0A (by lia)⟩
  obtain⟨g,om⟩:∃g,gs[j]?=some g:=⟨_,a0A (by lia)⟩
  have bU:=Ma.tL ps ws j l cT
  have R:=hg j l _ g cT bU om
  have st:=TL (b:=b) (a:=x.1) (pl:=x.2.1) (e:=x.2.2) (o:=(ps.take j).sum) (l:=l) hb he
  have et:ps.take (j+1)=ps.take j++[l]:=by rw[Z8,cT];rfl
  have es:(ps.take (j+1)).sum=(ps.take j).sum+l:=by rw[et,a0T];simp
  have jb:(ps.take j).sum+l<=ws.length:=by
   have h2:=congrArg List.sum (a0u (j+1) ps)
   rw[a0T] at h2
   lia
  obtain⟨A,hA⟩:∃A,A=(ps.take j).sum:=⟨_,rfl⟩
  have TY:gs.take (j+1)=gs.take j++[g]:=by rw[Z8,om];rfl
  rw[es,st.1,st.2.1]
  refine⟨?_,λF=>?_⟩
  ·rw[a0Q]
   have p1:=st.2.2.2
   rcases st.2.2.1 with q | ⟨q1,q2⟩
   ·rw[q] at Aj⊢
    have:(lo b x.1 x.2.1 (ps.take j).sum+1)*b ^ l<=b ^ (ps.take j).sum*b ^ l:=a0o _ Aj
    rw[a0K] at this
    lia
   ·rw[q1,q2,a1r,<-a0K]
    exact a0o _ Aj
  ·rw[TY,II,ih]
   have e2:∀k,k<cn b x.2.1 x.2.2 (ps.take j).sum->tg g (λy=>F (fj b (lo b x.1 x.2.1 (ps.take j).sum+k) (ps.take j) (ws.take (ps.take j).sum)++[y]))=ns (λi=>F (fj b ((lo b x.1 x.2.1 (ps.take j).sum+k)*b ^ l+(jR b x.1 x.2.1 (ps.take j).sum l+i)) (ps.take (j+1)) (ws.take ((ps.take j).sum+l)))) (jS b x.2.1 x.2.2 (ps.take j).sum l):=λk hk=>by
    rw[R.eq]
    refine iA λi hi=>?_
    have hp:=st.2.2.2
    rw[et,TU hb (by lia) (by lia) jb]
   rw[iA e2,To (λm=>F (fj b m (ps.take (j+1)) (ws.take ((ps.take j).sum+l)))) st.2.2.1]
theorem TZ{b:Nat}(hb:0<b){x:eO}{ps:List Nat}{ws:List Int}(SO:rm b ps.sum x)(hw:ws.length=ps.sum){gs:List (List (Int×Int))}(hl:gs.length=ps.length)
  (hg:∀i l row g,ps[i]?=some l->(Ma.a9 ps ws)[i]?=some row->gs[i]?=some g->kT g (jR b x.1 x.2.1 (ps.take i).sum l) (jS b x.2.1 x.2.2 (ps.take i).sum l) (λn=>cG b n row)) (F:List Int->Int) :
  cw gs F=ns (λk=>F (fj b (oZ b ps.sum x+k) ps ws)) (sN b ps.sum x):=by
 have h:=(IJ hb SO.eb SO.e1 SO.ha hw hl hg ps.length (Z0 _)).2 F
 have e1:gs.take ps.length=gs:=by rw[<-hl,a0e]
 have e2:ws.take ps.sum=ws:=by rw[<-hw,a0e]
 have oV:=TQ (b:=b) SO.pl
 rw[e1,a0e,e2,oV.1,oV.2] at h
 exact h
theorem IK{f g:List (Int×Int)}(h:f.Perm g)(F:Int->Int):tg f F=tg g F:=by
 unfold tg
 exact Me.Hs (h.map _)
theorem T4{f:List (Int×Int)}{i:Nat}{p:Int×Int}(h:f[i]?=some p)(F:Int->Int):tg (f.take (i+1)) F=tg (f.take i) F+p.2*F p.1:=by
 unfold tg
 rw[Z8,h,a0p,a0T]
 simp
theorem kT.of{g:List (Int×Int)}{lo n:Nat}{s:Nat->Int}(o:Ok g 810)(hn:0<n)(hm:n<=16777216)(eq:∀F:Int->Int,tg g F=ns (λi=>F (s (lo+i))) n):kT g lo n s:=by
 have aZ:0<(keys g).length:=by
  cases g with
  | nil =>
   have:=eq λ_=>1
   rw[z9] at this
   have e:tg [] (λ_=>(1:Int))=0:=rfl
   rw[e] at this
   lia
  | cons p r=>simp[keys]
 refine⟨⟨aZ,o.nd,o.bd,λt=>?_⟩,eq⟩
 rw[<-vt o.nd,eq]
 refine⟨Im λi _=>by split <;> decide,?_⟩
 have h1:=Io (g:=λi=>if s (lo+i)=t then (1:Int) else 0) (h:=λ_=>1) (n:=n) λi _=>by split <;> decide
 rw[z9,Int.mul_one] at h1
 lia
end Mx
namespace Hv
open PySem L2
def mW(H:Hp)(b:Nat)(ts:List Addr)(ws:List Int):Prop:=∀(k:Nat) (t:Addr),ts[k]?=some t->∃g,H t=some (.dK (aJ g))/\g.Perm (Me.aW b (ws.drop k))
theorem mW.keep{H H':Hp}{b:Nat}{ts:List Addr}{ws:List Int}(h:mW H b ts ws)(s:ag H H'):mW H' b ts ws:=λk t e=>let ⟨g,a1,a2⟩:=h k t e;⟨g,s _ _ a1,a2⟩
def Ak:Sp:=λvs H Q _=>∃(b:Nat) (c:Addr) (ws:List Int),vs=[.int b,.ref c]/\H c=some (.lst (ws.map V.int))/\b<=16/\(∀x∈ws,-9<=x/\x<=9)/\ws.length<=6/\
 ∀(p:Addr) (ts:List Addr) (H':Hp),H p=none->ag H H'->H' p=some (.lst (ts.map V.ref))->ts.length=ws.length+1->mW H' b ts ws->Q (.ref p) H'
def jT(H:Hp)(b:Nat)(ps:List Nat)(ws:List Int)(bu:List Addr):Prop:=∀(i:Nat) (row:List Int) (d:Addr),(Ma.a9 ps ws)[i]?=some row->bu[i]?=some d->∃ts:List Addr,H d=some (.lst (ts.map V.ref))/\ts.length=row.length+1/\mW H b ts row
theorem jT.keep{H H':Hp}{b:Nat}{ps:List Nat}{ws:List Int}{bu:List Addr}(h:jT H b ps ws bu)(s:ag H H'):jT H' b ps ws bu:=λi row d a1 a2=>let ⟨ts,b1,b2,b3⟩:=h i row d a1 a2;⟨ts,s _ _ b1,b2,b3.keep s⟩
def Al:Sp:=λvs H Q _=>∃f a c b ps ws,vs=[.ref f]/\aS H f a c b ps ws/\∀(p:Addr) (bu:List Addr) (H':Hp),H p=none->ag H H'->H' p=some (.lst (bu.map V.ref))->bu.length=ps.length->jT H' b ps ws bu->Q (.ref p) H'
def Am:Sp:=λvs H Q _=>∃(b:Nat) (rl c tl:Addr) (rs ts:List Addr) (ws:List Int) (q j:Nat),vs=[.ref rl,.ref c,.ref tl]/\H rl=some (.lst (rs.map V.ref))/\H c=some (.lst (ws.map V.int))/\H tl=some (.lst (ts.map V.ref))/\ts.length=ws.length+1/\mW H b ts ws/\
 2<=b/\b<=16/\(∀x∈ws,-9<=x/\x<=9)/\ws.length<=6/\j<=ws.length/\kS H b j q rs/\0<rs.length/\
 ∀(p:Addr) (g:List (Int×Int)) (H':Hp),H p=none->ag H H'->H' p=some (.dK (aJ g))->Mx.kT g (q*b ^ (ws.length-j)) (rs.length*b ^ (ws.length-j)) (λn=>Mg.cG b n ws)->Q (.ref p) H'
section
variable{P:Program}{w:World}{K:PySem.W.Frag}{mg:Str->Option Value}{base:Heap}
theorem T5:aQ ["base","weights"] ["base","weights"] (g_ t8):=⟨rfl,rfl,rfl,by decide +kernel,rfl,by decide +kernel,by decide +kernel⟩
theorem T6{f:Addr}{fd:FuncData}(F:aG K "tails_of_part" "tails_of_part" t8 f fd)(T:Txt mg)(DV:ak P w K mg base 2 "ways_of_weights" ["base","weights"] uV):ax P w K mg base aK 3 f fd ["base","weights"] Ak:=by
 refine F.ok T5 (λvs H Q E h=>?_) (λae A outer s H vs Q E hr h=>?_)
 ·obtain⟨b,c,ws,rfl,_⟩:=h;rfl
 ·obtain⟨b,c,ws,rfl,hc,hb,hw,jd,k⟩:=h
  refine⟨_,h_ (n_ (iW (g_ t8) ["base","weights"] ["base","weights"] [0,1] rfl (M_ (by rfl) T.range (a_ (p_ K_ (dC T.len (by rfl) (pv 1)) f_) e_)) (λcl C s H fp=>fZ)
   (λcl C s H fp=>o_ DV hr (by rfl) (a_ (pv 1) (a_ (kj (FB K rfl) (pv 2) (gQ (pv 0)) nZ) e_))) (by decide +kernel))),?_⟩
  have el:(((ws.map V.int).length:Nat):Int)=(ws.length:Int):=by rw[ZW]
  refine⟨_,rfl,c,_,rfl,.inl (af.of hc),_,_,rfl,rfl,_,rfl,by rw[el];lia,by rw[el];lia,qo (lo:=0) (n:=((((ws.map V.int).length:Nat):Int)+1).toNat) (λi ys H'=>∃ts:List Addr,ys=ts.map V.ref/\ts.length=i/\ag H H'/\mW H' b ts ws) ⟨[],rfl,rfl,ag.refl _,λk t e=>by simp at e⟩ ?_ ?_⟩
  ·rintro i ys H1 hi ⟨ts,rfl,ci,s1,TC⟩
   have dr:i<=ws.length:=by rw[el] at hi;lia
   have ei:(0:Int)+(i:Int)=(i:Int):=a1t _
   rw[ei]
   refine⟨cq (by rw[ZW];lia),_,rfl,_,rfl,_,rfl,_,rfl,c,_,rfl,af.of (s1 _ _ hc),λsl dG=>?_⟩
   have ec:cU (ws.map V.int) (some (i:Int)) none=(ws.drop i).map V.int:=by
    unfold cU
    rw[HT.qe,HT.sO,ZW,a1n dr,a2J,a0v (by rw[a0B,ZW];lia)]
   rw[ec]
   have s2:=b_ (o:=.lst ((ws.drop i).map V.int)) dG
   have u2:(upd H1 sl (.lst ((ws.drop i).map V.int))) sl=_:=d_
   generalize upd H1 sl (.lst ((ws.drop i).map V.int))=H2 at s2 u2⊢
   refine⟨b,sl,ws.drop i,rfl,u2,hb,λx hx=>hw x (a1A hx),by rw[a0B];lia,λp H3 g hp s3 je perm=>?_⟩
   have S3:=s1.trans (s2.trans s3)
   refine⟨ts++[p],by simp,by simp[ci],S3,λk t e=>?_⟩
   by_cases hm:k<ts.length
   ·rw[a0i hm] at e
    exact TC.keep (s2.trans s3) k t e
   ·have hk:k=i:=by
     have:=(ZX.mp e).1
     simp at this
     lia
    subst hk
    rw[a0q (by lia),ci,a1D] at e
    have e1:p=t:=by simpa using e
    subst e1
    exact⟨g,je,perm⟩
  ·rintro ys H1 ⟨ts,rfl,ci,s1,TC⟩ l hl
   have T7:ts.length=ws.length+1:=by rw[ci,el];lia
   exact k l ts _ (s1.free hl) (s1.trans (b_ hl)) d_ T7 (TC.keep (b_ hl))
theorem T8:aQ ["frame"] ["frame"] (g_ ua):=⟨rfl,rfl,rfl,by decide +kernel,rfl,by decide +kernel,by decide +kernel⟩
theorem T9{f:Addr}{fd:FuncData}(F:aG K "tails_of_parts" "tails_of_parts" ua f fd)(DC:ak P w K mg base 1 "cut_by_parts" ["frame","row"] qK)(DT:ak P w K mg base 3 "tails_of_part" ["base","weights"] Ak):ax P w K mg base aK 4 f fd ["frame"] Al:=by
 refine F.ok T8 (λvs H Q E h=>?_) (λae A outer s H vs Q E hr h=>?_)
 ·obtain⟨g,a,c,b,ps,ws,rfl,_⟩:=h;rfl
 ·obtain⟨g,a,c,b,ps,ws,rfl,G,k⟩:=h
  have ok:=G.ok
  have l4:=ok.l4
  refine⟨_,h_ (n_ (iW (g_ ua) ["frame"] ["frame"] [0] rfl (S_ (o_ DC hr.mo (by rfl) (a_ (pv 0) (a_ (bX (pv 0) f_) e_)))) (λcl C s H fp=>fZ)
   (λcl C s H fp=>o_ DT hr (by rfl) (a_ (FA K rfl (pv 1) f_) (a_ (pv 0) e_))) (by decide +kernel))),?_⟩
  refine⟨_,rfl,_,rfl,_,_,_,_,rfl,rfl,bo.of G.tp,rfl,g,a,c,b,ps,ws,c,ws,rfl,G,G.hw,λwp qs H3 s3 IL rows=>⟨wp,rfl,⟨_,af.of IL⟩,iX (K:=K) (a:=wp) (xs:=qs.map V.ref) (λi ys H4=>∃bu:List Addr,ys=bu.map V.ref/\bu.length=i/\ag H3 H4/\jT H4 b ps ws bu)
   ⟨[],rfl,rfl,ag.refl _,λi row d _ h=>by simp at h⟩ (λi ys H4 _ p=>by obtain⟨_,_,_,z,_⟩:=p;exact af.of (z _ _ IL)) ?_ ?_⟩⟩
  ·rintro i x ys H4 hx ⟨bu,rfl,ci,s4,TA⟩
   obtain⟨wq,An,rfl⟩:=pd hx
   obtain⟨row,bU,Ua⟩:=vw rows An
   have rn:row∈Ma.a9 ps ws:=Z1 bU
   have G4:=(G.keep s3).keep s4
   have hi:i<4:=by
    have h1:=(ZX.mp bU).1
    rw[Ma.iu] at h1
    lia
   refine⟨cq (by rw[ZW];lia),_,rfl,_,_,_,_,rfl,rfl,bo.of G4.tp,rfl,_,rfl,b,wq,row,rfl,s4 _ _ Ua,ok.dS,λy hy=>ok.wr y (Ma.qx rn y hy),Ma.qy (λp hp=>(ok.pr p hp).2) rn,λp ts H5 hp s5 Ub Uc TT=>?_⟩
   refine⟨bu++[p],by rw[a0p];rfl,by simp[ci],s4.trans s5,λm jN d' a1 a2=>?_⟩
   by_cases hm:m<bu.length
   ·rw[a0i hm] at a2
    exact TA.keep s5 m jN d' a1 a2
   ·have mH:m=i:=by
     have:=(ZX.mp a2).1
     simp at this
     lia
    subst mH
    rw[a0q (by lia),ci,a1D] at a2
    have e1:p=d':=by simpa using a2
    subst e1
    rw[bU] at a1
    cases a1
    exact⟨ts,Ub,Uc,TT⟩
  ·rintro ys H4 ⟨bu,rfl,ci,s4,TA⟩ D hD
   have ji:bu.length=ps.length:=by rw[ci,ZW,Paired.length rows,Ma.iu]
   exact k D bu _ (s3.free (s4.free hD)) (s3.trans (s4.trans (b_ hD))) d_ ji (TA.keep (b_ hD))
theorem IM:aQ ["rows","weights","tails","ways","row","begun","tail","total"] ["rows","weights","tails"] (g_ yz):=⟨rfl,rfl,rfl,by decide +kernel,rfl,by decide +kernel,by decide +kernel⟩
theorem Ud{f:Addr}{fd:FuncData}(F:aG K "ways_from_beginnings" "ways_from_beginnings" yz f fd)(T:Txt mg)(DW:ak P w K mg base 1 "weighted_sum" ["figures","weights"] zT):ax P w K mg base aK 2 f fd ["rows","weights","tails"] Am:=by
 refine F.ok IM (λvs H Q E h=>?_) (λae A outer s H vs Q E hr h=>?_)
 ·obtain⟨b,rl,c,tl,rs,ts,ws,q,j,rfl,_⟩:=h;rfl
 ·obtain⟨b,rl,c,tl,rs,ts,ws,q,j,rfl,ff,hc,ci,ZC,TC,l7,hb,hw,jd,hj,RD,Ue,k⟩:=h
  have nd:=IM.nd
  have hu:=oh hr
  refine⟨_,c_ (k_ (i:=3) nd rfl (Or.inl rfl) mj)
   (c_ (Y_ PassesOwn.never rfl (S_ (pv 0)) (q_ (i:=4) nd rfl (Or.inl rfl))
    (c_ (k_ (i:=5) nd rfl (Or.inl rfl) (o_ DW hr.mo (by rfl) (a_ (pv 4) (a_ (pv 1) e_))))
    (c_ (k_ (i:=6) nd rfl (Or.inl rfl) (cg (pv 2) (dC T.len (by rfl) (pv 4))))
    (c_ (Y_ PassesOwn.never rfl (za (pv 6)) (q_ (i:=7) nd rfl (Or.inl rfl))
     (h_ (yU hu (pv 3) (p_ K_ (pv 5) (pv 7)) (p_ K_ (ur hu (pv 3) (p_ K_ (pv 5) (pv 7)) f_ ⟨rfl,rfl,rfl,rfl⟩) (yT hu (pv 6) (pv 7) (λ_ _=>rfl))) rfl)))
    (y' w_)))))
   (h_ (n_ (pv 3)))),?_⟩
  intro p hp
  have s0:ag H (upd H p (.dK [])):=b_ hp
  have u0:(upd H p (.dK [])) p=some (.dK (aJ [])):=d_
  generalize upd H p (.dK [])=H0 at s0 u0⊢
  have b0:0<b:=by lia
  obtain⟨r2,oN⟩:∃r,r=ws.drop j:=⟨_,rfl⟩
  have Uf:r2.length=ws.length-j:=by rw[oN,a0B]
  have Ug:ws.take j++r2=ws:=by rw[oN];exact a0u j ws
  have ZD:q+(rs.length-1)<b ^ j:=by
   obtain⟨a,ha⟩:∃a,rs[rs.length-1]?=some a:=⟨_,a0A (by lia)⟩
   exact(RD _ a ha).2
  have Uh:rs.length*b ^ (ws.length-j)<=16777216:=by
   have h1:rs.length*b ^ (ws.length-j)<=b ^ j*b ^ (ws.length-j):=a0o _ (by lia)
   rw[<-a0Q,show j+(ws.length-j)=ws.length by lia] at h1
   have h2:b ^ ws.length<=16 ^ 6:=Z9 (Nat.pow_le_pow_left hb _) (Nat.pow_le_pow_right (by decide) jd)
   have ZE:(16:Nat) ^ 6=16777216:=by decide
   lia
  have Ui:0<rs.length*b ^ (ws.length-j):=Nat.mul_pos Ue (a1u b0)
  refine⟨_,rfl,rl,rfl,⟨_,af.of (s0 _ _ ff)⟩,kf (K:=K) (a:=rl) (xs:=rs.map V.ref) (λi σ H2=>∃v4 v5 v6 v7,σ=[some (.ref rl),some (.ref c),some (.ref tl),some (.ref p),v4,v5,v6,v7]/\ag H H2/\∃gl,H2 p=some (.dK (aJ gl))/\Me.Ok gl 810/\∀F:Int->Int,Mg.tg gl F=Mg.ns (λn=>F (Mg.cG b (q*b ^ (ws.length-j)+n) ws)) (i*b ^ (ws.length-j)))
   ⟨none,none,none,none,rfl,s0,[],u0,Me.Ok.nil,λF=>by rw[a1J];rfl⟩ (λi σ H2 _ h=>by obtain⟨_,_,_,_,_,z,_⟩:=h;exact af.of (z _ _ ff)) ?_ ?_⟩
  ·rintro i x σ H2 hx ⟨v4,v5,v6,v7,rfl,s2,g0,p2,aO,vx⟩
   obtain⟨ra,Uj,rfl⟩:=pd hx
   obtain⟨bU,aT⟩:=RD i ra Uj
   refine⟨_,rfl,_,rfl,ra,c,_,ws,rfl,s2 _ _ bU,s2 _ _ hc,hw,by rw[Ma.W_];exact hj,jd,λH3 s3=>?_⟩
   rw[Tm hj]
   have S3:=s2.trans s3
   have er:(((ay (Ma.aI b (q+i) j j)).length:Nat):Int)=(j:Int):=by rw[ay,ZW,Ma.W_]
   obtain⟨t,e1⟩:∃t,ts[j]?=some t:=⟨_,a0A (by lia)⟩
   obtain⟨g,e2,perm⟩:=TC j t e1
   have Uk:dQ (ts.map V.ref) (j:Int)=some (.ref t):=km (by rw[Z2,e1];rfl)
   refine⟨_,rfl,_,rfl,ra,_,rfl,.inl (af.of (S3 _ _ bU)),?_⟩
   refine⟨tl,_,(((ay (Ma.aI b (q+i) j j)).length:Nat):Int),_,rfl,rfl,af.of (S3 _ _ ci),by rw[er];exact Uk,?_⟩
   have p3:=s3 _ _ p2
   have t3:=S3 _ _ e2
   have Ao:t≠p:=l_ e2 hp
   rw[<-oN] at perm
   have pe:=Me.uL (b:=b) (ws:=r2) (λx hx=>hw x (by rw[oN] at hx;exact a1A hx)) hb
   have Ul:(Me.keys g).Nodup:=((perm.map _).nodup_iff).mpr pe.nd
   have Um:∀x∈Me.keys g,-(135*(r2.length:Int))<=x/\x<=135*(r2.length:Int):=λx hx=>pe.bd x ((perm.map Prod.fst).mem_iff.mp hx)
   generalize IN:Mg.cG b (q+i) (ws.take j)=bg
   have Uo:=Tn (b:=b) (q:=q+i) (r:=ws.take j) b0 hb λx hx=>hw x (a1a hx)
   have Uq:(ws.take j).length=j:=by rw[a0g];lia
   rw[Uq,IN] at Uo
   refine⟨_,rfl,t,aJ g,rfl,t3,λo=>zb (λm σ H4=>∃v7,σ=[some (.ref rl),some (.ref c),some (.ref tl),some (.ref p),some (.ref ra),some (.int bg),some (.ref t),v7]/\H4 t=some (.ce o (.dK (aJ g)))/\Kp [t] H H4/\∃g4,H4 p=some (.dK (aJ g4))/\Me.Ok g4 810/\∀F:Int->Int,Mg.tg g4 F=Mg.tg g0 F+Mg.tg (g.take m) λx=>F (bg+x))
    ⟨v7,rfl,d_,l8 (Kp.of S3) (.inl (by simp)),g0,?_,aO,λF=>by simp[Mg.tg]⟩ (λm σ H4 _ h=>by obtain⟨_,_,z,_⟩:=h;exact z) ?_ ?_⟩
   ·rw[i_ Ao.symm];exact p3
   ·rintro m kk v σ H4 hk ⟨v7,rfl,ft,Ap,g4,p4,bt,vy⟩
    obtain⟨pr,u7,rfl,rfl⟩:=zr hk
    have pm:=Z1 u7
    have pb:=Um pr.1 (a0a.mpr ⟨pr,pm,rfl⟩)
    have dg:mh H4 t (.int pr.1) (some (.int pr.2)):=by
     have z:=mE (k:=pr.1) (.inr ⟨o,ft⟩)
     rw[Me.mz Ul pm] at z
     exact z
    have b9:=Me.Ok.len (m:=810) bt
    refine⟨_,rfl,p,rfl,.inl ⟨_,.inl p4⟩,_,rfl,_,rfl,_,_,rfl,rfl,_,mE (.inl p4),_,rfl,_,rfl,t,.int pr.2,rfl,dg,_,_,uS _,rfl,_,rfl,_,rfl,_,rfl,_,_,rfl,rfl,p,_,rfl,zt p4 (by lia),?_⟩
    refine⟨_,rfl,?_,?_,Me.dD g4 (bg+pr.1) pr.2,d_,?_,λF=>?_⟩
    ·rw[i_ Ao];exact ft
    ·exact l8 Ap (.inr hp)
    ·exact bt.put (by lia)
    ·rw[Mg.zU bt.nd,vy F,Mx.T4 u7]
     exact Int.add_assoc _ _ _
   ·rintro σ H4 ⟨v7,rfl,ft,Ap,g4,p4,bt,vy⟩
    have el:(aJ g).length=g.length:=by rw[aJ,ZW]
    rw[el,a0e] at vy
    refine⟨t,o,aJ g,ft,(λo' u z=>by
     have z':H t=some (.ce o' u):=z
     rw[e2] at z';cases z'),_,_,_,_,rfl,λx ob e=>?_,g4,?_,bt,λF=>?_⟩
    ·by_cases hx:x=t
     ·rw[hx,d_,<-e2,<-hx];exact e
     ·rw[i_ hx];exact Ap x ob e (by simpa using hx)
    ·rw[i_ Ao.symm];exact p4
    ·rw[vy,vx,a0K,a2a,Mg.rf,Mx.IK perm,<-Mg.HV b (λx=>F (bg+x)) r2,<-Uf]
     congr 1
     apply Mg.iA
     intro d hd
     have e5:q*b ^ r2.length+(i*b ^ r2.length+d)=(q+i)*b ^ r2.length+d:=by rw[a0K];lia
     have e6:=Mu.Tl (b:=b) (d:=q+i) (i:=d) (r1:=ws.take j) (r2:=r2) b0 hd
     rw[Ug,IN] at e6
     show F _=F _
     rw[e5,e6]
  ·rintro σ H2 ⟨v4,v5,v6,v7,rfl,s2,gl,p2,aO,vx⟩
   rw[ZW] at vx
   exact⟨_,rfl,k p gl H2 hp s2 p2 (Mx.kT.of aO Ui Uh vx)⟩
end
end Hv
namespace Mx
open Me Mg Mu
def gc(b d:Nat)(ps:List Nat)(ws:List Int)(m:Nat):Int:=if kR (fj b m ps ws)<=d then 1 else 0
def bF(b d:Nat)(ps:List Nat)(ws:List Int)(n:Nat):Int:=ns (gc b d ps ws) n
def cY(b d:Nat)(ps:List Nat)(ws:List Int)(x:eO):Int:=ns (λi=>gc b d ps ws (oZ b ps.sum x+i)) (sN b ps.sum x)
theorem Ur{b d:Nat}(hb:0<b){x:eO}{ps:List Nat}{ws:List Int}(hp:0<ps.length)(SO:rm b ps.sum x)(hw:ws.length=ps.sum){gs:List (List (Int×Int))}(hl:gs.length=ps.length)
  (hg:∀i l row g,ps[i]?=some l->(Ma.a9 ps ws)[i]?=some row->gs[i]?=some g->kT g (jR b x.1 x.2.1 (ps.take i).sum l) (jS b x.2.1 x.2.2 (ps.take i).sum l) (λn=>cG b n row)) (ok:∀g∈gs,fe g):mL gs d=cY b d ps ws x:=by
 rw[IH (by lia) ok,TZ hb SO hw hl hg]
 rfl
theorem Us{b d:Nat}{ps:List Nat}{ws:List Int}{L:List eO}{n:Nat}(h:∀g,iB b ps.sum L g=ns g n):(L.map (cY b d ps ws)).sum=bF b d ps ws n:=by
 unfold bF
 rw[<-h]
 rfl
end Mx
namespace Hv
open PySem L2
def Ut(H:Hp)(b:Nat)(ps:List Nat)(ws:List Int)(x:Mu.eO)(ds:List Addr)(gs:List (List (Int×Int))):Prop:=oO H ds gs/\∀(i l:Nat) (row:List Int) (g:List (Int×Int)),ps[i]?=some l->(Ma.a9 ps ws)[i]?=some row->gs[i]?=some g->
 Mx.kT g (Mu.jR b x.1 x.2.1 (ps.take i).sum l) (Mu.jS b x.2.1 x.2.2 (ps.take i).sum l) (λn=>Mg.cG b n row)
def vz:Sp:=λvs H Q _=>∃f A c b ps ws,∃(tl hd:Addr) (bu:List Addr) (x:Mu.eO) (d:Nat),vs=[.ref f,.ref tl,.int d,.ref hd,.int (x.2.2:Int)]/\aS H f A c b ps ws/\H tl=some (.lst (bu.map V.ref))/\bu.length=ps.length/\jT H b ps ws bu/\H hd=some (.lst (ay (Ma.aI b x.1 x.2.1 x.2.1)))/\Mu.rm b ps.sum x/\
 ∀H':Hp,ag H H'->Q (.int (Mx.cY b d ps ws x)) H'
section
variable{P:Program}{w:World}{K:PySem.W.Frag}{mg:Str->Option Value}{base:Heap}
theorem IO:aQ ["frame","tails_by_part","d","head","end","beginnings","weights_by_part","ways_by_part","rows","weights","tails"] ["frame","tails_by_part","d","head","end"] (g_ yA):=⟨rfl,rfl,rfl,by decide +kernel,rfl,by decide +kernel,by decide +kernel⟩
theorem Uu{f:Addr}{fd:FuncData}(F:aG K "count_begun" "count_begun" yA f fd)(T:Txt mg)(DP:ak P w K mg base 1 "part_beginnings" ["frame","head","end"] Ad)(DC:ak P w K mg base 1 "cut_by_parts" ["frame","row"] qK)
  (DW:ak P w K mg base 2 "ways_from_beginnings" ["rows","weights","tails"] Am) (DJ:ak P w K mg base 2 "count_spread_within" ["ways_by_part","width"] vc):ax P w K mg base aK 3 f fd ["frame","tails_by_part","d","head","end"] vz:=by
 refine F.ok IO (λvs H Q E h=>?_) (λae A outer s H vs Q E hr h=>?_)
 ·obtain⟨g,A,c,b,ps,ws,tl,hd,bu,x,d,rfl,_⟩:=h;rfl
 ·obtain⟨g,A',c,b,ps,ws,tl,hd,bu,x,d,rfl,G,ci,Uv,TA,oY,SO,k⟩:=h
  have nd:=IO.nd
  have ok:=G.ok
  have l4:=ok.l4
  have l2:=ok.l2
  have qI:=ok.sum
  have hpl:=SO.pl
  refine⟨_,c_ (k_ (i:=5) nd rfl (Or.inl rfl) (o_ DP hr.mo (by rfl) (a_ (pv 0) (a_ (pv 3) (a_ (pv 4) e_)))))
   (c_ (k_ (i:=6) nd rfl (Or.inl rfl) (o_ DC hr.mo (by rfl) (a_ (pv 0) (a_ (bX (pv 0) f_) e_))))
   (c_ (k_ (i:=7) nd rfl (Or.inl rfl) (A_ e_))
   (c_ (Y_ PassesOwn.never rfl (SV (by rfl) T.zip (pv 5) (pv 6) (pv 1)) (ss rfl (N_ (q_ (i:=8) nd rfl (Or.inl rfl)) (N_ (q_ (i:=9) nd rfl (Or.inl rfl)) (N_ (q_ (i:=10) nd rfl (Or.inl rfl)) nV))))
    (h_ (C_ (kn PySem.F.plainAttrs_list PySem.F.slot_list_append PySem.F.type_list_append ko (pv 7) (a_ (o_ DW hr (by rfl) (a_ (pv 8) (a_ (pv 9) (a_ (pv 10) e_)))) e_)))))
   (h_ (n_ (o_ DJ hr (by rfl) (a_ (pv 7) (a_ (pv 2) e_)))))))),?_⟩
  refine⟨_,rfl,_,rfl,_,rfl,g,A',c,b,ps,ws,hd,x.1,x.2.1,x.2.2,rfl,G,oY,SO.eb,by lia,λbp bs H1 ZF s1 qQ pc BA=>?_⟩
  have G1:=G.keep s1
  refine⟨_,rfl,_,rfl,_,_,_,_,rfl,rfl,bo.of G1.tp,rfl,g,A',c,b,ps,ws,c,ws,rfl,G1,G1.hw,λwp qs H2 s2 rp rows=>?_⟩
  have G2:=G1.keep s2
  have Uw:qs.length=ps.length:=by rw[Paired.length rows,Ma.iu]
  refine⟨sz (by decide),λsl dG=>?_⟩
  have s3:=b_ (o:=.lst []) dG
  have Aq:H sl=none:=s1.free (s2.free dG)
  have u3:(upd H2 sl (.lst [])) sl=_:=d_
  have S3:ag H (upd H2 sl (.lst [])):=(s1.trans s2).trans s3
  have pf:ag H1 (upd H2 sl (.lst [])):=s2.trans s3
  generalize upd H2 sl (.lst [])=H3 at s3 u3 S3 pf⊢
  refine⟨_,rfl,_,rfl,_,rfl,bp,wp,tl,rfl,rfl,rfl,⟨_,af.of (pf _ _ qQ)⟩,⟨_,af.of (s3 _ _ rp)⟩,⟨_,af.of (S3 _ _ ci)⟩,SW (K:=K) (a:=bp) (b:=wp) (c:=tl) (xs:=bs.map V.ref) (ys:=qs.map V.ref) (zs:=bu.map V.ref)
   (λi σ H4=>∃(ds:List Addr) (gs:List (List (Int×Int))) (v7 v8 v9:Option V),σ=[some (.ref g),some (.ref tl),some (.int d),some (.ref hd),some (.int (x.2.2:Int)),some (.ref bp),some (.ref wp),some (.ref sl),v7,v8,v9]/\(∀y ob,H3 y=some ob->y≠sl->H4 y=some ob)/\H4 sl=some (.lst (ds.map V.ref))/\ds.length=i/\Ut H4 b ps ws x ds gs) (by simp[pc,Uw]) (by simp[pc,Uv])
   ⟨[],[],none,none,none,rfl,λy ob e _=>e,u3,rfl,.nil,λi l row d _ _ h=>by simp at h⟩ ?_ ?_ ?_⟩
  ·rintro i σ H4 _ ⟨ds,gs,v7,v8,v9,rfl,kp,_⟩
   exact⟨af.of (kp _ _ (pf _ _ qQ) (l_ qQ (s2.free dG))),af.of (kp _ _ (s3 _ _ rp) (l_ rp dG)),af.of (kp _ _ (S3 _ _ ci) (l_ ci Aq))⟩
  ·rintro i xb xw xt σ H4 t hb hw ht ⟨ds,gs,v7,v8,v9,rfl,kp,Ar,vA,PR⟩ Ux
   obtain⟨br,IP,rfl⟩:=pd hb
   obtain⟨wq,An,rfl⟩:=pd hw
   obtain⟨td,Uy,rfl⟩:=pd ht
   have hi:i<ps.length:=by have:=(ZX.mp IP).1;lia
   obtain⟨l,hl⟩:∃l,ps[i]?=some l:=⟨_,a0A hi⟩
   have bU:=Ma.tL ps ws i l hl
   generalize er:(ws.drop (ps.take i).sum).take l=row at bU
   have ff:row.length=l:=by
    have h1:=Me.Tc ps ws ok.wl
    have h2:((Ma.a9 ps ws).map List.length)[i]?=some row.length:=by rw[Z2,bU];rfl
    rw[h1,hl] at h2
    exact(Z6 h2).symm
   have rn:row∈Ma.a9 ps ws:=Z1 bU
   have u5:(upd H4 t (.tup [.ref br,.ref wq,.ref td])) t=_:=d_
   have t5:=b_ (o:=.tup [.ref br,.ref wq,.ref td]) Ux
   refine⟨t,_,rfl,bo.of d_,rfl,_,_,rfl,_,_,rfl,_,_,rfl,rfl,?_⟩
   have rq:∀y ob,H3 y=some ob->y≠sl->(upd H4 t (.tup [.ref br,.ref wq,.ref td])) y=some ob:=λy ob e n=>t5 _ _ (kp y ob e n)
   have rA:=t5 _ _ Ar
   have As:=PR.1.keep t5
   generalize upd H4 t (.tup [.ref br,.ref wq,.ref td])=H5 at u5 t5 rq rA As⊢
   have U2:ag H2 H5:=λy ob e=>rq _ _ (s3 _ _ e) (l_ e dG)
   have U1:ag H1 H5:=λy ob e=>rq _ _ (pf _ _ e) (l_ e (s2.free dG))
   have U0:ag H H5:=λy ob e=>rq _ _ (S3 _ _ e) (l_ e Aq)
   have G5:=G.keep U0
   obtain⟨_,rs,gZ,IQ,_,RD⟩:=BA i l br hl IP
   have Uz:H2 wq=some (.lst (row.map V.int)):=by
    obtain⟨jN,dj,e'⟩:=vw rows An
    rw[bU] at dj
    cases dj
    exact e'
   obtain⟨ts,At,Au,Av⟩:=TA i row td bU Uy
   have UA:0<rs.length:=by
    rw[IQ]
    have:=SO.e1
    unfold Mu.pn
    split
    ·decide
    ·split <;> lia
   refine⟨_,rfl,.inl ⟨rfl,_,af.of rA⟩,_,rfl,_,rfl,_,rfl,b,br,wq,td,rs,ts,row,Mu.pq b x.1 x.2.1 (ps.take i).sum l,Mu.pj x.2.1 (ps.take i).sum l,rfl,U1 _ _ gZ,U2 _ _ Uz,U0 _ _ At,Au,Av.keep U0,ok.b2,ok.dS,λy hy=>ok.wr y (Ma.qx rn y hy),Ma.qy (λp hp=>(ok.pr p hp).2) rn,by rw[ff];exact Mu.Tr,RD.keep U1,UA,λdp g6 H6 IR s6 h6 R6=>?_⟩
   rw[ff,IQ] at R6
   have UB:dp≠sl:=λz=>by rw[z,rA] at IR;cases IR
   have gl:gs.length=i:=by rw[<-Paired.length As];exact vA
   refine⟨sl,_,_,rfl,rfl,s6 _ _ rA,cq (by rw[ZW];lia),ds++[dp],gs++[g6],some (.ref br),some (.ref wq),some (.ref td),rfl,λy ob e n=>?_,by rw[d_,a0p];rfl,by simp[vA],?_,λm l' jN d' a1 a2 a3=>?_⟩
   ·rw[i_ n]
    exact s6 _ _ (rq y ob e n)
   ·refine Paired.snoc (L2.Paired.iM As λq g e=>?_) (by rw[i_ UB];exact h6)
    rw[i_ (λz=>by rw[z,rA] at e;cases e)]
    exact s6 _ _ e
   ·by_cases hm:m<gs.length
    ·rw[a0i hm] at a3
     exact PR.2 m l' jN d' a1 a2 a3
    ·have mH:m=i:=by
      have:=(ZX.mp a3).1
      simp at this
      lia
     subst mH
     rw[a0q (by lia),gl,a1D] at a3
     have e1:g6=d':=by simpa using a3
     subst e1
     rw[hl] at a1
     cases a1
     rw[bU] at a2
     cases a2
     exact R6
  ·rintro σ H4 ⟨ds,gs,v7,v8,v9,rfl,kp,Ar,vA,PR⟩
   have U0:ag H H4:=λy ob e=>kp _ _ (S3 _ _ e) (l_ e Aq)
   have UC:ds.length=ps.length:=by rw[vA,ZW,pc]
   have gl:gs.length=ps.length:=by rw[<-Paired.length PR.1];exact UC
   have rB:∀g∈gs,Me.fe g:=λg hg=>by
    obtain⟨i,hi⟩:=a0P hg
    have dr:i<ps.length:=by have:=(ZX.mp hi).1;lia
    exact(PR.2 i ps[i] _ g (a0A dr) (Ma.tL ps ws i _ (a0A dr)) hi).ok
   refine⟨_,rfl,_,rfl,sl,ds,gs,d,rfl,Ar,PR.1,by lia,by lia,rB,λH' s'=>?_⟩
   rw[Mx.Ur (by have:=ok.b2;lia) (by lia) SO ok.wl gl PR.2 rB]
   exact k H' (U0.trans s')
end
def mX:Sp:=λvs H Q _=>∃d:Nat,vs=[.int d]/\Q .aw H
def Aw:Sp:=λvs H Q _=>∃f A c b ps ws,∃(tl:Addr) (bu:List Addr) (d n:Nat),vs=[.ref f,.ref tl,.int d,.int n]/\aS H f A c b ps ws/\H tl=some (.lst (bu.map V.ref))/\bu.length=ps.length/\jT H b ps ws bu/\n<=b ^ ps.sum/\
 ∀H':Hp,ag H H'->Q (.int (Mx.bF b d ps ws n)) H'
section
variable{P:Program}{w:World}{K:PySem.W.Frag}{mg:Str->Option Value}{base:Heap}
theorem IS:aQ ["thing"] ["thing"] (g_ tV):=⟨rfl,rfl,rfl,by decide +kernel,rfl,by decide +kernel,by decide +kernel⟩
theorem IT{f:Addr}{fd:FuncData}(F:aG K "need_miss" "need_miss" tV f fd)(D1:ak P w K mg base 1 "is_whole" ["thing"] ma):ax P w K mg base aK 2 f fd ["thing"] mX:=by
 refine F.ok IS (λvs H Q E h=>?_) (λae A outer s H vs Q E hr h=>?_)
 ·obtain⟨d,rfl,_⟩:=h;rfl
 ·obtain⟨d,rfl,k⟩:=h
  refine⟨_,h_ (Z_ (PW.pt (gL (d9 (dP (o_ D1 hr (by rfl) (a_ (pv 0) e_)))) (ig (v_ nW (pv 0) f_ (bO _))))) O_ w_),?_⟩
  refine⟨_,rfl,.int d,rfl,.int _,_,rfl,aX ⟨_,rfl,_,_,rfl,rfl,_,rfl,?_⟩⟩
  have e:decide ((d:Int)<0)=false:=decide_eq_false (by lia)
  rw[e]
  exact aX k
theorem IU:aQ ["frame","tails_by_part","d","n"] ["frame","tails_by_part","d","n"] (g_ qC):=⟨rfl,rfl,rfl,by decide +kernel,rfl,by decide +kernel,by decide +kernel⟩
theorem UD{f:Addr}{fd:FuncData}(F:aG K "count_below" "count_below" qC f fd)(T:Txt mg)(DS:ak P w K mg base 9 "stretches_below" ["frame","n"] Ah)(DW:ak P w K mg base 3 "count_begun" ["frame","tails_by_part","d","head","end"] vz):ax P w K mg base aK 10 f fd ["frame","tails_by_part","d","n"] Aw:=by
 refine F.ok IU (λvs H Q E h=>?_) (λae A outer s H vs Q E hr h=>?_)
 ·obtain⟨g,A,c,b,ps,ws,tl,bu,d,n,rfl,_⟩:=h;rfl
 ·obtain⟨g,A',c,b,ps,ws,tl,bu,d,n,rfl,G,ci,ji,TA,hn,k⟩:=h
  have nd:=IU.nd
  have ok:=G.ok
  have dW:List.Nodup (["head","end","frame","tails_by_part","d"]:List Str):=by decide +kernel
  refine⟨_,h_ (n_ (r_ (GJ rfl) (by rfl) T.sum boot_sum (a_ (xX (N:=["head","end","frame","tails_by_part","d"]) (k:=2) (fr:=[0,1,2]) (ql (sc:=g_ qC) (NX:=["frame","tails_by_part","d","n"]) (k:=2) (fr:=[0,1,2]) rfl rfl (by decide +kernel))
    (qm (sc:=g_ qC) (NX:=["frame","tails_by_part","d","n"]) rfl (by decide +kernel)) rfl (S_ (o_ DS hr (by rfl) (a_ (pv 0) (a_ (pv 3) e_))))
    (λcl C s H fp=>yf K rfl rfl (N_ (q_ (i:=0) dW rfl (Or.inl rfl)) (N_ (q_ (i:=1) dW rfl (Or.inl rfl)) nV))) yg (λcl C s H fp=>fZ)
    (λcl C s H fp=>o_ DW hr.mo (by rfl) (a_ (pv 2) (a_ (pv 3) (a_ (pv 4) (a_ (pv 0) (a_ (pv 1) e_))))))) e_))),?_⟩
  refine⟨_,rfl,_,rfl,g,A',c,b,ps,ws,n,rfl,G,hn,λp ts L H6 hp s6 IV PR hL SO hg=>⟨p,rfl,⟨_,af.of IV⟩,iX (K:=K) (a:=p) (xs:=ts.map V.ref) (λi ys H7=>ys=((L.take i).map (Mx.cY b d ps ws)).map V.int/\ag H6 H7)
    ⟨by simp,ag.refl _⟩ (λi ys H7 _ q=>af.of (q.2 _ _ IV)) ?_ ?_⟩⟩
  ·rintro i x ys H7 hx ⟨rfl,s7⟩
   obtain⟨t,ht,rfl⟩:=pd hx
   obtain⟨x',jJ,hh,h1,h2⟩:=vw PR ht
   have S7:=s6.trans s7
   refine⟨cq (by rw[ZW,ZW,a0g];lia),t,_,rfl,bo.of (s7 _ _ h1),rfl,_,_,rfl,_,_,rfl,rfl,_,rfl,_,rfl,_,rfl,_,rfl,_,rfl,g,A',c,b,ps,ws,tl,hh,bu,x',d,rfl,G.keep S7,S7 _ _ ci,ji,TA.keep S7,s7 _ _ h2,SO x' (Z1 jJ),λH8 s8=>?_⟩
   refine⟨?_,s7.trans s8⟩
   rw[Z8,jJ]
   simp
  ·rintro ys H7 ⟨rfl,s7⟩ wl fK
   have el:(ts.map V.ref).length=L.length:=by rw[ZW,Paired.length PR]
   rw[el,a0e]
   refine⟨wl,_,rfl,af.of d_,?_⟩
   rw[Mx.Us hg]
   exact k _ (s6.trans (s7.trans (b_ fK)))
end
end Hv
namespace Mx
open Me Mg Mu
theorem IW(b d:Nat)(ps:List Nat)(ws:List Int)(m:Nat):gc b d ps ws m=0\/gc b d ps ws m=1:=by
 unfold gc
 split
 ·exact .inr rfl
 ·exact .inl rfl
theorem ph(b d:Nat)(ps:List Nat)(ws:List Int)(n:Nat):bF b d ps ws (n+1)=bF b d ps ws n+gc b d ps ws n:=rfl
theorem IX(b d:Nat)(ps:List Nat)(ws:List Int)(n:Nat):∀m,bF b d ps ws n<=bF b d ps ws (n+m)
 | 0=>a0L _
 | m+1=>by
  have:=IX b d ps ws n m
  rw[<-a1E,ph]
  rcases IW b d ps ws (n+m) with h | h <;> lia
theorem vB(b d:Nat)(ps:List Nat)(ws:List Int)(a pl e:Nat):bF b d ps ws (a*b ^ (ps.sum-pl)+e*b ^ (ps.sum-pl-1))=bF b d ps ws (a*b ^ (ps.sum-pl))+cY b d ps ws (a,pl,e):=by
 unfold bF cY
 rw[rf]
theorem UE(b d:Nat)(ps:List Nat)(ws:List Int)(a pl:Nat):cY b d ps ws (a,pl,0)=0:=by
 have:=vB b d ps ws a pl 0
 rw[a1J,a1r] at this
 lia
theorem IY{b S i:Nat}(hi:i<S):b ^ (S-i)=b*b ^ (S-i-1):=by
 rw[show S-i=(S-i-1)+1 by lia,a1q,a0H]
 rfl
theorem UF{b d S a i fg r r' k:Nat}{ps:List Nat}{ws:List Int}(hS:ps.sum=S)(hi:i<S)(h1:bF b d ps ws (a*b ^ (S-i))+r=k)(h3:cY b d ps ws (a,i,fg)+r'=r)(h4:(r:Int)<cY b d ps ws (a,i,fg+1)) :
  bF b d ps ws ((a*b+fg)*b ^ (S-(i+1)))+r'=k/\(k:Int)<bF b d ps ws ((a*b+fg)*b ^ (S-(i+1))+b ^ (S-(i+1))):=by
 subst hS
 have e1:(a*b+fg)*b ^ (ps.sum-(i+1))=a*b ^ (ps.sum-i)+fg*b ^ (ps.sum-i-1):=by
  rw[IY hi,a0K,a0Y]
  rfl
 have e2:(a*b+fg)*b ^ (ps.sum-(i+1))+b ^ (ps.sum-(i+1))=a*b ^ (ps.sum-i)+(fg+1)*b ^ (ps.sum-i-1):=by
  rw[e1,a0K fg 1,a2a,a1E]
  rfl
 rw[e2,e1,vB,vB]
 lia
theorem UG{b d S a i r k:Nat}{ps:List Nat}{ws:List Int}(hS:ps.sum=S)(hi:i<S)(h1:bF b d ps ws (a*b ^ (S-i))+r=k)(h2:(k:Int)<bF b d ps ws (a*b ^ (S-i)+b ^ (S-i))):(r:Int)<cY b d ps ws (a,i,b):=by
 subst hS
 have:=vB b d ps ws a i b
 rw[<-IY hi] at this
 lia
end Mx
namespace Hv
open PySem L2
def Ax:Sp:=λvs H Q _=>∃f A c b ps ws,∃(tl hd:Addr) (bu:List Addr) (a pl d k:Nat),vs=[.ref f,.ref tl,.int d,.ref hd,.int k]/\aS H f A c b ps ws/\H tl=some (.lst (bu.map V.ref))/\bu.length=ps.length/\jT H b ps ws bu/\H hd=some (.lst (ay (Ma.aI b a pl pl)))/\pl<ps.sum/\a<b ^ pl/\
 (k:Int)<Mx.cY b d ps ws (a,pl,b)/\
 ∀(t:Addr) (fg r:Nat) (H':Hp),ag H H'->H' t=some (.tup [.int fg,.int r])->fg<b->Mx.cY b d ps ws (a,pl,fg)+r=k->(k:Int)<Mx.cY b d ps ws (a,pl,fg+1)->Q (.ref t) H'
def Ay:Sp:=λvs H Q _=>∃f A c b ps ws,∃(tl:Addr) (bu:List Addr) (d k:Nat),vs=[.ref f,.ref tl,.int d,.int k]/\aS H f A c b ps ws/\H tl=some (.lst (bu.map V.ref))/\bu.length=ps.length/\jT H b ps ws bu/\
 (∀H':Hp,ag H H'->Mx.bF b d ps ws (b ^ ps.sum)<=k->Q .aw H')/\∀(m:Nat) (H':Hp),ag H H'->m<b ^ ps.sum->Mx.gc b d ps ws m=1->Mx.bF b d ps ws m=k->Q (.int m) H'
section
variable{P:Program}{w:World}{K:PySem.W.Frag}{mg:Str->Option Value}{base:Heap}
theorem IZ:aQ ["frame","tails_by_part","d","head","k","figure","passed","beyond","middle","count"] ["frame","tails_by_part","d","head","k"] (g_ yB):=⟨rfl,rfl,rfl,by decide +kernel,rfl,by decide +kernel,by decide +kernel⟩
theorem UH{f:Addr}{fd:FuncData}(F:aG K "figure_and_rest" "figure_and_rest" yB f fd)(DB:ak P w K mg base 3 "count_begun" ["frame","tails_by_part","d","head","end"] vz):ax P w K mg base aK 4 f fd ["frame","tails_by_part","d","head","k"] Ax:=by
 refine F.ok IZ (λvs H Q E h=>?_) (λae A outer s H vs Q E hr h=>?_)
 ·obtain⟨g,A,c,b,ps,ws,tl,hd,bu,a,pl,d,k,rfl,_⟩:=h;rfl
 ·obtain⟨g,A',c,b,ps,ws,tl,hd,bu,a,pl,d,n,rfl,G,ci,ji,TA,oY,hpl,ha,hn,k⟩:=h
  have nd:=IZ.nd
  have ok:=G.ok
  have b2:=ok.b2
  refine⟨_,c_ (k_ (i:=5) nd rfl (Or.inl rfl) f_)
   (c_ (k_ (i:=6) nd rfl (Or.inl rfl) f_)
   (c_ (k_ (i:=7) nd rfl (Or.inl rfl) (bX (pv 0) f_))
   (c_ (MA PassesOwn.never (v_ sH (p_ fF (pv 7) (pv 5)) f_ (bO _))
    (c_ (k_ (i:=8) nd rfl (Or.inl rfl) (p_ sG (p_ K_ (pv 5) (pv 7)) f_))
    (c_ (k_ (i:=9) nd rfl (Or.inl rfl) (o_ DB hr (by rfl) (a_ (pv 0) (a_ (pv 1) (a_ (pv 2) (a_ (pv 3) (a_ (pv 8) e_)))))))
    (h_ (Z_ (v_ nX (pv 9) (pv 4) (bO _))
     (c_ (k_ (i:=5) nd rfl (Or.inl rfl) (pv 8)) (h_ (k_ (i:=6) nd rfl (Or.inl rfl) (pv 9))))
     (h_ (k_ (i:=7) nd rfl (Or.inl rfl) (pv 8))))))))
   (h_ (n_ (dJ (a_ (pv 5) (a_ (p_ fF (pv 4) (pv 6)) e_)))))))),?_⟩
  have e0:=Mx.UE b d ps ws a pl
  refine⟨_,rfl,_,_,_,_,rfl,rfl,bo.of G.tp,rfl,?_⟩
  refine⟨λmu σ H'=>∃(fg be:Nat) (v8 v9:Option V),σ=[some (.ref g),some (.ref tl),some (.int d),some (.ref hd),some (.int n),some (.int fg),some (.int (Mx.cY b d ps ws (a,pl,fg))),some (.int be),v8,v9]/\mu=be-fg/\fg<be/\be<=b/\ag H H'/\Mx.cY b d ps ws (a,pl,fg)<=n/\(n:Int)<Mx.cY b d ps ws (a,pl,be),
   ⟨_,0,b,none,none,by rw[e0];rfl,rfl,by lia,Z0 _,ag.refl _,by rw[e0];lia,hn⟩,?_⟩
  rintro mu σ H1 ⟨fg,be,v8,v9,rfl,rfl,ZG,jr,s1,c1,c2⟩
  refine⟨_,rfl,_,rfl,_,_,rfl,rfl,_,_,rfl,rfl,_,rfl,jB (λaT=>?_) (λUI=>?_)⟩
  ·have ZH:(1:Int)<(be:Int)-fg:=of_decide_eq_true aT
   refine⟨λaz H'=>∃(kU kW:Nat) (v8 v9:Option V),az=[some (.ref g),some (.ref tl),some (.int d),some (.ref hd),some (.int n),some (.int kU),some (.int (Mx.cY b d ps ws (a,pl,kU))),some (.int kW),v8,v9]/\kW - kU<be-fg/\kU<kW/\kW<=b/\ag H H'/\Mx.cY b d ps ws (a,pl,kU)<=n/\(n:Int)<Mx.cY b d ps ws (a,pl,kW),
    λaz H' ⟨kU,kW,v8,v9,h1,h2,h3,h4,h5,h6,h7⟩=>⟨kW - kU,h2,kU,kW,v8,v9,h1,rfl,h3,h4,h5,h6,h7⟩,?_⟩
   have em:((fg:Int)+(be:Int)) / 2=(((fg+be) / 2:Nat):Int):=by lia
   refine⟨_,rfl,_,rfl,_,_,rfl,rfl,_,_,rfl,rfl,⟨by decide,by decide⟩,?_⟩
   dsimp only
   rw[em]
   generalize ZI:(fg+be) / 2=md
   have gS:fg<md:=by lia
   have dB:md<be:=by lia
   refine⟨_,rfl,_,rfl,_,rfl,_,rfl,_,rfl,g,A',c,b,ps,ws,tl,hd,bu,(a,pl,md),d,rfl,G.keep s1,s1 _ _ ci,ji,TA.keep s1,s1 _ _ oY,⟨hpl,by show 1<=md;lia,by show md<=b;lia,ha⟩,λH2 s2=>?_⟩
   refine⟨_,rfl,_,rfl,_,_,rfl,rfl,_,rfl,jB (λjb=>?_) (λoC=>?_)⟩
   ·have UJ:Mx.cY b d ps ws (a,pl,md)<=(n:Int):=of_decide_eq_true jb
    exact⟨_,rfl,_,rfl,md,be,_,_,rfl,by lia,dB,jr,s1.trans s2,UJ,c2⟩
   ·have UK:¬ Mx.cY b d ps ws (a,pl,md)<=(n:Int):=λz=>oC (decide_eq_true z)
    exact⟨_,rfl,fg,md,_,_,rfl,by lia,gS,by lia,s1.trans s2,c1,by lia⟩
  ·have ZJ:¬ (1:Int)<(be:Int)-fg:=λz=>UI (decide_eq_true z)
   have UL:be=fg+1:=by lia
   subst UL
   obtain⟨r,dj⟩:∃r:Nat,(n:Int)-Mx.cY b d ps ws (a,pl,fg)=(r:Int):=⟨((n:Int)-Mx.cY b d ps ws (a,pl,fg)).toNat,by lia⟩
   refine⟨_,rfl,_,rfl,_,rfl,_,_,rfl,rfl,sz (by simp),λt ht=>?_⟩
   dsimp only
   rw[dj]
   exact k t fg r _ (s1.trans (b_ ht)) d_ (by lia) (by lia) c2
theorem Ja:aQ ["frame","tails_by_part","d","k","head","rest","place","found"] ["frame","tails_by_part","d","k"] (g_ yC):=⟨rfl,rfl,rfl,by decide +kernel,rfl,by decide +kernel,by decide +kernel⟩
theorem UM{f:Addr}{fd:FuncData}(F:aG K "number_at" "number_at" yC f fd)(T:Txt mg)(D6:ak P w K mg base 6 "how_many" ["frame"] qA)(DB:ak P w K mg base 10 "count_below" ["frame","tails_by_part","d","n"] Aw)(DF:ak P w K mg base 4 "figure_and_rest" ["frame","tails_by_part","d","head","k"] Ax)
  (DN:ak P w K mg base 1 "number_of" ["base","figures"] zM):ax P w K mg base aK 11 f fd ["frame","tails_by_part","d","k"] Ay:=by
 refine F.ok Ja (λvs H Q E h=>?_) (λae A outer s H vs Q E hr h=>?_)
 ·obtain⟨g,A,c,b,ps,ws,tl,bu,d,k,rfl,_⟩:=h;rfl
 ·obtain⟨g,A',c,b,ps,ws,tl,bu,d,n,rfl,G,ci,ji,TA,k1,k2⟩:=h
  have nd:=Ja.nd
  have ok:=G.ok
  have b2:=ok.b2
  have qI:=ok.sum
  have b0:0<b:=by lia
  refine⟨_,c_ (Z_ (v_ Eg (pv 3) (o_ DB hr (by rfl) (a_ (pv 0) (a_ (pv 1) (a_ (pv 2) (a_ (o_ D6 hr.mo (by rfl) (a_ (pv 0) e_)) e_))))) (bO _)) (h_ (n_ ic)) w_)
   (c_ (k_ (i:=4) nd rfl (Or.inl rfl) (A_ e_))
   (c_ (k_ (i:=5) nd rfl (Or.inl rfl) (pv 3))
   (c_ (Y_ PassesOwn.never rfl (M_ (by rfl) T.range (a_ (dC T.len (by rfl) (bX (pv 0) f_)) e_)) (q_ (i:=6) nd rfl (Or.inl rfl))
    (c_ (k_ (i:=7) nd rfl (Or.inl rfl) (o_ DF hr.mo (by rfl) (a_ (pv 0) (a_ (pv 1) (a_ (pv 2) (a_ (pv 4) (a_ (pv 5) e_)))))))
    (c_ (k_ (i:=4) nd rfl (Or.inl rfl) (p_ io (pv 4) (A_ (a_ (bX (pv 7) f_) e_))))
    (h_ (k_ (i:=5) nd rfl (Or.inl rfl) (bX (pv 7) f_))))))
   (h_ (n_ (o_ DN hr.mo (by rfl) (a_ (bX (pv 0) f_) (a_ (pv 4) e_)))))))),?_⟩
  refine⟨_,rfl,_,rfl,_,rfl,_,rfl,_,rfl,g,A',c,b,ps,ws,rfl,G,λH1 s1=>?_⟩
  refine⟨g,A',c,b,ps,ws,tl,bu,d,b ^ ps.sum,rfl,G.keep s1,s1 _ _ ci,ji,TA.keep s1,Z0 _,λH2 s2=>?_⟩
  have S2:=s1.trans s2
  refine⟨_,_,rfl,rfl,_,rfl,jB (λjb=>?_) (λoC=>?_)⟩
  ·exact k1 H2 S2 (of_decide_eq_true jb)
  have UK:¬ Mx.bF b d ps ws (b ^ ps.sum)<=(n:Int):=λz=>oC (decide_eq_true z)
  refine⟨sz (by decide),λh0 UN=>?_⟩
  have s3:=b_ (o:=.lst []) UN
  have u3:(upd H2 h0 (.lst [])) h0=some (.lst (ay (Ma.aI b 0 0 0))):=d_
  have S3:=S2.trans s3
  generalize upd H2 h0 (.lst [])=H3 at s3 u3 S3⊢
  have G3:=G.keep S3
  have fK:=ok.wl
  refine⟨_,rfl,_,rfl,_,_,_,_,rfl,rfl,bo.of G3.tp,rfl,c,_,rfl,.inl (af.of G3.hw),_,rfl,by rw[ZW];lia,by rw[ZW];lia,iR (n:=(((ws.map V.int).length:Nat):Int).toNat) (λi σ H4=>∃(h:Addr) (a r:Nat) (v6 v7:Option V),σ=[some (.ref g),some (.ref tl),some (.int d),some (.int n),some (.ref h),some (.int r),v6,v7]/\ag H H4/\H4 h=some (.lst (ay (Ma.aI b a i i)))/\a<b ^ i/\Mx.bF b d ps ws (a*b ^ (ps.sum-i))+r=n/\(n:Int)<Mx.bF b d ps ws (a*b ^ (ps.sum-i)+b ^ (ps.sum-i)))
   ⟨h0,0,n,none,none,rfl,S3,u3,by simp,by rw[a1J];show(0:Int)+n=n;lia,by rw[a1J,a2w,a1s];lia⟩ ?_ ?_⟩
  ·rintro i σ H4 hi ⟨h,a,r,v6,v7,rfl,s4,hh,ha,e1,e2⟩
   have dr:i<ps.sum:=by rw[ZW,fK] at hi;lia
   refine⟨_,rfl,_,rfl,_,rfl,_,rfl,_,rfl,g,A',c,b,ps,ws,tl,h,bu,a,i,d,r,rfl,G.keep s4,s4 _ _ ci,ji,TA.keep s4,hh,dr,ha,Mx.UG rfl dr e1 e2,λt fg r' H5 s5 ht UO h3 h4=>?_⟩
   refine⟨_,rfl,_,rfl,_,_,_,_,rfl,rfl,bo.of ht,rfl,sz (by simp),λq hq=>?_⟩
   have s6:=b_ (o:=.lst [V.int (fg:Int)]) hq
   have u6:(upd H5 q (.lst [V.int (fg:Int)])) q=_:=d_
   generalize upd H5 q (.lst [V.int (fg:Int)])=H6 at s6 u6⊢
   refine⟨h,q,_,_,rfl,rfl,s6 _ _ (s5 _ _ hh),u6,cq (by rw[ay,ZW,Ma.W_];lia),λz hz=>?_⟩
   have s7:=b_ (o:=.lst (ay (Ma.aI b a i i)++[V.int (fg:Int)])) hz
   refine⟨_,rfl,_,_,_,_,rfl,rfl,bo.of (s7 _ _ (s6 _ _ ht)),rfl,z,a*b+fg,r',_,_,rfl,s4.trans (s5.trans (s6.trans s7)),?_,?_,?_⟩
   ·rw[d_,Mg.zV b a fg i UO]
    simp[ay]
   ·rw[a1q]
    have:(a+1)*b<=b ^ i*b:=a0o _ ha
    rw[a0K,a2a] at this
    lia
   ·exact Mx.UF rfl dr e1 h3 h4
  ·rintro σ H4 ⟨h,a,r,v6,v7,rfl,s4,hh,ha,e1,e2⟩
   have el:(((ws.map V.int).length:Nat):Int).toNat=ps.sum:=by rw[ZW,fK];lia
   rw[el] at hh ha e1 e2
   rw[a1D,a1I,Nat.mul_one] at e1 e2
   rw[Mx.ph] at e2
   have G4:=G.keep s4
   refine⟨_,rfl,_,_,_,_,rfl,rfl,bo.of G4.tp,rfl,_,rfl,b,h,_,rfl,ok.dS,hh,?_⟩
   rw[Ma.Sg b0 ha]
   have:=Mx.IW b d ps ws a
   exact k2 a H4 s4 ha (by lia) (by lia)
end
def vC(K:PySem.W.Frag):Sp:=λvs H Q _=>∃(a:Addr) (ns:List Int),vs=[.ref a]/\af K H a (ns.map V.int)/\ns.length<=63/\∀H',Q (.bl true) H'
def mY(b:Nat)(ps:List Nat)(ws:List Int):PyData:=.tuple [.int b,.list ((ps.map λ(p:Nat)=>(p:Int)).map PyData.int),.list (ws.map PyData.int)]
theorem Az(b:Nat)(ps:List Nat)(ws:List Int):(mY b ps ws).canLay0=true:=by
 simp only[mY,PyData.canLay0,PyData.canLayAll0,Fp,a0X]
theorem AA(b:Nat)(ps:List Nat)(ws:List Int):(mY b ps ws).depth<=60:=by
 simp only[mY,PyData.depth,PyData.depthAll,Fq]
 decide
theorem aS.dat{P:Program}{w:World}{H:Hp}{f a c:Addr}{b:Nat}{ps:List Nat}{ws:List Int}(G:aS H f a c b ps ws):eV P w H (.ref f) (mY b ps ws) :=
 Ow G.tp (.cons (jC _) (.cons (kB G.hp (by rw[tO];exact x9 _)) (.cons (kB G.hw (x9 _)) .nil)))
section
variable{P:Program}{w:World}{K:PySem.W.Frag}{mg:Str->Option Value}{base:Heap}
end
end Hv
namespace Mx
open Me Mg Mu
theorem Jb{b:Nat}:∀ {gs:List (List (Int×Int))} {rows:List (List Int)},PySem.Paired (λg row=>List.Perm g (aW b row)) gs rows->∀F:List Int->Int,cw gs F=tr b rows F
 | _,_,.nil,_=>rfl
 | _,_,.cons r t,F=>by
  show tg _ _=tg _ _
  rw[IK r]
  exact T_ λx=>Jb t _
theorem UP{b:Nat}(hb:0<b){ps:List Nat}{ws:List Int}(lp:0<ps.length)(hw:ws.length=ps.sum){gs:List (List (Int×Int))}(h:PySem.Paired (λg row=>List.Perm g (aW b row)) gs (Ma.a9 ps ws))(ok:∀g∈gs,fe g)(d:Nat):mL gs d=bF b d ps ws (b ^ ps.sum):=by
 have hl:gs.length=ps.length:=by rw[h.length,Ma.iu]
 rw[IH (by lia) ok,Jb h,<-zW hb ps ws _ hw]
 rfl
theorem UQ{b:Nat}(hb:0<b){ps:List Nat}{ws:List Int}(lp:0<ps.length)(hw:ws.length=ps.sum){row:List Int}(h0:(Ma.a9 ps ws)[0]?=some row):cL (dE b (Ma.a9 ps ws) (keys (aW b row)))=bF b 0 ps ws (b ^ ps.sum):=by
 rw[<-Tb hb h0,<-Tj hb hw lp]
 rfl
theorem UR{b:Nat}(hb:1<=b)(l7:b<=16){row:List Int}(hw:∀x∈row,-9<=x/\x<=9)(hl:row.length<=6){g:List (Int×Int)}(h:g.Perm (aW b row)):fe g:=by
 have pe:=uL (b:=b) (ws:=row) hw l7
 have hk:(keys g).Perm (keys (aW b row)):=h.map _
 refine⟨by rw[hk.length_eq];exact zF hb row,hk.nodup_iff.mpr pe.nd,λk US=>?_,λt=>?_⟩
 ·have:=pe.bd k (hk.mem_iff.mp US)
  lia
 ·have e:=Ha h pe.nd t
  have:=G8 l7 hl (ws:=row) t
  unfold gv
  rw[e]
  exact this
end Mx
namespace Hv
open PySem L2
def rC:Sp:=λvs H Q _=>∃d:Nat,vs=[.int d]/\Q .aw H
def pi:Sp:=λvs H Q _=>∃f A c b ps ws,∃d k:Nat,vs=[.ref f,.int d,.int k]/\aS H f A c b ps ws/\(∀H':Hp,ag H H'->Mx.bF b d ps ws (b ^ ps.sum)<=k->Q .aw H')/\∀(m:Nat) (H':Hp),ag H H'->m<b ^ ps.sum->Mx.gc b d ps ws m=1->Mx.bF b d ps ws m=k->Q (.int m) H'
def Jc:Sp:=λvs H Q _=>∃f A c b ps ws,∃k:Nat,vs=[.ref f,.int k]/\aS H f A c b ps ws/\(∀H':Hp,ag H H'->Mx.bF b 0 ps ws (b ^ ps.sum)<=k->Q .aw H')/\∀(m:Nat) (H':Hp),ag H H'->m<b ^ ps.sum->Mx.gc b 0 ps ws m=1->Mx.bF b 0 ps ws m=k->Q (.int m) H'
section
variable{P:Program}{w:World}{K:PySem.W.Frag}{mg:Str->Option Value}{base:Heap}
theorem Jd:aQ ["thing"] ["thing"] (g_ tZ):=⟨rfl,rfl,rfl,by decide +kernel,rfl,by decide +kernel,by decide +kernel⟩
theorem Je{f:Addr}{fd:FuncData}(F:aG K "need_place" "need_place" tZ f fd)(D1:ak P w K mg base 1 "is_whole" ["thing"] ma):ax P w K mg base aK 2 f fd ["thing"] rC:=by
 refine F.ok Jd (λvs H Q E h=>?_) (λae A outer s H vs Q E hr h=>?_)
 ·obtain⟨d,rfl,_⟩:=h;rfl
 ·obtain⟨d,rfl,k⟩:=h
  refine⟨_,h_ (Z_ (PW.pt (gL (d9 (dP (o_ D1 hr (by rfl) (a_ (pv 0) e_)))) (ig (v_ nW (pv 0) f_ (bO _))))) O_ w_),?_⟩
  refine⟨_,rfl,.int d,rfl,.int _,_,rfl,aX ⟨_,rfl,_,_,rfl,rfl,_,rfl,?_⟩⟩
  have e:decide ((d:Int)<0)=false:=decide_eq_false (by lia)
  rw[e]
  exact aX k
theorem Jf:aQ ["frame","d","k"] ["frame","d","k"] (g_ uc):=⟨rfl,rfl,rfl,by decide +kernel,rfl,by decide +kernel,by decide +kernel⟩
theorem AB{f:Addr}{fd:FuncData}(F:aG K "near_by" "near_by" uc f fd)(D5:ak P w K mg base 5 "need_frame" ["thing"] G_)(DM:ak P w K mg base 2 "need_miss" ["thing"] mX)(D7:ak P w K mg base 2 "need_place" ["thing"] rC)
  (DT:ak P w K mg base 4 "tails_of_parts" ["frame"] Al) (DA:ak P w K mg base 11 "number_at" ["frame","tails_by_part","d","k"] Ay):ax P w K mg base aK 12 f fd ["frame","d","k"] pi:=by
 refine F.ok Jf (λvs H Q E h=>?_) (λae A outer s H vs Q E hr h=>?_)
 ·obtain⟨g,A,c,b,ps,ws,d,n,rfl,_⟩:=h;rfl
 ·obtain⟨g,A',c,b,ps,ws,d,n,rfl,G,k1,k2⟩:=h
  refine⟨_,c_ (C_ (o_ D5 hr.mo (by rfl) (a_ (pv 0) e_)))
   (c_ (C_ (o_ DM hr.mo (by rfl) (a_ (pv 1) e_)))
   (c_ (C_ (o_ D7 hr.mo (by rfl) (a_ (pv 2) e_)))
   (h_ (n_ (o_ DA hr (by rfl) (a_ (pv 0) (a_ (o_ DT hr.mo (by rfl) (a_ (pv 0) e_)) (a_ (pv 1) (a_ (pv 2) e_))))))))),?_⟩
  refine⟨_,rfl,g,A',c,b,ps,ws,rfl,G,λH1 s1=>⟨_,rfl,d,rfl,?_⟩⟩
  refine⟨_,rfl,n,rfl,?_⟩
  refine⟨_,rfl,_,rfl,g,A',c,b,ps,ws,rfl,G.keep s1,λp bu H3 hp s3 h3 ji TA=>?_⟩
  have S3:=s1.trans s3
  exact⟨_,rfl,_,rfl,g,A',c,b,ps,ws,p,bu,d,n,rfl,G.keep S3,h3,ji,TA,λH' s' h=>k1 H' (S3.trans s') h,λm H' s' h1 h2 h3=>k2 m H' (S3.trans s') h1 h2 h3⟩
theorem Jg:aQ ["frame","k"] ["frame","k"] (g_ ub):=⟨rfl,rfl,rfl,by decide +kernel,rfl,by decide +kernel,by decide +kernel⟩
theorem Jh{f:Addr}{fd:FuncData}(F:aG K "even_by" "even_by" ub f fd)(DB:ak P w K mg base 12 "near_by" ["frame","d","k"] pi):ax P w K mg base aK 13 f fd ["frame","k"] Jc:=by
 refine F.ok Jg (λvs H Q E h=>?_) (λae A outer s H vs Q E hr h=>?_)
 ·obtain⟨g,A,c,b,ps,ws,n,rfl,_⟩:=h;rfl
 ·obtain⟨g,A',c,b,ps,ws,n,rfl,G,k⟩:=h
  refine⟨_,h_ (n_ (o_ DB hr (by rfl) (a_ (pv 0) (a_ f_ (a_ (pv 1) e_))))),?_⟩
  exact⟨_,rfl,_,rfl,g,A',c,b,ps,ws,0,n,rfl,G,k⟩
end
def rD:Sp:=λvs H Q _=>∃f a c b ps ws,∃d:Nat,vs=[.ref f,.int d]/\aS H f a c b ps ws/\∀H',ag H H'->Q (.int (Mx.bF b d ps ws (b ^ ps.sum))) H'
def vD:Sp:=λvs H Q _=>∃f a c b ps ws,vs=[.ref f]/\aS H f a c b ps ws/\∀H',ag H H'->Q (.int (Mx.bF b 0 ps ws (b ^ ps.sum))) H'
theorem Ji{H:Hp}{b:Nat}:∀ {qs:List Addr} {rows:List (List Int)},oK H b qs rows->∃gs:List (List (Int×Int)),oO H qs gs/\Paired (λg row=>List.Perm g (Me.aW b row)) gs rows
 | _,_,.nil=>⟨[],.nil,.nil⟩
 | _,_,.cons r t=>by
  obtain⟨g,e,p⟩:=r
  obtain⟨gs,h1,h2⟩:=Ji t
  exact⟨g::gs,.cons e h1,.cons p h2⟩
theorem Jj{α β:Type}{F:α->β->Prop}:∀ {xs:List α} {ys:List β},Paired F xs ys->∀x∈xs,∃y,y∈ys/\F x y
 | _,_,.nil,_,h=>by simp at h
 | _,_,.cons r t,x,h=>by
  rcases ZZ.mp h with rfl | h
  ·exact⟨_,by simp,r⟩
  ·obtain⟨y,hy,e⟩:=Jj t x h
   exact⟨y,by simp[hy],e⟩
section
variable{P:Program}{w:World}{K:PySem.W.Frag}{mg:Str->Option Value}{base:Heap}
theorem Jk:aQ ["frame","d"] ["frame","d"] (g_ tW):=⟨rfl,rfl,rfl,by decide +kernel,rfl,by decide +kernel,by decide +kernel⟩
theorem Jl{f:Addr}{fd:FuncData}(F:aG K "count_near" "count_near" tW f fd)(D5:ak P w K mg base 5 "need_frame" ["thing"] G_)(DM:ak P w K mg base 2 "need_miss" ["thing"] mX)(DW:ak P w K mg base 3 "ways_of_parts" ["frame"] uZ)
  (DS:ak P w K mg base 2 "count_spread_within" ["ways_by_part","width"] vc):ax P w K mg base aK 6 f fd ["frame","d"] rD:=by
 refine F.ok Jk (λvs H Q E h=>?_) (λae A outer s H vs Q E hr h=>?_)
 ·obtain⟨g,a,c,b,ps,ws,d,rfl,_⟩:=h;rfl
 ·obtain⟨g,a,c,b,ps,ws,d,rfl,G,k⟩:=h
  have ok:=G.ok
  have b0:0<b:=by have:=ok.b2;lia
  have l2:=ok.l2
  have l4:=ok.l4
  refine⟨_,c_ (C_ (o_ D5 hr (by rfl) (a_ (pv 0) e_)))
   (c_ (C_ (o_ DM hr.mo (by rfl) (a_ (pv 1) e_)))
   (h_ (n_ (o_ DS hr.mo (by rfl) (a_ (o_ DW hr.mo (by rfl) (a_ (pv 0) e_)) (a_ (pv 1) e_)))))),?_⟩
  refine⟨_,rfl,g,a,c,b,ps,ws,rfl,G,λH1 s1=>⟨_,rfl,d,rfl,?_⟩⟩
  refine⟨_,rfl,g,a,c,b,ps,ws,rfl,G.keep s1,λp qs H2 s2 hp h2 wa=>?_⟩
  obtain⟨gs,wg,pg⟩:=Ji wa
  have gl:gs.length=ps.length:=by rw[pg.length,Ma.iu]
  have rB:∀g∈gs,Me.fe g:=λg hg=>by
   obtain⟨row,bU,perm⟩:=Jj pg g hg
   exact Mx.UR b0 ok.dS (λy hy=>ok.wr y (Ma.qx bU y hy)) (Ma.qy (λp hp=>(ok.pr p hp).2) bU) perm
  refine⟨_,rfl,p,qs,gs,d,rfl,h2,wg,by lia,by lia,rB,λH' s'=>?_⟩
  rw[Mx.UP b0 (by lia) ok.wl pg rB]
  exact k H' (s1.trans (s2.trans s'))
theorem UT:aQ ["frame"] ["frame"] (g_ yv):=⟨rfl,rfl,rfl,by decide +kernel,rfl,by decide +kernel,by decide +kernel⟩
theorem UU{f:Addr}{fd:FuncData}(F:aG K "count_even" "count_even" yv f fd)(T:Txt mg)(DE:ak P w K mg base 6 "even_by_sums" ["frame"] zA):ax P w K mg base aK 7 f fd ["frame"] vD:=by
 refine F.ok UT (λvs H Q E h=>?_) (λae A outer s H vs Q E hr h=>?_)
 ·obtain⟨g,a,c,b,ps,ws,rfl,_⟩:=h;rfl
 ·obtain⟨g,a,c,b,ps,ws,rfl,G,k⟩:=h
  have ok:=G.ok
  have b0:0<b:=by have:=ok.b2;lia
  have l2:=ok.l2
  refine⟨_,h_ (n_ (Q6 rfl T.sum (by rfl) (o_ DE hr (by rfl) (a_ (pv 0) e_)))),?_⟩
  refine⟨_,rfl,g,a,c,b,ps,ws,rfl,G,λp g' H1 hp s1 kO ⟨row,bU,perm⟩=>⟨p,_,g'.map (·.2),rfl,kO,(by simp[aJ]),?_⟩⟩
  have e:=Me.RP perm
  show Q (.int (Me.cL g')) H1
  rw[e,Mx.UQ b0 (by lia) ok.wl bU]
  exact k H1 s1
end
end Hv
namespace Mx
open Me Mg Mu
def Mk(e:Nat->Int):Prop:=∀i,e i=0\/e i=1
end Mx
namespace Ma
end Ma
namespace Mx
open Me Mg Mu
variable{b d e:Nat}{ps:List Nat}{ws:List Int}{m n:Nat}
theorem vE(h:m<=n):bF b d ps ws m<=bF b d ps ws n:=by
 have:=IX b d ps ws m (n-m)
 rw[show m+(n-m)=n by lia] at this
 exact this
theorem UV(h1:gc b d ps ws m=1)(h2:gc b d ps ws n=1)(h:bF b d ps ws m=bF b d ps ws n):m=n:=by
 have e1:=ph b d ps ws m
 have e2:=ph b d ps ws n
 rcases Nat.lt_trichotomy m n with z | z | z
 ·have:=vE (b:=b) (d:=d) (ps:=ps) (ws:=ws) (show m+1<=n by lia)
  lia
 ·exact z
 ·have:=vE (b:=b) (d:=d) (ps:=ps) (ws:=ws) (show n+1<=m by lia)
  lia
end Mx
namespace Hv
open PySem L2
end Hv
namespace Mx
open Me Mg Mu
variable{b d e:Nat}{ps:List Nat}{ws:List Int}{m n:Nat}
end Mx
namespace Hv
open PySem L2
theorem aS.AC{H H':Hp}{f a c st:Addr}{b:Nat}{ps:List Nat}{ws:List Int}(G:aS H f a c b ps ws)(S:bE H st)(ha:a≠st)(hc:c≠st)(k:Kp [st] H H'):aS H' f a c b ps ws:=by
 refine⟨k _ _ G.tp (λz=>?_),k _ _ G.hp (by simpa using ha),k _ _ G.hw (by simpa using hc),G.ok⟩
 have z':f=st:=by simpa using z
 obtain⟨x,y,w,e⟩:=S
 have:=G.tp
 rw[z',e] at this
 cases this
section
variable{H:Hp}{Q:VK}{E:XK}{f a c:Addr}{b d n k:Nat}{ps:List Nat}{ws:List Int}
def gA(b d:Nat)(ps:List Nat)(ws:List Int)(k:Nat)(v:V):Prop:=(v=.aw/\Mx.bF b d ps ws (b ^ ps.sum)<=k)\/∃m:Nat,v=.int m/\m<b ^ ps.sum/\Mx.gc b d ps ws m=1/\Mx.bF b d ps ws m=k
end
def Jm:Sp:=λvs H Q _=>∃(f a c:Addr) (b:Nat) (ps:List Nat) (ws:List Int) (d k:Nat),vs=[.ref f,.int d,.int k]/\aS H f a c b ps ws/\∀(v:V) (H':Hp),ag H H'->gA b d ps ws k v->Q v H'
def rE:Sp:=λvs H Q _=>∃(f a c:Addr) (b:Nat) (ps:List Nat) (ws:List Int) (k:Nat),vs=[.ref f,.int k]/\aS H f a c b ps ws/\∀(v:V) (H':Hp),ag H H'->gA b 0 ps ws k v->Q v H'
theorem UW(vs:List V)(H:Hp)(Q:VK)(E:XK)(h:Jm vs H Q E):pi vs H Q E:=by
 obtain⟨f,a,c,b,ps,ws,d,k,rfl,G,h⟩:=h
 exact⟨f,a,c,b,ps,ws,d,k,rfl,G,λH' s h0=>h .aw H' s (.inl ⟨rfl,h0⟩),λm H' s h1 h2 h3=>h (.int m) H' s (.inr ⟨m,rfl,h1,h2,h3⟩)⟩
theorem Jn(vs:List V)(H:Hp)(Q:VK)(E:XK)(h:rE vs H Q E):Jc vs H Q E:=by
 obtain⟨f,a,c,b,ps,ws,k,rfl,G,h⟩:=h
 exact⟨f,a,c,b,ps,ws,k,rfl,G,λH' s h0=>h .aw H' s (.inl ⟨rfl,h0⟩),λm H' s h1 h2 h3=>h (.int m) H' s (.inr ⟨m,rfl,h1,h2,h3⟩)⟩
section
variable{H:Hp}{Q:VK}{E:XK}{f a c:Addr}{b d n k:Nat}{ps:List Nat}{ws:List Int}
theorem gA.gt(h:(k:Int)<Mx.bF b d ps ws (b ^ ps.sum)){v:V}(q:gA b d ps ws k v):∃m:Nat,v=.int m/\m<b ^ ps.sum/\Mx.gc b d ps ws m=1/\Mx.bF b d ps ws m=k:=by
 rcases q with⟨_,z⟩ | q
 ·lia
 ·exact q
theorem gA.none(h:Mx.bF b d ps ws (b ^ ps.sum)<=(k:Int)){v:V}(q:gA b d ps ws k v):v=.aw:=by
 rcases q with⟨z,_⟩ | ⟨m,_,h1,h2,h3⟩
 ·exact z
 ·exfalso
  have e:=Mx.ph b d ps ws m
  have:=Mx.vE (b:=b) (d:=d) (ps:=ps) (ws:=ws) (show m+1<=b ^ ps.sum by lia)
  lia
theorem gA.self(hn:n<b ^ ps.sum)(hi:Mx.gc b d ps ws n=1)(hk:Mx.bF b d ps ws n=k){v:V}(q:gA b d ps ws k v):v=.int n:=by
 have e:=Mx.ph b d ps ws n
 have le:=Mx.vE (b:=b) (d:=d) (ps:=ps) (ws:=ws) (show n+1<=b ^ ps.sum by lia)
 obtain⟨m,rfl,h1,h2,h3⟩:=q.gt (by lia)
 rw[Mx.UV h2 hi (by lia)]
theorem gA.same{v u:V}(q:gA b d ps ws k v)(r:gA b d ps ws k u):v=u:=by
 rcases q with⟨z,y⟩ | ⟨m,rfl,h1,h2,h3⟩
 ·rw[z,r.none y]
 ·exact(r.self h1 h2 h3).symm
end
theorem iC{H H2 H3:Hp}{q:Addr}(s:ag H H2)(h:H q=none)(k:Kp [q] H2 H3):ag H H3:=λb o e=>k b o (s b o e) (λz=>by
 have z':b=q:=by simpa using z
 rw[z',h] at e;cases e)
structure PP(D:List Addr) where
 holds:Hp->V->Prop
 bA:∀H H' v,Kp D H H'->holds H v->holds H' v
abbrev Le{D:List Addr}(P P':PP D):Prop:=∀H v,P.holds H v->P'.holds H v
def aY(D:List Addr)(n w:Nat):PP D:=⟨λH v=>Th (Off D H) n w v,λ_ _ _ k h=>h.keep (jF k)⟩
def ao(D:List Addr)(lo hi:Int):PP D:=⟨λ_ v=>∃i,v=.int i/\lo<=i/\i<=hi,λ_ _ _ _ h=>h⟩
def kX(D:List Addr)(a:Addr):PP D:=⟨λ_ v=>v=.ref a,λ_ _ _ _ h=>h⟩
def aN{D:List Addr}(lo hi:Nat)(It:PP D):PP D:=⟨λH v=>∃a xs,v=.ref a/\H a=some (.lst xs)/\a∉D/\lo<=xs.length/\xs.length<=hi/\∀x∈xs,It.holds H x,
 λ_ _ _ k ⟨a,xs,e,h,n,l1,l2,it⟩=>⟨a,xs,e,k _ _ h n,n,l1,l2,λx hx=>It.bA _ _ _ k (it x hx)⟩⟩
def Cp{D:List Addr}(ps:List (Option (PP D)))(σ:St)(H:Hp):Prop:=Paired (λ(q:Option (PP D)) (o:Option V)=>∀P,q=some P->∃v,o=some v/\P.holds H v) ps σ
theorem Cp.bA{D:List Addr}{H H':Hp}(k:Kp D H H'):∀ {ps:List (Option (PP D))} {σ:St},Cp ps σ H->Cp ps σ H'
 | _,_,.nil=>.nil
 | _,_,.cons h t=>.cons (λP e=>let ⟨v,a,b⟩:=h P e;⟨v,a,P.bA _ _ _ k b⟩) (Cp.bA k t)
theorem Cp.get{D:List Addr}{H:Hp}:∀ {ps:List (Option (PP D))} {σ:St} {i:Nat} {P:PP D},Cp ps σ H->ps[i]?=some (some P)->∃v,σ[i]?=some (some v)/\P.holds H v
 | _,_,_,_,.nil,e=>by simp at e
 | _,_,0,P,.cons h _,e=>by
  simp at e
  obtain⟨v,a,b⟩:=h P e
  exact⟨v,by simp[a],b⟩
 | _,_,i+1,P,.cons _ t,e=>by
  obtain⟨v,a,b⟩:=Cp.get (i:=i) (P:=P) t (by simpa using e)
  exact⟨v,by simpa using a,b⟩
theorem Cp.set{D:List Addr}{H:Hp}{P:PP D}{v:V}(hv:P.holds H v):∀ {ps:List (Option (PP D))} {σ:St} {i:Nat},Cp ps σ H->Cp (ps.set i (some P)) (σ.set i (some v)) H
 | _,_,_,.nil=>.nil
 | _,_,0,.cons _ t=>.cons (λP' e=>by cases e;exact⟨v,rfl,hv⟩) t
 | _,_,i+1,.cons h t=>.cons h (Cp.set hv t)
section
variable{X:Cx}{d:Addr}{ps:List (Option (PP [d]))}
def tT(d:Addr)(ps:List (Option (PP [d])))(P:PP [d]):TE:=fun σ H Q=>Cp ps σ H/\bE H d/\∀v H',bE H' d->Kp [d] H H'->P.holds H' v->Q v H'
def kY(d:Addr)(ps:List (Option (PP [d])))(m:Nat)(It:PP [d]):TA:=fun σ H Q=>Cp ps σ H/\bE H d/\∀vs H',bE H' d->Kp [d] H H'->vs.length=m->(∀v∈vs,It.holds H' v)->Q vs H'
def pw(d:Addr)(ps:List (Option (PP [d]))):TO:=fun σ H Q=>Cp ps σ H/\∀o,Q o H
abbrev ET(X:Cx)(d:Addr)(ps:List (Option (PP [d])))(e:Expr)(P:PP [d]):Prop:=PE X e (tT d ps P)
theorem weak{e:Expr}{t t':TE}(h:PE X e t)(w:∀ σ H Q,t' σ H Q->t σ H Q):PE X e t':=λaa s σ H Q I q=>h aa s σ H Q I (w σ H Q q)
theorem bS{e:Expr}{t:TE}{P:PP [d]}(h:PE X e t)(w:∀ σ H Q,Cp ps σ H->bE H d->(∀v H',bE H' d->Kp [d] H H'->P.holds H' v->Q v H')->t σ H Q):ET X d ps e P:=λaa s σ H Q I q=>h aa s σ H Q I (w σ H Q q.1 q.2.1 q.2.2)
theorem Jo{es:List Expr}{t:TA}{m:Nat}{It:PP [d]}(h:PA X es t)(w:∀ σ H Q,Cp ps σ H->bE H d->(∀vs H',bE H' d->Kp [d] H H'->vs.length=m->(∀v∈vs,It.holds H' v)->Q vs H')->t σ H Q):PA X es (kY d ps m It):=λpos aa s σ H Q I q=>h pos aa s σ H Q I (w σ H Q q.1 q.2.1 q.2.2)
theorem vF{e:Option Expr}{t t':TO}(h:PO X e t)(w:∀ σ H Q,t' σ H Q->t σ H Q):PO X e t':=λaa s σ H Q I q=>h aa s σ H Q I (w σ H Q q)
variable{e a b:Expr}{es:List Expr}{pos:Pos}{P P':PP [d]}
theorem aF(h:ET X d ps e P)(l:Le P P'):ET X d ps e P':=bS h λ_ _ _ c k q=>⟨c,k,λv H' D' k' hv=>q v H' D' k' (l _ _ hv)⟩
theorem iD{v:V}(h:PE X e (tC v))(hv:∀H,P.holds H v):ET X d ps e P:=bS h λ_ H _ c k q=>q v H k Kp.refl (hv H)
theorem m_(i:Nat)(h:PE X e (lJ i))(hi:ps[i]?=some (some P):=by rfl):ET X d ps e P:=bS h fun σ H Q c k q=>by
 obtain⟨v,e1,e2⟩:=c.get hi
 exact⟨v,e1,q v H k Kp.refl e2⟩
theorem kZ{It:PP [d]}{l1 h1 l2 h2:Nat}(ha:ET X d ps a (aN l1 h1 It))(hb:ET X d ps b (aN l2 h2 It))(hz:h1+h2<=100000:=by decide):ET X d ps (.BinOp a .Add b pos) (aN (l1+l2) (h1+h2) It) :=
 bS (p_ io ha hb) fun σ H Q c k q=>by
  refine⟨c,k,λv1 H1 D1 k1 p1=>⟨c.bA k1,D1,λv2 H2 D2 k2 p2=>?_⟩⟩
  obtain⟨x,xs,rfl,hx,nx,a1,a2,iE⟩:=(aN l1 h1 It).bA _ _ _ k2 p1
  obtain⟨y,ys,rfl,hy,ny,b1,b2,UX⟩:=p2
  refine⟨x,y,xs,ys,rfl,rfl,hx,hy,sz (by lia),λz aR=>q _ _ (D2.keep (b_ aR)) ((k1.trans k2).same (b_ aR)) ⟨z,xs++ys,rfl,d_,D2.cc aR,by rw[a0j];lia,by rw[a0j];lia,λu hu=>?_⟩⟩
  have kk:Kp [d] H2 (upd H2 z (.lst (xs++ys))):=Kp.of (b_ aR)
  rcases a0s.mp hu with hu | hu
  ·exact It.bA _ _ _ kk (iE u hu)
  ·exact It.bA _ _ _ kk (UX u hu)
theorem mZ:PO X none (pw d ps):=vF nZ λ_ _ _ ⟨_,q⟩=>q none
theorem AD(i:Nat){l1 h1:Int}(h:PE X e (lJ i))(hi:ps[i]?=some (some (ao _ l1 h1)):=by rfl):PO X (some e) (pw d ps):=vF (gQ h) fun σ H Q ⟨c,q⟩=>by
 obtain⟨v,e1,j,rfl,_⟩:=c.get hi
 exact⟨_,e1,j,rfl,q _⟩
theorem AE(i:Nat){l1 h1 n:Int}(h:PE X a (lJ i))(h':PE X b (tC (.int n)))(hi:ps[i]?=some (some (ao _ l1 h1)):=by rfl):PO X (some (.BinOp a .Add b pos)) (pw d ps):=vF (gQ (p_ K_ h h')) fun σ H Q ⟨c,q⟩=>by
 obtain⟨v,e1,j,rfl,_⟩:=c.get hi
 exact⟨_,e1,j,n,rfl,rfl,_,rfl,q _⟩
def Jp:Expr->Bool
 | .Starred ..=>false
 | _=>true
theorem jU{e:Expr}{es:List Expr}{env:Env}(h:Jp e=true):starEach (e::es) env=(false,eval e env)::starEach es env:=by
 cases e <;> first | rfl | (simp[Jp] at h)
theorem X_{It:PP [d]}:PA X [] (kY d ps 0 It):=Jo e_ λ_ H _ c k q=>q [] H k Kp.refl rfl (λ_ h=>by simp at h)
theorem j_{It:PP [d]}{m:Nat}(ha:ET X d ps e It)(hr:PA X es (kY d ps m It))(hs:starEach (e::es) X.env=(false,eval e X.env)::starEach es X.env:=by exact jU rfl):PA X (e::es) (kY d ps (m+1) It) :=
 Jo (a_ ha hr hs) fun σ H Q c k q=>by
  refine⟨c,k,λv1 H1 D1 k1 p1=>⟨c.bA k1,D1,λvs H2 D2 k2 hl p2=>q _ _ D2 (k1.trans k2) (by simp[hl]) λv hv=>?_⟩⟩
  rcases ZZ.mp hv with rfl | hv
  ·exact It.bA _ _ _ k2 p1
  ·exact p2 v hv
theorem cD{It:PP [d]}{m:Nat}(h:PA X es (kY d ps m It))(hm:m<=100000:=by decide):ET X d ps (.List es pos) (aN m m It):=bS (A_ h) fun σ H Q c k q=>by
 refine⟨c,k,λvs H1 D1 k1 hl p1=>⟨sz (by lia),λz aR=>q _ _ (D1.keep (b_ aR)) (k1.same (b_ aR)) ⟨z,vs,rfl,d_,D1.cc aR,by lia,by lia,λu hu=>?_⟩⟩⟩
 exact It.bA _ _ _ (Kp.of (b_ aR)) (p1 u hu)
theorem vG{l1 h1 n w n' w':Nat}(hn:n+1<=n':=by decide)(hw:h1*(w+1)<=w':=by decide):Le (D:=[d]) (aN l1 h1 (aY _ n w)) (aY _ n' w'):=λH v ⟨a,xs,e,h,na,_,l2,it⟩=>by
 subst e
 exact(Th.lst (V_ h na) it l2).mono hn hw
theorem AG{lo hi:Int}{n w:Nat}(h1 : -10000000000000000000000000<=lo:=by decide)(h2:hi<=10000000000000000000000000:=by decide)(hn:1<=n:=by decide)(hw:100<=w:=by decide):Le (D:=[d]) (ao _ lo hi) (aY _ n w):=λH v ⟨i,e,a,b⟩=>by
 subst e
 have k8 : (10 : Nat) ^ 25 = 10000000000000000000000000 := by decide
 exact(Th.int (by lia)).mono hn hw
theorem jV{It:PP [d]}{l1 h1:Nat}{j:Int}(ha:ET X d ps a (aN l1 h1 It))(hb:ET X d ps b (ao _ 0 j))(hj:j<l1:=by decide)(hs:oa b:=by intro _ _;rfl):ET X d ps (.Subscript a b pos) It :=
 bS (cg ha hb hs) fun σ H Q c k q=>by
  refine⟨c,k,λv1 H1 D1 k1 p1=>⟨c.bA k1,D1,λv2 H2 D2 k2 p2=>?_⟩⟩
  obtain⟨x,xs,rfl,hx,nx,a1,a2,iE⟩:=(aN l1 h1 It).bA _ _ _ k2 p1
  obtain⟨i,rfl,i0,i1⟩:=p2
  obtain⟨v,ev,hv⟩:=yh (xs:=xs) (Pr:=It.holds H2) i0 (by lia) iE
  exact eY hx ev (q _ _ D2 (k1.trans k2) hv)
theorem fk{x:Str}{q1:Pos}{kl:Nat}{n:Int}(D1:ak X.prog X.w X.K X.mg X.base kl x ["store","many"] F_)(hr:aM kl X.A)(hg:Gl X x)(ha:ET X d ps a (kX _ d))(hb:ET X d ps b (ao _ n n))(h0:0<n:=by decide)(h1:n<1073741824:=by decide)(dL:(x==("__debug__":Str))=false:=by decide)
  (hs:starEach [a,b] X.env=(false,eval a X.env)::starEach [b] X.env:=by rfl) (df:starEach [b] X.env=(false,eval b X.env)::starEach [] X.env:=by rfl) (hpl:(backTo pos (starEach [b] X.env)).any (·.1)=false:=by rfl) :
  ET X d ps (.Call (.Name x q1) [a,b] [] pos) (ao _ 0 (n-1)) :=
 bS (o_ D1 hr hg (a_ ha (a_ hb e_ df) hs) dL hs hpl) fun σ H Q c k q=>by
  refine⟨c,k,λv1 H1 D1 k1 p1=>⟨c.bA k1,D1,λv2 H2 D2 k2 p2=>?_⟩⟩
  obtain⟨m,rfl,m0,m1⟩:=p2
  have em:m=n:=by lia
  subst em
  cases (show v1=.ref d from p1)
  exact⟨d,m,rfl,D2,h0,h1,λr H3 r0 r1 D3 k3=>q _ _ D3 ((k1.trans k2).trans k3) ⟨r,rfl,r0,by lia⟩⟩
end
section
variable{X:Cx}{d:Addr}{ps:List (Option (PP [d]))}{e a b:Expr}{es:List Expr}{pos:Pos}
theorem AH{α:Type}{xs:List α}{x:α}:∀ {k:Nat},x∈(List.replicate k xs).flatten->x∈xs
 | 0,h=>by simp at h
 | k+1,h=>by
  rw[a0E,a1l] at h
  rcases a0s.mp h with h | h
  ·exact h
  ·exact AH h
theorem UY{It:PP [d]}{l1 h1:Nat}{j:Int}(ha:ET X d ps a (aN l1 h1 It))(hb:ET X d ps b (ao _ 0 j))(hz:h1*j.toNat<=100000:=by decide)(hj:j<=1000:=by decide):ET X d ps (.BinOp a .Mult b pos) (aN 0 (h1*j.toNat) It) :=
 bS (p_ sV ha hb) fun σ H Q c k q=>by
  refine⟨c,k,λv1 H1 D1 k1 p1=>⟨c.bA k1,D1,λv2 H2 D2 k2 p2=>?_⟩⟩
  obtain⟨x,xs,rfl,hx,nx,a1,a2,iE⟩:=(aN l1 h1 It).bA _ _ _ k2 p1
  obtain⟨i,rfl,i0,i1⟩:=p2
  have hm:xs.length*i.toNat<=h1*j.toNat:=Nat.mul_le_mul a2 (by lia)
  refine⟨x,i,xs,rfl,rfl,hx,by lia,by lia,sz (by lia),λz aR=>q _ _ (D2.keep (b_ aR)) ((k1.trans k2).same (b_ aR)) ⟨z,_,rfl,d_,D2.cc aR,a0w _,?_,λu hu=>?_⟩⟩
  ·rw[sU,a0H];exact hm
  ·exact It.bA _ _ _ (Kp.of (b_ aR)) (iE u (AH hu))
theorem AI{It:PP [d]}{l1 h1:Nat}{n:Nat}(ha:ET X d ps a (aN l1 h1 It))(hb:PE X b (tC (.int (n:Int))))(hz:h1*n<=100000:=by decide)(hj:n<=1000:=by decide):ET X d ps (.BinOp a .Mult b pos) (aN (l1*n) (h1*n) It) :=
 bS (p_ sV ha hb) fun σ H Q c k q=>by
  refine⟨c,k,λv1 H1 D1 k1 p1=>?_⟩
  obtain⟨x,xs,rfl,hx,nx,a1,a2,iE⟩:=p1
  have hm:xs.length*n<=h1*n:=a0o _ a2
  have dB:l1*n<=xs.length*n:=a0o _ a1
  have en:((n:Nat):Int).toNat=n:=by lia
  refine⟨x,n,xs,rfl,rfl,hx,by lia,by lia,sz (by rw[en];lia),λz aR=>q _ _ (D1.keep (b_ aR)) (k1.same (b_ aR)) ⟨z,_,rfl,d_,D1.cc aR,?_,?_,λu hu=>?_⟩⟩
  ·rw[sU,en,a0H n];exact dB
  ·rw[sU,en,a0H n];exact hm
  ·exact It.bA _ _ _ (Kp.of (b_ aR)) (iE u (AH hu))
theorem J_{i:Int}{j:_}:ET X d ps (.Constant (.int i) j pos) (ao _ i i):=iD f_ λ_=>⟨i,rfl,a0L _,a0L _⟩
theorem jW{i:Int}{j:_}{q1:Pos}:ET X d ps (.UnaryOp .USub (.Constant (.int i) j q1) pos) (ao _ (-i) (-i)):=bS (fE fI f_) fun σ H Q c k q=>⟨i,rfl,q _ H k Kp.refl ⟨-i,rfl,a0L _,a0L _⟩⟩
theorem Th.Jq{H:Hp}{i:Int}(h:i.natAbs<=10 ^ 25):Th H 0 90 (.int i):=by
 obtain⟨dd,t,g⟩:=Th.int (H:=H) h
 cases t
 refine⟨_,.int i,g.sh,g.lv,by show(0:Nat)<=0;decide,?_⟩
 have hl:i.natAbs.log2<84:=by
  by_cases h0:i.natAbs=0
  ·rw[h0];decide
  ·exact(Nat.log2_lt h0).mpr (a1v h (by decide))
 simp only[PyData.weight]
 split <;> lia
theorem jj{lo hi:Int}(h1 : -10000000000000000000000000<=lo:=by decide)(h2:hi<=10000000000000000000000000:=by decide):Le (D:=[d]) (ao _ lo hi) (aY _ 0 90):=λH v ⟨i,e,a,b⟩=>by
 subst e
 have k8 : (10 : Nat) ^ 25 = 10000000000000000000000000 := by decide
 exact Th.Jq (by lia)
theorem pz{l1 h1 l2 h2:Int}(ha:ET X d ps a (ao _ l1 h1))(hb:ET X d ps b (ao _ l2 h2)):ET X d ps (.BinOp a .Add b pos) (ao _ (l1+l2) (h1+h2)):=bS (p_ K_ ha hb) fun σ H Q c k q=>by
 refine⟨c,k,λv1 H1 D1 k1 p1=>⟨c.bA k1,D1,λv2 H2 D2 k2 p2=>?_⟩⟩
 obtain⟨i,rfl,x1,x2⟩:=p1
 obtain⟨j,rfl,y1,y2⟩:=p2
 exact⟨i,j,rfl,rfl,q _ _ D2 (k1.trans k2) ⟨_,rfl,by lia,by lia⟩⟩
theorem m9{l1 h1 l2 h2:Int}(ha:ET X d ps a (ao _ l1 h1))(hb:ET X d ps b (ao _ l2 h2)):ET X d ps (.BinOp a .Sub b pos) (ao _ (l1-h2) (h1-l2)):=bS (p_ fF ha hb) fun σ H Q c k q=>by
 refine⟨c,k,λv1 H1 D1 k1 p1=>⟨c.bA k1,D1,λv2 H2 D2 k2 p2=>?_⟩⟩
 obtain⟨i,rfl,x1,x2⟩:=p1
 obtain⟨j,rfl,y1,y2⟩:=p2
 exact⟨i,j,rfl,rfl,q _ _ D2 (k1.trans k2) ⟨_,rfl,by lia,by lia⟩⟩
theorem vH{j1 j2:_}{q1 q2:Pos}:ET X d ps (.BinOp (.Constant (.int 10) j1 q1) .Pow (.Constant (.int 25) j2 q2) pos) (ao _ 10000000000000000000000000 10000000000000000000000000):=bS (p_ xv f_ f_) fun σ H Q c k q =>
 ⟨10,25,rfl,rfl,⟨by decide,by decide,by decide⟩,q _ H k Kp.refl ⟨_,rfl,by decide,by decide⟩⟩
theorem UZ{xs:List V}{lo hi:Int}(h:∀x∈xs,∃i,x=V.int i/\lo<=i/\i<=hi):∃ns:List Int,xs=ns.map V.int/\∀n∈ns,lo<=n/\n<=hi:=by
 induction xs with
 | nil=>exact⟨[],rfl,λn hn=>by simp at hn⟩
 | cons x r ih =>
  obtain⟨i,rfl,h1⟩:=h x (by simp)
  obtain⟨ns,rfl,h2⟩:=ih λy hy=>h y (Z5 _ hy)
  refine⟨i::ns,rfl,λn hn=>?_⟩
  rcases ZZ.mp hn with rfl | hn
  ·exact h1
  ·exact h2 n hn
theorem Jr{B:Int}:∀ {ns:List Int},(∀n∈ns,n<=B)->ns.sum<=ns.length*B
 | [],_=>by simp
 | n::r,h=>by
  have h1:=h n a0t
  have h2:=Jr (ns:=r) λm hm=>h m (Z5 _ hm)
  rw[a0r,a0k]
  push_cast
  rw[a2F,a1G]
  lia
theorem U3{l1 h1:Nat}{lo hi:Int}{q1 q2 q3 q4:Pos}{j:_}(hc:X.calm=true)(hg:Gl X "sum")(hm:X.mg "sum"=none)(qu:Gl X "max")(dB:X.mg "max"=none)(ha:ET X d ps a (aN l1 h1 (ao _ lo hi)))(jA : -1000<=lo:=by decide)(vI:0<=hi/\hi<=1000:=by decide)(hh:h1<=100:=by decide)
  (hs:starEach [a] X.env=(false,eval a X.env)::starEach [] X.env:=by rfl)
  (df:starEach [.Constant (.int 0) j q1,.Call (.Name "sum" q2) [a] [] q3] X.env=(false,eval (.Constant (.int 0) j q1) X.env)::starEach [.Call (.Name "sum" q2) [a] [] q3] X.env:=by rfl)
  (AJ:starEach [.Call (.Name "sum" q2) [a] [] q3] X.env=(false,eval (.Call (.Name "sum" q2) [a] [] q3) X.env)::starEach [] X.env:=by rfl)
  (kO:(backTo q3 (starEach [] X.env)).any (·.1)=false:=by rfl) (cO:(backTo pos (starEach [.Call (.Name "sum" q2) [a] [] q3] X.env)).any (·.1)=false:=by rfl) :
  ET X d ps (.Call (.Name "max" q4) [.Constant (.int 0) j q1,.Call (.Name "sum" q2) [a] [] q3] [] pos) (ao _ 0 (h1*hi)) :=
 bS (r_ (xx hc) qu dB boot_max (a_ f_ (a_ (r_ (x6 hc) hg hm boot_sum (a_ ha e_ hs) (he:=hs) (hpl:=kO)) e_ AJ) df) (he:=df) (hpl:=cO)) fun σ H Q c k q=>by
  refine⟨c,k,λv1 H1 D1 k1 p1=>?_⟩
  obtain⟨x,xs,rfl,hx,nx,a1,a2,iE⟩:=p1
  obtain⟨ns,rfl,gR⟩:=UZ iE
  rw[ZW] at a2
  have hs:=Jr (ns:=ns) (B:=hi) λn hn=>(gR n hn).2
  have hb:(ns.length:Int)*hi<=(h1:Int)*hi:=Int.mul_le_mul_of_nonneg_right (by lia) vI.1
  have h0:0<=(h1:Int)*hi:=Int.mul_nonneg (by lia) vI.1
  refine⟨x,ns,rfl,af.of hx,⟨by lia,λn hn=>by have:=gR n hn;lia⟩,0,ns.sum,rfl,q _ _ D1 k1 ⟨_,rfl,?_,?_⟩⟩
  ·split <;> lia
  ·split <;> lia
end
end Hv
namespace L2
open PySem PySem.Spec PyProof.Rows
section
variable{X:Cx}
end
theorem uO{xs:List V}{k:Nat}:cU xs none (some (k:Int))=xs.take k:=by
 unfold cU
 rw[HT.sO,HT.qe,a2A,a1s]
 rcases a2v k xs.length with h | h
 ·rw[a1n h]
 ·rw[a2l h,a0v (Z0 _),a0v h]
theorem U5{X:Cx}{st:Stmt}{t:TS}(h:PS X st t):PS X st (λD σ H=>∃I:St->Hp->Prop,t {D with nx:=I} σ H/\∀ az H',I az H'->D.nx az H'):=λaa s σ H D I0 ⟨I,ht,hI⟩=>au (h aa s σ H _ I0 ht) λf s' hf=>by
 cases f with
 | next=>obtain⟨az,H',i,q⟩:=hf;exact⟨az,H',i,hI _ _ q⟩
 | brk=>exact hf
 | cont=>exact hf
 | ret u=>exact hf
end L2
namespace Hv
open PySem L2
def aq(D:List Addr)(lo hi:Int):PP D:=⟨λH v=>Th (Off D H) 1 100 v/\cC v lo hi=false,λ_ _ _ k h=>⟨h.1.keep (jF k),h.2⟩⟩
def aA(D:List Addr)(L:Nat)(lo hi:Int):PP D:=⟨λH v=>∃a xs,v=.ref a/\H a=some (.lst xs)/\a∉D/\xs.length<=L/\(∀x∈xs,Th (Off D H) 1 100 x)/\∃x∈xs,cC x lo hi=false,
 λ_ _ _ k ⟨a,xs,e,h,n,l,it,z⟩=>⟨a,xs,e,k _ _ h n,n,l,λx hx=>(it x hx).keep (jF k),z⟩⟩
def aL(D:List Addr)(L:Nat)(φ:List Int->Prop):PP D:=⟨λH v=>∃a ns,v=.ref a/\H a=some (.lst (ns.map V.int))/\a∉D/\ns.length<=L/\(∀n∈ns,-1000<=n/\n<=1000)/\φ ns,
 λH H' v k h=>by obtain⟨a,ns,e,h,n,r⟩:=h;exact⟨a,ns,e,k _ _ h n,n,r⟩⟩
def cZ(D:List Addr)(n w:Nat)(φ:PyData->Prop):PP D:=⟨λH v=>∃dd,Tree (Off D H) v dd/\GD n w dd/\φ dd,λ_ _ _ k ⟨dd,t,r⟩=>⟨dd,t.keep (jF k),r⟩⟩
def gB(n:Nat)(z:PyData):Prop:=(eZ (-9) 9 z&&decide ((eJ z:Int)=(n:Int)))=false
def iF(y:PyData):Prop:=(eZ 1 6 y&&(decide (2<=eJ y)&&decide (eJ y<=4)))=false
def jk(d:PyData):Prop:=u_ d=false
theorem _root_.L2.GD.up{n w n' w':Nat}{d:PyData}(g:GD n w d)(h1:n<=n')(h2:w<=w'):GD n' w' d:=⟨g.sh,g.lv,Z9 g.dp h1,Z9 g.wt h2⟩
theorem vJ{D:List Addr}{n w n' w':Nat}{φ ψ:PyData->Prop}(hn:n<=n')(hw:w<=w')(h:∀d,φ d->ψ d):Le (cZ D n w φ) (cZ D n' w' ψ):=λH v ⟨dd,t,g,z⟩=>⟨dd,t,g.up hn hw,h _ z⟩
theorem pA{ns:List Int}(h:∀n∈ns,-1000<=n/\n<=1000){L:Nat}(hl:ns.length<=L):GD 1 (L*91) (.list (ns.map PyData.int)):=by
 have aP:∀ms:List Int,(∀n∈ms,-1000<=n/\n<=1000)->PyData.showableAll (ms.map PyData.int)=true/\PyData.leavesShortAll 40 (ms.map PyData.int)=true/\PyData.depthAll (ms.map PyData.int)<=0:=by
  intro ms
  induction ms with
  | nil=>exact λ_=>⟨rfl,rfl,Z0 _⟩
  | cons m r ih =>
   intro hm
   obtain⟨a1,a2,a3⟩:=ih λn hn=>hm n (Z5 _ hn)
   have hb:=hm m a0t
   obtain⟨dd, t, g⟩ := Th.Jq (H := λ_ => none) (i := m) (by have k8 : (10 : Nat) ^ 25 = 10000000000000000000000000 := by decide
                                                            lia)
   cases t
   refine⟨?_,?_,?_⟩
   ·simp only[a0f,PyData.showableAll,g.sh,a1,a0X]
   ·simp only[a0f,PyData.leavesShortAll,g.lv,a2,a0X]
   ·simp only[a0f,PyData.depthAll];have:=g.dp;lia
 obtain⟨a1,a2,a3⟩:=aP ns h
 have hw:=uw (ns:=ns) h
 refine⟨?_,?_,?_,?_⟩
 ·simpa only[PyData.showable] using a1
 ·simpa only[PyData.leavesShort] using a2
 ·simp only[PyData.depth];lia
 ·simp only[PyData.weight];exact Z9 hw (a0o _ hl)
theorem Js(ns:List Int):oA (.list (ns.map PyData.int))=ns.sum:=by
 simp only[oA,a1B]
 have e0:(gU∘PyData.int)=(id:Int->Int):=funext λ_=>rfl
 rw[e0,List.map_id]
theorem Jt(ns:List Int):eJ (.list (ns.map PyData.int))=ns.length:=by simp[eJ]
theorem AK{D:List Addr}{L n' w':Nat}{φ:List Int->Prop}{ψ:PyData->Prop}(h:∀ns,φ ns->ψ (.list (ns.map PyData.int)))(hn:1<=n':=by decide)(hw:L*91<=w':=by decide):Le (aL D L φ) (cZ D n' w' ψ):=λH v ⟨a,ns,e,ha,na,l,b,z⟩=>by
 subst e
 exact⟨_,.lst (V_ ha na) (Q_ ns),(pA b l).up hn hw,h ns z⟩
theorem pB{D:List Addr}{L n' w':Nat}{φ:List Int->Prop}(hn:1<=n':=by decide)(hw:L*91<=w':=by decide):Le (aL D L φ) (aY D n' w'):=λH v h=>by
 obtain⟨dd,t,g,_⟩:=AK (ψ:=λ_=>True) (λ_ _=>trivial) hn hw H v h
 exact⟨dd,t,g⟩
theorem rF{D:List Addr}{L:Nat}{φ:List Int->Prop}:Le (aL D L φ) (aN 0 L (aY D 1 100)):=λH v ⟨a,ns,e,ha,na,l,b,z⟩=>⟨a,_,e,ha,na,a0w _,by rw[ZW];exact l,λx hx=>by
 obtain⟨n,hn,rfl⟩:=a0a.mp hx
 have:=b n hn
 have k8 : (10 : Nat) ^ 25 = 10000000000000000000000000 := by decide
 exact Th.int (by lia)⟩
theorem rG{D:List Addr}{L n' w':Nat}{lo hi:Int}{ψ:PyData->Prop}(h:∀d,eZ lo hi d=false->ψ d)(hn:2<=n':=by decide)(hw:L*101<=w':=by decide):Le (aA D L lo hi) (cZ D n' w' ψ):=λH v ⟨a,xs,e,ha,na,l,it,x,hx,hb⟩=>by
 subst e
 obtain⟨ds,ts,h1,h2,h3,h4⟩:=jG it
 refine⟨.list ds,.lst (V_ ha na) ts,⟨?_,?_,?_,?_⟩,h _ ?_⟩
 ·simpa only[PyData.showable] using h1
 ·simpa only[PyData.leavesShort] using h2
 ·simp only[PyData.depth];lia
 ·simp only[PyData.weight]
  exact Z9 h4 (Z9 (a0o _ l) hw)
 ·show ds.all (gu lo hi)=false
  rw[<-yZ ts,List.all_eq_false]
  exact⟨x,hx,by rw[hb];decide⟩
theorem rH{n:Nat}{d:PyData}(h:eZ (-9) 9 d=false):gB n d:=by unfold gB;rw[h];rfl
theorem rJ{d:PyData}(h:eZ 1 6 d=false):iF d:=by unfold iF;rw[h];rfl
theorem vK{lo hi:Int}{d:PyData}(h:qG d=false):eZ lo hi d=false:=by cases d <;> first | rfl | simp[qG] at h
section
variable{X:Cx}{d:Addr}{ps:List (Option (PP [d]))}{e a b c:Expr}{es:List Expr}{pos:Pos}
theorem Ju{j:_}:ET X d ps (.Constant .none j pos) (cZ _ 3 7300 λy=>qG y=false):=iD ic λ_=>⟨_,.aw,⟨rfl,rfl,by decide,by decide⟩,rfl⟩
theorem ZK:ET X d ps (.Dict [] [] pos) (cZ _ 3 7300 λy=>qG y=false):=bS mj fun σ H Q c k q=>λz aR=>q _ _ (k.keep (b_ aR)) (Kp.of (b_ aR)) ⟨_,.emp (V_ d_ (k.cc aR)),⟨by decide +kernel,by decide +kernel,by decide,by decide⟩,rfl⟩
theorem Jv{L:Nat}{φ:List Int->Prop}{q1:Pos}(hg:Gl X "tuple")(hm:X.mg "tuple"=none)(ha:ET X d ps a (aL _ L φ))(hL:L<=60:=by decide)(hs:starEach [a] X.env=(false,eval a X.env)::starEach [] X.env:=by rfl)(hpl:(backTo pos (starEach [] X.env)).any (·.1)=false:=by rfl) :
  ET X d ps (.Call (.Name "tuple" q1) [a] [] pos) (cZ _ 3 7300 λy=>qG y=false) :=
 bS (lS NG hg hm boot_tuple (a_ ha e_ hs) (he:=hs) (hpl:=hpl)) fun σ H Q c k q=>by
  refine⟨c,k,λv1 H1 D1 k1 p1=>?_⟩
  obtain⟨x,ns,rfl,hx,nx,l,bb,_⟩:=p1
  refine⟨x,_,rfl,.inl ⟨af.of hx,λz aR=>q _ _ (D1.keep (b_ aR)) (k1.same (b_ aR)) ?_⟩⟩
  have g:=pA bb l
  refine⟨.tuple (ns.map PyData.int),.tup (V_ d_ (D1.cc aR)) (Q_ ns),⟨?_,?_,?_,?_⟩,rfl⟩
  ·have:=g.sh;simpa only[PyData.showable] using this
  ·have:=g.lv;simpa only[PyData.leavesShort] using this
  ·have:=g.dp;simp only[PyData.depth] at this⊢;lia
  ·have:=g.wt;simp only[PyData.weight] at this⊢;lia
theorem U6(ns:List Int)(lo hi:Option Int):∃ms:List Int,cU (ns.map V.int) lo hi=ms.map V.int/\(∀n∈ms,n∈ns)/\ms.length<=ns.length:=by
 refine⟨(ns.drop (HT.dh (ns.map V.int).length 0 lo)).take (HT.dh (ns.map V.int).length (ns.map V.int).length hi-HT.dh (ns.map V.int).length 0 lo),?_,λn hn=>a1A (a1a hn),?_⟩
 ·unfold cU
  rw[<-a2J,<-a1U]
 ·rw[a0g,a0B];lia
def AL(φ:List Int->Prop)(ns:List Int):Prop:=∃xs,φ xs/\∀n∈ns,n∈xs
theorem ni{φ:List Int->Prop}{L:Nat}{lo hi:Option Expr}{p2:Pos}(ha:ET X d ps a (aL _ L φ))(jA:PO X lo (pw d ps))(vI:PO X hi (pw d ps)):ET X d ps (.Subscript a (.Slice lo hi none p2) pos) (aL _ L (AL φ)) :=
 bS (kj lT ha jA vI) fun σ H Q c k q=>by
  refine⟨c,k,λv1 H1 D1 k1 p1=>⟨c.bA k1,λo1=>⟨c.bA k1,λo2=>?_⟩⟩⟩
  obtain⟨x,ns,rfl,hx,nx,l,bb,z⟩:=p1
  obtain⟨ms,em,h1,h2⟩:=U6 ns o1 o2
  refine⟨x,_,rfl,af.of hx,λy hy=>q _ _ (D1.keep (b_ hy)) (k1.same (b_ hy)) ⟨y,ms,rfl,by rw[d_,em],D1.cc hy,by lia,λn hn=>bb n (h1 n hn),ns,z,h1⟩⟩
theorem AM{φ ψ:List Int->Prop}{L M:Nat}(ha:ET X d ps a (aL _ L φ))(hb:ET X d ps b (aL _ M ψ))(hz:L+M<=100000:=by decide):ET X d ps (.BinOp a .Add b pos) (aL _ (L+M) λns=>∃xs ys,φ xs/\ψ ys/\ns=xs++ys) :=
 bS (p_ io ha hb) fun σ H Q c k q=>by
  refine⟨c,k,λv1 H1 D1 k1 p1=>⟨c.bA k1,D1,λv2 H2 D2 k2 p2=>?_⟩⟩
  obtain⟨x,ns,rfl,hx,nx,l,bb,z⟩:=(aL [d] L φ).bA _ _ _ k2 p1
  obtain⟨y,ms,rfl,hy,ny,l',U7,z'⟩:=p2
  refine⟨x,y,_,_,rfl,rfl,hx,hy,sz (by rw[ZW,ZW];lia),λt ht=>q _ _ (D2.keep (b_ ht)) ((k1.trans k2).same (b_ ht)) ⟨t,ns++ms,rfl,by rw[d_,a0p],D2.cc ht,by rw[a0j];lia,λn hn=>?_,ns,ms,z,z',rfl⟩⟩
  rcases a0s.mp hn with hn | hn
  ·exact bb n hn
  ·exact U7 n hn
theorem U8{lo hi:Int}(ha:ET X d ps a (ao _ lo hi))(h1 : -1000<=lo:=by decide)(h2:hi<=1000:=by decide)(hs:starEach [a] X.env=(false,eval a X.env)::starEach [] X.env:=by exact jU rfl):ET X d ps (.List [a] pos) (aL _ 1 λns=>∃i,ns=[i]/\lo<=i/\i<=hi) :=
 bS (A_ (a_ ha e_ hs)) fun σ H Q c k q=>by
  refine⟨c,k,λv1 H1 D1 k1 p1=>?_⟩
  obtain⟨i,rfl,i0,i1⟩:=p1
  refine⟨sz (by simp),λt ht=>q _ _ (D1.keep (b_ ht)) (k1.same (b_ ht)) ⟨t,[i],rfl,d_,D1.cc ht,by simp,λn hn=>?_,i,rfl,i0,i1⟩⟩
  have:n=i:=by simpa using hn
  lia
theorem Jw{L M:Nat}{l1 l2:Nat}{lo hi:Int}{q1 q2:Pos}(ha:ET X d ps a (aN l1 L (aY _ 1 100)))(hb:ET X d ps b (aq _ lo hi))(hc:ET X d ps c (aN l2 M (aY _ 1 100)))(hz:L+1+M<=100000:=by decide)
  (hs:starEach [b] X.env=(false,eval b X.env)::starEach [] X.env:=by exact jU rfl):ET X d ps (.BinOp (.BinOp a .Add (.List [b] q1) q2) .Add c pos) (aA _ (L+1+M) lo hi) :=
 bS (p_ io (p_ io ha (A_ (a_ hb e_ hs))) hc) fun σ H Q c k q=>by
  refine⟨c,k,λv1 H1 D1 k1 p1=>⟨c.bA k1,D1,λv2 H2 D2 k2 p2=>⟨sz (by simp),λt ht=>?_⟩⟩⟩
  have s2:=b_ (o:=.lst [v2]) ht
  have u2:(upd H2 t (.lst [v2])) t=_:=d_
  have nt:=D2.cc ht
  have D3:=D2.keep s2
  have k3:=(k1.trans k2).same s2
  generalize upd H2 t (.lst [v2])=H3 at s2 u2 D3 k3⊢
  obtain⟨x,xs,rfl,hx,nx,a1,a2,iE⟩:=(aN l1 L (aY [d] 1 100)).bA _ _ _ (k2.same s2) p1
  have p2:=(aq [d] lo hi).bA _ _ _ (Kp.of s2) p2
  refine⟨x,t,xs,_,rfl,rfl,hx,u2,sz (by simp;lia),λy hy=>?_⟩
  have s4:=b_ (o:=.lst (xs++[v2])) hy
  have u4:(upd H3 y (.lst (xs++[v2]))) y=_:=d_
  have ny:=D3.cc hy
  have D4:=D3.keep s4
  generalize upd H3 y (.lst (xs++[v2]))=H4 at s4 u4 D4⊢
  refine⟨c.bA (k3.same s4),D4,λv5 H5 D5 k5 p5=>?_⟩
  obtain⟨z,zs,rfl,U9,nz,b1,b2,U'⟩:=p5
  refine⟨y,z,_,zs,rfl,rfl,k5 _ _ u4 ny,U9,sz (by simp;lia),λr hr=>q _ _ (D5.keep (b_ hr)) (((k3.same s4).trans k5).same (b_ hr)) ⟨r,xs++[v2]++zs,rfl,d_,D5.cc hr,by simp;lia,λu hu=>?_,v2,by simp,p2.2⟩⟩
  have kk:Kp [d] H3 (upd H5 r (.lst (xs++[v2]++zs))):=(((Kp.of s4).trans k5).same (b_ hr))
  rcases a0s.mp hu with hu | hu
  ·rcases a0s.mp hu with hu | hu
   ·exact(aY [d] 1 100).bA _ _ _ kk (iE u hu)
   ·have:u=v2:=by simpa using hu
    subst this
    exact(aY [d] 1 100).bA _ _ _ kk p2.1
  ·exact(aY [d] 1 100).bA _ _ _ (Kp.of (b_ hr)) (U' u hu)
theorem fm{A B C:PP [d]}{x1}(ha:ET X d ps a A)(hb:ET X d ps b B)(hc:ET X d ps c C)
  (h:∀H v1 v2 v3,A.holds H v1->B.holds H v2->C.holds H v3->∃d1 d2 d3,Tree (Off [d] H) v1 d1/\Tree (Off [d] H) v2 d2/\Tree (Off [d] H) v3 d3/\GD 3 26000 d1/\GD 3 26000 d2/\GD 3 26000 d3/\u_ (.tuple [d1,d2,d3])=false)
  (hs:starEach [a,b,c] X.env=(false,eval a X.env)::starEach [b,c] X.env:=by exact jU rfl) (df:starEach [b,c] X.env=(false,eval b X.env)::starEach [c] X.env:=by exact jU rfl) (AJ:starEach [c] X.env=(false,eval c X.env)::starEach [] X.env:=by exact jU rfl) :
  ET X d ps (.Tuple [a,b,c] x1 pos) (cZ _ 4 80000 jk):=bS (dJ (a_ ha (a_ hb (a_ hc e_ AJ) df) hs)) fun σ H Q c k q=>by
 refine⟨c,k,λv1 H1 D1 k1 p1=>⟨c.bA k1,D1,λv2 H2 D2 k2 p2=>⟨(c.bA k1).bA k2,D2,λv3 H3 D3 k3 p3=>⟨sz (by simp),λt ht=>q _ _ (D3.keep (b_ ht)) (((k1.trans k2).trans k3).same (b_ ht)) ?_⟩⟩⟩⟩
 have kk:Kp [d] H3 (upd H3 t (.tup [v1,v2,v3])):=Kp.of (b_ ht)
 obtain⟨d1,d2,d3,t1,t2,t3,g1,g2,g3,hf⟩:=h _ _ _ _ (A.bA _ _ _ ((k2.trans k3).trans kk) p1) (B.bA _ _ _ (k3.trans kk) p2) (C.bA _ _ _ kk p3)
 refine⟨.tuple [d1,d2,d3],.tup (V_ d_ (D3.cc ht)) (.cons t1 (.cons t2 (.cons t3 .nil))),⟨?_,?_,?_,?_⟩,hf⟩
 ·simp only[PyData.showable,PyData.showableAll,g1.sh,g2.sh,g3.sh,a0X]
 ·simp only[PyData.leavesShort,PyData.leavesShortAll,g1.lv,g2.lv,g3.lv,a0X]
 ·simp only[PyData.depth,PyData.depthAll];have:=g1.dp;have:=g2.dp;have:=g3.dp;lia
 ·simp only[PyData.weight,PyData.weightAll];have:=g1.wt;have:=g2.wt;have:=g3.wt;lia
theorem AN{m:Nat}{x1}(h:PA X es (kY d ps m (aY _ 3 19000)))(hm:m<=4:=by decide)(h3:m≠3:=by decide):ET X d ps (.Tuple es x1 pos) (cZ _ 4 80000 jk):=bS (dJ h) fun σ H Q c k q=>by
 refine⟨c,k,λvs H1 D1 k1 hl p1=>⟨sz (by lia),λz aR=>q _ _ (D1.keep (b_ aR)) (k1.same (b_ aR)) ?_⟩⟩
 obtain⟨AO,ts,h1,h2,SL,h4⟩:=jG (H:=Off [d] (upd H1 z (.tup vs))) (n:=3) (w:=19000) (λu hu=>Th.keep (p1 u hu) (jF (Kp.of (b_ aR))))
 refine⟨.tuple AO,.tup (V_ d_ (D1.cc aR)) ts,⟨?_,?_,?_,?_⟩,FU (by rw[<-kK ts,hl];exact h3)⟩
 ·simpa only[PyData.showable] using h1
 ·simpa only[PyData.leavesShort] using h2
 ·simp only[PyData.depth];lia
 ·simp only[PyData.weight]
  have:vs.length*(19000+1)<=4*(19000+1):=a0o _ (by lia)
  lia
theorem Jx{l1 h1 n w:Nat}(hn:n<=3:=by decide)(hw:h1*(w+1)<=80000:=by decide):Le (D:=[d]) (aN l1 h1 (aY _ n w)) (cZ _ 4 80000 jk):=λH v ⟨a,xs,e,h,na,_,l2,it⟩=>by
 subst e
 obtain⟨AO,ts,a1,a2,a3,a4⟩:=jG it
 refine⟨.list AO,.lst (V_ h na) ts,⟨?_,?_,?_,?_⟩,rfl⟩
 ·simpa only[PyData.showable] using a1
 ·simpa only[PyData.leavesShort] using a2
 ·simp only[PyData.depth];lia
 ·simp only[PyData.weight];exact Z9 a4 (Z9 (a0o _ l2) hw)
theorem Va{lo hi:Int}(h1 : -10000000000000000000000000<=lo:=by decide)(h2:hi<=10000000000000000000000000:=by decide):Le (D:=[d]) (ao _ lo hi) (cZ _ 4 80000 jk):=λH v ⟨i,e,a,b⟩=>by
 subst e
 have k8 : (10 : Nat) ^ 25 = 10000000000000000000000000 := by decide
 obtain⟨dd,t,g⟩:=Th.int (H:=Off [d] H) (i:=i) (by lia)
 cases t
 exact⟨_,.int i,g.up (by decide) (by decide),rfl⟩
theorem Vb{t:Bool}{j:_}:ET X d ps (.Constant (.bool t) j pos) (cZ _ 4 80000 jk):=iD fV λ_=>⟨_,.bl t,⟨rfl,rfl,a0w _,a0w _⟩,rfl⟩
theorem Vc{j:_}:ET X d ps (.Constant .none j pos) (cZ _ 4 80000 jk):=iD ic λ_=>⟨_,.aw,⟨rfl,rfl,by decide,by decide⟩,rfl⟩
theorem Jy{x:Str}{j:_}(h:GD 1 100 (.str x)):ET X d ps (.Constant (.str x) j pos) (cZ _ 4 80000 jk):=iD D_ λ_=>⟨_,.str x,h.up (by decide) (by decide),rfl⟩
theorem Vd:ET X d ps (.Dict [] [] pos) (cZ _ 4 80000 jk):=bS mj fun σ H Q c k q=>λz aR=>q _ _ (k.keep (b_ aR)) (Kp.of (b_ aR)) ⟨_,.emp (V_ d_ (k.cc aR)),⟨by decide +kernel,by decide +kernel,by decide,by decide⟩,rfl⟩
theorem dH{lo hi l h:Int}(h1 : -10000000000000000000000000<=l)(h2:h<=10000000000000000000000000)(hh:h<lo\/hi<l):Le (D:=[d]) (ao _ l h) (aq _ lo hi):=λH v ⟨i,e,a,b⟩=>by
 subst e
 have k8 : (10 : Nat) ^ 25 = 10000000000000000000000000 := by decide
 refine⟨Th.int (by lia),?_⟩
 simp only[cC,a1L,decide_eq_false_iff_not]
 lia
theorem Jz{L:Nat}{φ:List Int->Prop}{lo hi:Int}{q1:Pos}(hm:X.mg "len"=none)(hg:Gl X "len")(ha:ET X d ps a (aL _ L φ))(h:∀ns,φ ns->lo<=ns.length/\(ns.length:Int)<=hi)(hs:starEach [a] X.env=[(false,eval a X.env)]:=by rfl):ET X d ps (.Call (.Name "len" q1) [a] [] pos) (ao _ lo hi) :=
 bS (dC hm hg ha hs) fun σ H Q c k q=>by
  refine⟨c,k,λv1 H1 D1 k1 p1=>?_⟩
  obtain⟨x,ns,rfl,hx,nx,l,bb,z⟩:=p1
  refine⟨x,_,rfl,.inl (af.of hx),q _ _ D1 k1 ⟨_,rfl,?_⟩⟩
  rw[ZW]
  exact h ns z
theorem AQ{x:Str}{q1:Pos}{kl:Nat}{lo hi:Int}(D1:ak X.prog X.w X.K X.mg X.base kl x ["store","many"] F_)(hr:aM kl X.A)(hg:Gl X x)(ha:ET X d ps a (kX _ d))(hb:ET X d ps b (ao _ lo hi))(h0:0<lo:=by decide)(h1:hi<1073741824:=by decide)(dL:(x==("__debug__":Str))=false:=by decide)
  (hs:starEach [a,b] X.env=(false,eval a X.env)::starEach [b] X.env:=by rfl) (df:starEach [b] X.env=(false,eval b X.env)::starEach [] X.env:=by rfl) (hpl:(backTo pos (starEach [b] X.env)).any (·.1)=false:=by rfl) :
  ET X d ps (.Call (.Name x q1) [a,b] [] pos) (ao _ 0 (hi-1)) :=
 bS (o_ D1 hr hg (a_ ha (a_ hb e_ df) hs) dL hs hpl) fun σ H Q c k q=>by
  refine⟨c,k,λv1 H1 D1 k1 p1=>⟨c.bA k1,D1,λv2 H2 D2 k2 p2=>?_⟩⟩
  obtain⟨m,rfl,m0,m1⟩:=p2
  cases (show v1=.ref d from p1)
  exact⟨d,m,rfl,D2,by lia,by lia,λr H3 r0 r1 D3 k3=>q _ _ D3 ((k1.trans k2).trans k3) ⟨r,rfl,r0,by lia⟩⟩
end
theorem vL:GD 1 100 (.str ""):=⟨rfl,by decide +kernel,by decide,by decide⟩
theorem AR:GD 1 100 (.str "1"):=⟨rfl,by decide +kernel,by decide,by decide⟩
def rK:Stmt->Expr
 | .Assign _ e _=>e
 | .Return (some e) _=>e
 | _=>.Constant .none 0 ⟨0,0,0,0⟩
def sT(d:Addr)(ps dk:List (Option (PP [d]))):TS:=λD σ H=>Cp ps σ H/\bE H d/\∀ az H',Cp dk az H'->bE H' d->Kp [d] H H'->D.nx az H'
def sR(d:Addr)(ps:List (Option (PP [d])))(R:PP [d]):TS:=λD σ H=>Cp ps σ H/\bE H d/\∀v H',bE H' d->Kp [d] H H'->R.holds H' v->D.rt v H'
section
variable{X:Cx}{d:Addr}{ps dk:List (Option (PP [d]))}{e a b c:Expr}{es:List Expr}{pos:Pos}{R:PP [d]}{st:Stmt}{bv:List Stmt}
theorem Ve{t t':TS}(h:PS X st t)(w:∀D σ H,t' D σ H->t D σ H):PS X st t':=λaa s σ H D I q=>h aa s σ H D I (w D σ H q)
theorem AS{t t':TS}(h:cN X bv t)(w:∀D σ H,t' D σ H->t D σ H):cN X bv t':=λaa s σ H D I q=>h aa s σ H D I (w D σ H q)
theorem dX{i:Nat}{x:Str}{P:PP [d]}{gm:Pos}(hN:X.N.Nodup)(hi:X.N[i]?=some x)(hx:Loc X.env.scope x)(he:ET X d ps e P)(hs:swapsWith e (some (.Name x gm)) pos.line X.env=pure false:=by rfl)(hf:X.fn x=true\/X.env.scope.names.lookup x=some .local:=by first | exact .inl rfl | exact .inr rfl | assumption) :
  PS X (.Assign [.Name x gm] e pos) (sT d ps (ps.set i (some P))):=Ve (k_ hN hi hx he hs hf) λD σ H ⟨c,k,q⟩=>⟨c,k,λv H' D' k' hv=>q _ H' ((c.bA k').set hv) D' k'⟩
theorem R_(h1:PS X st (sT d ps dk))(h2:cN X bv (sR d dk R)):cN X (st::bv) (sR d ps R):=AS (c_ h1 h2) λD σ H ⟨c,k,q⟩=>⟨c,k,λaz H' c' k' kk=>⟨c',k',λv H2 D2 k2 hv=>q v H2 D2 (kk.trans k2) hv⟩⟩
theorem Vf{D:List Addr}{L M:Nat}{φ ψ:List Int->Prop}(h:∀ns,ns.length<=L->φ ns->ψ ns)(hl:L<=M:=by decide):Le (aL D L φ) (aL D M ψ):=λH v ⟨a,ns,e,ha,na,l,b,z⟩=>⟨a,ns,e,ha,na,Z9 l hl,b,h ns l z⟩
theorem Vg{l1 h1 l2 h2:Int}(ha:ET X d ps a (ao _ l1 h1))(hb:ET X d ps b (ao _ l2 h2))(z1 : -1000<=l1:=by decide)(z2:h1<=1000:=by decide)(z3 : -1000<=l2:=by decide)(z4:h2<=1000:=by decide)
  (hs:starEach [a,b] X.env=(false,eval a X.env)::starEach [b] X.env:=by exact jU rfl) (df:starEach [b] X.env=(false,eval b X.env)::starEach [] X.env:=by exact jU rfl):ET X d ps (.List [a,b] pos) (aL _ 2 λns=>∃i j,ns=[i,j]/\(l1<=i/\i<=h1)/\l2<=j/\j<=h2) :=
 bS (A_ (a_ ha (a_ hb e_ df) hs)) fun σ H Q c k q=>by
  refine⟨c,k,λv1 H1 D1 k1 p1=>⟨c.bA k1,D1,λv2 H2 D2 k2 p2=>?_⟩⟩
  obtain⟨i,rfl,i0,i1⟩:=p1
  obtain⟨j,rfl,j0,j1⟩:=p2
  refine⟨sz (by simp),λt ht=>q _ _ (D2.keep (b_ ht)) ((k1.trans k2).same (b_ ht)) ⟨t,[i,j],rfl,d_,D2.cc ht,by simp,λn hn=>?_,i,j,rfl,⟨i0,i1⟩,j0,j1⟩⟩
  rcases ZZ.mp hn with rfl | hn
  ·lia
  ·have:n=j:=by simpa using hn
   lia
theorem fu{lo hi:Int}{H:Hp}{v:V}(h:(ao [d] lo hi).holds H v)(h1 : -1000<=lo)(h2:hi<=1000):∃i,Tree (Off [d] H) v (.int i)/\GD 3 26000 (.int i):=by
 obtain⟨i,rfl,a,b⟩:=h
 have k8 : (10 : Nat) ^ 25 = 10000000000000000000000000 := by decide
 obtain⟨dd,t,g⟩:=Th.int (H:=Off [d] H) (i:=i) (by lia)
 cases t
 exact⟨i,.int i,g.up (by decide) (by decide)⟩
theorem gC{L:Nat}{φ:List Int->Prop}{H:Hp}{v:V}(h:(aL [d] L φ).holds H v)(hL:L*91<=26000):∃ns,φ ns/\Tree (Off [d] H) v (.list (ns.map PyData.int))/\GD 3 26000 (.list (ns.map PyData.int)):=by
 obtain⟨a,ns,rfl,ha,na,l,b,z⟩:=h
 exact⟨ns,z,.lst (V_ ha na) (Q_ ns),(pA b l).up (by decide) hL⟩
end
theorem ld{x y z:PyData}(h:iF y):u_ (.tuple [x,y,z])=false:=by
 unfold iF at h
 simp only[u_,h,a2c,a2b]
theorem nj{n:Nat}{x z:PyData}{ns:List Int}(h:gB n z)(hl:ns.sum=(n:Int)):u_ (.tuple [x,.list (ns.map .int),z])=false:=by
 unfold gB at h
 rw[a1L] at h
 simp only[u_]
 rcases h with h | h
 ·rw[h];simp
 ·rw[Js,hl,h];simp
theorem Vh{x y z:PyData}(h:gu 2 16 x=false):u_ (.tuple [x,y,z])=false:=by simp only[u_,h,a2b]
theorem JA{n:Nat}{ns:List Int}(h:ns.length≠n):gB n (.list (ns.map PyData.int)):=by
 unfold gB
 rw[Jt,decide_eq_false (λz=>h (by lia)),a2c]
theorem Vi{ns:List Int}(h:∃x∈ns,x<1\/6<x):iF (.list (ns.map PyData.int)):=by
 refine rJ ?_
 rw[FW,List.all_eq_false]
 obtain⟨x,hx,hb⟩:=h
 refine⟨x,hx,?_⟩
 simp only[a0J,decide_eq_true_eq]
 lia
theorem AT{y:PyData}(h:eJ y<2\/4<eJ y):iF y:=by
 unfold iF
 have:(decide (2<=eJ y)&&decide (eJ y<=4))=false:=by
  rw[a1L,decide_eq_false_iff_not,decide_eq_false_iff_not]
  lia
 rw[this,a2c]
structure FI(pI wI:List Int)(n:Nat):Prop where
 p1:∀x∈pI,1<=x/\x<=6
 l2:2<=pI.length
 l4:pI.length<=4
 sm:pI.sum=(n:Int)
 wl:wI.length=n
 wr:∀x∈wI,-9<=x/\x<=9
 n2:2<=n
 AU:n<=24
theorem l9.fi{b:Nat}{ps:List Nat}{ws:List Int}(ok:l9 b ps ws):FI (ps.map λ(p:Nat)=>(p:Int)) ws ps.sum where
 p1:=λx hx=>by
  obtain⟨p,hp,rfl⟩:=a0a.mp hx
  have:=ok.pr p hp
  lia
 l2:=by rw[ZW];exact ok.l2
 l4:=by rw[ZW];exact ok.l4
 sm:=Ma.tI ps
 wl:=ok.wl
 wr:=ok.wr
 n2:=ok.sum.1
 AU:=ok.sum.2
def aD(D:List Addr):PP D:=⟨λH v=>Th (Off D H) 1 100 v/\(tP v=false\/∃i:Int,v=.int i/\(i < -1000\/1000<i)),λ_ _ _ k h=>⟨h.1.keep (jF k),h.2⟩⟩
def bG(D:List Addr):PP D:=⟨λ_ v=>∃i:Int,v=.int i/\(-1<=i/\i<=26)/\(i<1\/6<i),λ_ _ _ _ h=>h⟩
theorem jm{D:List Addr}{lo hi:Int}(h1 : -1000<=lo:=by decide)(h2:hi<=1000:=by decide):Le (aD D) (aq D lo hi):=λH v ⟨t,h⟩=>⟨t,by
 rcases h with h | ⟨i,rfl,h⟩
 ·cases v <;> first | rfl | simp[tP] at h
 ·simp only[cC,a1L,decide_eq_false_iff_not]
  lia⟩
def FT(ns:List Int):Prop:=(∃x∈ns,x<1\/6<x)/\∀x∈ns,-1<=x/\x<=26
section
variable{X:Cx}{d:Addr}{ps:List (Option (PP [d]))}{e a b c:Expr}{es:List Expr}{pos:Pos}
theorem vM{t:Bool}{j:_}:ET X d ps (.Constant (.bool t) j pos) (aD _):=iD fV λ_=>⟨Th.bl t,.inl rfl⟩
theorem JB{j:_}:ET X d ps (.Constant .none j pos) (aD _):=iD ic λ_=>⟨Th.aw,.inl rfl⟩
theorem vN{x:Str}{j:_}(h:GD 1 100 (.str x)):ET X d ps (.Constant (.str x) j pos) (aD _):=iD D_ λ_=>⟨⟨_,.str x,h⟩,.inl rfl⟩
theorem JC:ET X d ps (.Dict [] [] pos) (aD _):=bS mj fun σ H Q c k q=>λz aR=>q _ _ (k.keep (b_ aR)) (Kp.of (b_ aR)) ⟨Th.emp (V_ d_ (k.cc aR)),.inl rfl⟩
theorem JD{l1 h1:Nat}(hw:h1<=1:=by decide):Le (D:=[d]) (aN l1 h1 (aY _ 0 90)) (aD _):=λH v ⟨a,xs,e,h,na,_,l2,it⟩=>by
 subst e
 exact⟨(Th.lst (V_ h na) it l2).mono (by decide) (by lia),.inl rfl⟩
theorem JE{n:Nat}{x1}(h:PA X es (kY d ps n (aY _ 0 90)))(hm:n<=1:=by decide):ET X d ps (.Tuple es x1 pos) (aD _):=bS (dJ h) fun σ H Q c k q=>by
 refine⟨c,k,λvs H1 D1 k1 hl p1=>⟨sz (by lia),λz aR=>q _ _ (D1.keep (b_ aR)) (k1.same (b_ aR)) ⟨?_,.inl rfl⟩⟩⟩
 exact(Th.tup (L:=n) (V_ d_ (D1.cc aR)) (λu hu=>Th.keep (p1 u hu) (jF (Kp.of (b_ aR)))) (by lia)).mono (by decide) (by lia)
theorem vO{lo hi:Int}(h1 : -10000000000000000000000000<=lo:=by decide)(h2:hi<=10000000000000000000000000:=by decide)(h:hi < -1000\/1000<lo:=by decide):Le (D:=[d]) (ao _ lo hi) (aD _):=λH v ⟨i,e,a,b⟩=>by
 subst e
 have k8 : (10 : Nat) ^ 25 = 10000000000000000000000000 := by decide
 exact⟨Th.int (by lia),.inr ⟨i,rfl,by lia⟩⟩
theorem Vj{j1 j2:_}{q1 q2 q3:Pos}:ET X d ps (.UnaryOp .USub (.BinOp (.Constant (.int 10) j1 q1) .Pow (.Constant (.int 25) j2 q2) q3) pos) (ao _ (-10000000000000000000000000) (-10000000000000000000000000)):=bS (fE fI (p_ xv f_ f_)) fun σ H Q c k q =>
 ⟨10,25,rfl,rfl,⟨by decide,by decide,by decide⟩,_,rfl,q _ H k Kp.refl ⟨_,rfl,by decide,by decide⟩⟩
theorem rL{lo hi:Int}(h1 : -1<=lo:=by decide)(h2:hi<=26:=by decide)(h:hi<1\/6<lo:=by decide):Le (D:=[d]) (ao _ lo hi) (bG _):=λH v ⟨i,e,a,b⟩=>⟨i,e,by lia,by lia⟩
theorem Vk(ha:ET X d ps a (bG _))(hs:starEach [a] X.env=(false,eval a X.env)::starEach [] X.env:=by exact jU rfl):ET X d ps (.List [a] pos) (aL _ 1 λns=>∃i,ns=[i]/\(-1<=i/\i<=26)/\(i<1\/6<i)) :=
 bS (A_ (a_ ha e_ hs)) fun σ H Q c k q=>by
  refine⟨c,k,λv1 H1 D1 k1 p1=>?_⟩
  obtain⟨i,rfl,i0,i1⟩:=p1
  refine⟨sz (by simp),λt ht=>q _ _ (D1.keep (b_ ht)) (k1.same (b_ ht)) ⟨t,[i],rfl,d_,D1.cc ht,by simp,λn hn=>?_,i,rfl,i0,i1⟩⟩
  have:n=i:=by simpa using hn
  lia
theorem Vl{pI ns:List Int}(hp:∀x∈pI,1<=x/\x<=6)(h:∃xs ys,(∃AV cJ,AL (·=pI) AV/\(∃i,cJ=[i]/\(-1<=i/\i<=26)/\(i<1\/6<i))/\xs=AV++cJ)/\AL (·=pI) ys/\ns=xs++ys):FT ns:=by
 obtain⟨xs,ys,⟨AV,cJ,⟨_,rfl,c1⟩,⟨i,rfl,i0,i1⟩,rfl⟩,⟨_,rfl,c2⟩,rfl⟩:=h
 refine⟨⟨i,by simp,i1⟩,λn hn=>?_⟩
 simp only[a0s,a0h] at hn
 rcases hn with(hn | rfl) | hn
 ·have:=hp n (c1 n hn);lia
 ·lia
 ·have:=hp n (c2 n hn);lia
theorem Vm{D:List Addr}{L:Nat}{φ:List Int->Prop}{lo hi:Int}(h:∀ns,φ ns->∀n∈ns,lo<=n/\n<=hi):Le (aL D L φ) (aN 0 L (ao D lo hi)):=λH v ⟨a,ns,e,ha,na,l,b,z⟩=>⟨a,_,e,ha,na,a0w _,by rw[ZW];exact l,λx hx=>by
 obtain⟨n,hn,rfl⟩:=a0a.mp hx
 exact⟨n,rfl,h ns z n hn⟩⟩
theorem Vn{φ:List Int->Prop}{L:Nat}{j:_}{q1 q2 p2:Pos}(ha:ET X d ps a (aL _ L φ))(h0:∀ns,φ ns->0<ns.length):ET X d ps (.Subscript a (.Slice none (some (.UnaryOp .USub (.Constant (.int 1) j q1) q2)) none p2) pos) (aL _ L λns=>∃xs,φ xs/\ns.length+1=xs.length) :=
 bS (kj lT ha nZ (gQ (fE fI f_))) fun σ H Q c k q=>by
  refine⟨c,k,λv1 H1 D1 k1 p1=>?_⟩
  obtain⟨x,ns,rfl,hx,nx,l,bb,z⟩:=p1
  have hn:=h0 ns z
  have e1:cU (ns.map V.int) none (some (-1))=(ns.take (ns.length-1)).map V.int:=by
   unfold cU
   rw[HT.sO,a2A,a1s,ZW]
   have:HT.dh ns.length ns.length (some (-1))=ns.length-1:=by
    unfold HT.dh
    simp
    lia
   rw[this,a1U]
  refine⟨1,rfl,-1,rfl,x,_,rfl,af.of hx,λy hy=>q _ _ (D1.keep (b_ hy)) (k1.same (b_ hy)) ⟨y,ns.take (ns.length-1),rfl,by rw[d_,e1],D1.cc hy,by rw[a0g];lia,λn hn=>bb n (a1a hn),ns,z,by rw[a0g];lia⟩⟩
theorem Vo{φ:List Int->Prop}{L:Nat}{j:_}{q1 p2:Pos}(ha:ET X d ps a (aL _ L φ)):ET X d ps (.Subscript a (.Slice none (some (.Constant (.int 1) j q1)) none p2) pos) (aL _ 1 λ_=>True) :=
 bS (kj lT ha nZ (gQ f_)) fun σ H Q c k q=>by
  refine⟨c,k,λv1 H1 D1 k1 p1=>?_⟩
  obtain⟨x,ns,rfl,hx,nx,l,bb,z⟩:=p1
  have e1:cU (ns.map V.int) none (some (1:Int))=(ns.take 1).map V.int:=by
   have:=L2.uO (xs:=ns.map V.int) (k:=1)
   rw[a1U];exact this
  refine⟨1,rfl,x,_,rfl,af.of hx,λy hy=>q _ _ (D1.keep (b_ hy)) (k1.same (b_ hy)) ⟨y,ns.take 1,rfl,by rw[d_,e1],D1.cc hy,by rw[a0g];lia,λn hn=>bb n (a1a hn),trivial⟩⟩
theorem Vp(i:Nat){L:Nat}{φ:List Int->Prop}{j:_}{q1:Pos}(h:PE X a (lJ i))(h0:∀ns,φ ns->0<ns.length)(hi:ps[i]?=some (some (aL _ L φ)):=by rfl):PO X (some (.Subscript a (.Constant (.int 0) j q1) pos)) (pw d ps):=vF (gQ (cg h f_)) fun σ H Q ⟨c,q⟩=>by
 obtain⟨v,e1,x,ns,rfl,hx,nx,l,bb,z⟩:=c.get hi
 obtain⟨v,ev,n,rfl⟩:=yh (xs:=ns.map V.int) (i:=0) (Pr:=λv=>∃n,v=V.int n) (by decide) (by rw[ZW];have:=h0 ns z;lia) λx hx=>by
  obtain⟨n,hn,rfl⟩:=a0a.mp hx
  exact⟨n,rfl⟩
 exact⟨_,e1,_,_,_,_,rfl,rfl,af.of hx,ev,n,rfl,q _⟩
theorem Vq{It:PP [d]}{l1 h1:Nat}{q1:Pos}(hm:X.mg "len"=none)(hg:Gl X "len")(ha:ET X d ps a (aN l1 h1 It))(hs:starEach [a] X.env=[(false,eval a X.env)]:=by rfl):ET X d ps (.Call (.Name "len" q1) [a] [] pos) (ao _ l1 h1) :=
 bS (dC hm hg ha hs) fun σ H Q c k q=>by
  refine⟨c,k,λv1 H1 D1 k1 p1=>?_⟩
  obtain⟨x,xs,rfl,hx,nx,l,l',it⟩:=p1
  exact⟨x,_,rfl,.inl (af.of hx),q _ _ D1 k1 ⟨_,rfl,by lia,by lia⟩⟩
end
def AW:Sp:=λvs H Q _=>∃(s f a c:Addr) (b:Nat) (ps:List Nat) (ws:List Int),vs=[.ref s,.ref f]/\bE H s/\aS H f a c b ps ws/\f∉[s]/\a∉[s]/\c∉[s]/\∀v H',bE H' s->Kp [s] H H'->(cZ [s] 4 80000 jk).holds H' v->Q v H'
abbrev aU(d:Addr)(pI wI:List Int)(l:List (Option (PP [d]))):List (Option (PP [d])):=some (kX _ d)::none::some (ao _ 2 16)::some (aL _ 4 (·=pI))::some (aL _ 24 (·=wI))::l
abbrev NF(d:Addr):PP [d]:=cZ _ 4 80000 jk
abbrev AX:List Str:=["store","frame","base","parts","weights","at","spot","odd","size","wide","weight","heavy","long","fit","suited","some"]
abbrev XN(P:Program)(w:World)(K:PySem.W.Frag)(mg:Str->Option Value)(base:Heap)(f:Addr)(ae:Value)(A:Around)(outer:List Env)(s:Shared)(H:Hp)(E:XK):Cx:=Cx.gk (bQ aK P w K mg base AX "_law_no_frame" (g_ kG) f ae A outer s H E)
abbrev stN(i:Nat):Stmt:=(z_ kG).getD i (.Pass ⟨0,0,0,0⟩)
theorem x_:aQ AX ["store","frame"] (g_ kG):=⟨rfl,rfl,rfl,by decide +kernel,rfl,by decide +kernel,by decide +kernel⟩
theorem Vr:GD 1 100 (.str "10:1+1:1 1"):=⟨rfl,by decide +kernel,by decide,by decide⟩
section
variable{P:Program}{w:World}{K:PySem.W.Frag}{mg:Str->Option Value}{base:Heap}{f:Addr}{ae:Value}{A:Around}{outer:List Env}{s:Shared}{H:Hp}{E:XK}{d:Addr}{pI wI:List Int}{n:Nat}{o5 o6 o7 o8 o9 o10 o11 o12 o13 o14 o15:Option (PP [d])}
theorem n1(D1:ak P w K mg base 1 "_law_take" ["store","many"] F_)(hr:aM 1 (XN P w K mg base f ae A outer s H E).A)(T:Txt mg)(Fi:FI pI wI n):PS (XN P w K mg base f ae A outer s H E) (stN 1) (sT d (aU d pI wI [o5,o6,o7,o8,o9,o10,o11,o12,o13,o14,o15]) (aU d pI wI [some (ao _ 0 3),o6,o7,o8,o9,o10,o11,o12,o13,o14,o15])):=by
 refine dX (i:=5) (P:=ao _ 0 3) (ps:=aU d pI wI [o5,o6,o7,o8,o9,o10,o11,o12,o13,o14,o15]) x_.nd rfl (Or.inl rfl) ?_
 exact AQ (hi:=4) D1 hr (by rfl) (m_ 0 (pv 0)) (Jz (lo:=2) (hi:=4) T.len (by rfl) (m_ 3 (pv 3)) (λns h=>by subst h;have:=Fi.l2;have:=Fi.l4;lia))
theorem n2(D1:ak P w K mg base 1 "_law_take" ["store","many"] F_)(hr:aM 1 (XN P w K mg base f ae A outer s H E).A)(T:Txt mg)(Fi:FI pI wI n):PS (XN P w K mg base f ae A outer s H E) (stN 2) (sT d (aU d pI wI [some (ao _ 0 3),o6,o7,o8,o9,o10,o11,o12,o13,o14,o15]) (aU d pI wI [some (ao _ 0 3),some (ao _ 0 23),o7,o8,o9,o10,o11,o12,o13,o14,o15])):=by
 refine dX (i:=6) (P:=ao _ 0 23) (ps:=aU d pI wI [some (ao _ 0 3),o6,o7,o8,o9,o10,o11,o12,o13,o14,o15]) x_.nd rfl (Or.inl rfl) ?_
 exact AQ (hi:=24) D1 hr (by rfl) (m_ 0 (pv 0)) (Jz (lo:=2) (hi:=24) T.len (by rfl) (m_ 4 (pv 4)) (λns h=>by subst h;have:=Fi.wl;have:=Fi.n2;have:=Fi.AU;lia))
@[irreducible] def kL:Expr:=(.List [(.Constant (.bool true) 0 ⟨297,11,297,15⟩),(.Constant (.bool false) 0 ⟨297,17,297,22⟩),(.Constant .none 0 ⟨297,24,297,28⟩),(.Constant (.str "1") 0 ⟨297,30,297,33⟩),(.List [(.Constant (.int 1) 0 ⟨297,36,297,37⟩)] ⟨297,35,297,38⟩),(.Tuple [(.Constant (.int 1) 0 ⟨297,41,297,42⟩)] 0 ⟨297,40,297,44⟩),(.Dict [] [] ⟨297,46,297,48⟩),(.Constant (.str "") 0 ⟨297,50,297,52⟩),(.BinOp (.Constant (.int 10) 0 ⟨297,54,297,56⟩) .Pow (.Constant (.int 25) 0 ⟨297,60,297,62⟩) ⟨297,54,297,62⟩),(.UnaryOp .USub (.BinOp (.Constant (.int 10) 0 ⟨297,65,297,67⟩) .Pow (.Constant (.int 25) 0 ⟨297,71,297,73⟩) ⟨297,65,297,73⟩) ⟨297,64,297,73⟩)] ⟨297,10,297,74⟩)
theorem JF:kL=(.List [(.Constant (.bool true) 0 ⟨297,11,297,15⟩),(.Constant (.bool false) 0 ⟨297,17,297,22⟩),(.Constant .none 0 ⟨297,24,297,28⟩),(.Constant (.str "1") 0 ⟨297,30,297,33⟩),(.List [(.Constant (.int 1) 0 ⟨297,36,297,37⟩)] ⟨297,35,297,38⟩),(.Tuple [(.Constant (.int 1) 0 ⟨297,41,297,42⟩)] 0 ⟨297,40,297,44⟩),(.Dict [] [] ⟨297,46,297,48⟩),(.Constant (.str "") 0 ⟨297,50,297,52⟩),(.BinOp (.Constant (.int 10) 0 ⟨297,54,297,56⟩) .Pow (.Constant (.int 25) 0 ⟨297,60,297,62⟩) ⟨297,54,297,62⟩),(.UnaryOp .USub (.BinOp (.Constant (.int 10) 0 ⟨297,65,297,67⟩) .Pow (.Constant (.int 25) 0 ⟨297,71,297,73⟩) ⟨297,65,297,73⟩) ⟨297,64,297,73⟩)] ⟨297,10,297,74⟩):=by unfold kL;rfl
theorem n3(D1:ak P w K mg base 1 "_law_take" ["store","many"] F_)(hr:aM 1 (XN P w K mg base f ae A outer s H E).A)(T:Txt mg)(Fi:FI pI wI n):PS (XN P w K mg base f ae A outer s H E) (.Assign [(.Name "odd" ⟨297,4,297,7⟩)] (.Subscript kL (.Call (.Name "_law_take" ⟨297,75,297,84⟩) [(.Name "store" ⟨297,85,297,90⟩),(.Constant (.int 10) 0 ⟨297,92,297,94⟩)] [] ⟨297,75,297,95⟩) ⟨297,10,297,96⟩) ⟨297,4,297,96⟩) (sT d (aU d pI wI [some (ao _ 0 3),some (ao _ 0 23),o7,o8,o9,o10,o11,o12,o13,o14,o15]) (aU d pI wI [some (ao _ 0 3),some (ao _ 0 23),some (aD _),o8,o9,o10,o11,o12,o13,o14,o15])):=by
 refine dX (i:=7) (P:=aD _) (ps:=aU d pI wI [some (ao _ 0 3),some (ao _ 0 23),o7,o8,o9,o10,o11,o12,o13,o14,o15]) x_.nd rfl (Or.inl rfl) ?_
 refine jV (l1:=10) (h1:=10) (j:=9) (It:=aD _) ?_ (fk D1 hr (by rfl) (m_ 0 (pv 0)) J_)
 rw[JF]
 refine cD (It:=aD _) (m:=10) ?_
 refine j_ (It:=aD _) (m:=9) ?_ ?_
 ·exact vM
 refine j_ (It:=aD _) (m:=8) ?_ ?_
 ·exact vM
 refine j_ (It:=aD _) (m:=7) ?_ ?_
 ·exact JB
 refine j_ (It:=aD _) (m:=6) ?_ ?_
 ·exact vN AR
 refine j_ (It:=aD _) (m:=5) ?_ ?_
 ·refine aF (P:=aN 1 1 (aY _ 0 90)) ?_ JD
  refine cD (It:=aY _ 0 90) (m:=1) ?_
  refine j_ (It:=aY _ 0 90) (m:=0) ?_ ?_
  ·exact aF J_ jj
  exact X_
 refine j_ (It:=aD _) (m:=4) ?_ ?_
 ·refine JE (n:=1) ?_
  refine j_ (It:=aY _ 0 90) (m:=0) ?_ ?_
  ·exact aF J_ jj
  exact X_
 refine j_ (It:=aD _) (m:=3) ?_ ?_
 ·exact JC
 refine j_ (It:=aD _) (m:=2) ?_ ?_
 ·exact vN vL
 refine j_ (It:=aD _) (m:=1) ?_ ?_
 ·exact aF vH vO
 refine j_ (It:=aD _) (m:=0) ?_ ?_
 ·exact aF Vj vO
 exact X_
theorem n4(D1:ak P w K mg base 1 "_law_take" ["store","many"] F_)(hr:aM 1 (XN P w K mg base f ae A outer s H E).A)(T:Txt mg)(Fi:FI pI wI n):PS (XN P w K mg base f ae A outer s H E) (stN 4) (sT d (aU d pI wI [some (ao _ 0 3),some (ao _ 0 23),some (aD _),o8,o9,o10,o11,o12,o13,o14,o15]) (aU d pI wI [some (ao _ 0 3),some (ao _ 0 23),some (aD _),some (aq _ 1 6),o9,o10,o11,o12,o13,o14,o15])):=by
 refine dX (i:=8) (P:=aq _ 1 6) (ps:=aU d pI wI [some (ao _ 0 3),some (ao _ 0 23),some (aD _),o8,o9,o10,o11,o12,o13,o14,o15]) x_.nd rfl (Or.inl rfl) ?_
 refine jV (l1:=6) (h1:=6) (j:=5) (It:=aq _ 1 6) ?_ (fk D1 hr (by rfl) (m_ 0 (pv 0)) J_)
 refine cD (It:=aq _ 1 6) (m:=6) ?_
 refine j_ (It:=aq _ 1 6) (m:=5) ?_ ?_
 ·exact aF (m_ 7 (pv 7)) jm
 refine j_ (It:=aq _ 1 6) (m:=4) ?_ ?_
 ·exact aF (m_ 7 (pv 7)) jm
 refine j_ (It:=aq _ 1 6) (m:=3) ?_ ?_
 ·exact aF J_ (dH (by decide) (by decide) (by decide))
 refine j_ (It:=aq _ 1 6) (m:=2) ?_ ?_
 ·exact aF jW (dH (by decide) (by decide) (by decide))
 refine j_ (It:=aq _ 1 6) (m:=1) ?_ ?_
 ·exact aF J_ (dH (by decide) (by decide) (by decide))
 refine j_ (It:=aq _ 1 6) (m:=0) ?_ ?_
 ·exact aF (pz J_ (fk D1 hr (by rfl) (m_ 0 (pv 0)) J_)) (dH (by decide) (by decide) (by decide))
 exact X_
theorem n5(D1:ak P w K mg base 1 "_law_take" ["store","many"] F_)(hr:aM 1 (XN P w K mg base f ae A outer s H E).A)(T:Txt mg)(Fi:FI pI wI n):PS (XN P w K mg base f ae A outer s H E) (stN 5) (sT d (aU d pI wI [some (ao _ 0 3),some (ao _ 0 23),some (aD _),some (aq _ 1 6),o9,o10,o11,o12,o13,o14,o15]) (aU d pI wI [some (ao _ 0 3),some (ao _ 0 23),some (aD _),some (aq _ 1 6),some (aA _ 9 1 6),o10,o11,o12,o13,o14,o15])):=by
 refine dX (i:=9) (P:=aA _ 9 1 6) (ps:=aU d pI wI [some (ao _ 0 3),some (ao _ 0 23),some (aD _),some (aq _ 1 6),o9,o10,o11,o12,o13,o14,o15]) x_.nd rfl (Or.inl rfl) ?_
 exact Jw (L:=4) (M:=4) (aF (ni (m_ 3 (pv 3)) mZ (AD 5 (pv 5))) rF) (m_ 8 (pv 8)) (aF (ni (m_ 3 (pv 3)) (AE 5 (pv 5) f_) mZ) rF)
theorem n6(D1:ak P w K mg base 1 "_law_take" ["store","many"] F_)(hr:aM 1 (XN P w K mg base f ae A outer s H E).A)(T:Txt mg)(Fi:FI pI wI n):PS (XN P w K mg base f ae A outer s H E) (stN 6) (sT d (aU d pI wI [some (ao _ 0 3),some (ao _ 0 23),some (aD _),some (aq _ 1 6),some (aA _ 9 1 6),o10,o11,o12,o13,o14,o15]) (aU d pI wI [some (ao _ 0 3),some (ao _ 0 23),some (aD _),some (aq _ 1 6),some (aA _ 9 1 6),some (aq _ (-9) 9),o11,o12,o13,o14,o15])):=by
 refine dX (i:=10) (P:=aq _ (-9) 9) (ps:=aU d pI wI [some (ao _ 0 3),some (ao _ 0 23),some (aD _),some (aq _ 1 6),some (aA _ 9 1 6),o10,o11,o12,o13,o14,o15]) x_.nd rfl (Or.inl rfl) ?_
 refine jV (l1:=6) (h1:=6) (j:=5) (It:=aq _ (-9) 9) ?_ (fk D1 hr (by rfl) (m_ 0 (pv 0)) J_)
 refine cD (It:=aq _ (-9) 9) (m:=6) ?_
 refine j_ (It:=aq _ (-9) 9) (m:=5) ?_ ?_
 ·exact aF (m_ 7 (pv 7)) jm
 refine j_ (It:=aq _ (-9) 9) (m:=4) ?_ ?_
 ·exact aF (m_ 7 (pv 7)) jm
 refine j_ (It:=aq _ (-9) 9) (m:=3) ?_ ?_
 ·exact aF J_ (dH (by decide) (by decide) (by decide))
 refine j_ (It:=aq _ (-9) 9) (m:=2) ?_ ?_
 ·exact aF jW (dH (by decide) (by decide) (by decide))
 refine j_ (It:=aq _ (-9) 9) (m:=1) ?_ ?_
 ·exact aF (pz J_ (fk D1 hr (by rfl) (m_ 0 (pv 0)) J_)) (dH (by decide) (by decide) (by decide))
 refine j_ (It:=aq _ (-9) 9) (m:=0) ?_ ?_
 ·exact aF (m9 jW (fk D1 hr (by rfl) (m_ 0 (pv 0)) J_)) (dH (by decide) (by decide) (by decide))
 exact X_
theorem n7(D1:ak P w K mg base 1 "_law_take" ["store","many"] F_)(hr:aM 1 (XN P w K mg base f ae A outer s H E).A)(T:Txt mg)(Fi:FI pI wI n):PS (XN P w K mg base f ae A outer s H E) (stN 7) (sT d (aU d pI wI [some (ao _ 0 3),some (ao _ 0 23),some (aD _),some (aq _ 1 6),some (aA _ 9 1 6),some (aq _ (-9) 9),o11,o12,o13,o14,o15]) (aU d pI wI [some (ao _ 0 3),some (ao _ 0 23),some (aD _),some (aq _ 1 6),some (aA _ 9 1 6),some (aq _ (-9) 9),some (aA _ 49 (-9) 9),o12,o13,o14,o15])):=by
 refine dX (i:=11) (P:=aA _ 49 (-9) 9) (ps:=aU d pI wI [some (ao _ 0 3),some (ao _ 0 23),some (aD _),some (aq _ 1 6),some (aA _ 9 1 6),some (aq _ (-9) 9),o11,o12,o13,o14,o15]) x_.nd rfl (Or.inl rfl) ?_
 exact Jw (L:=24) (M:=24) (aF (ni (m_ 4 (pv 4)) mZ (AD 6 (pv 6))) rF) (m_ 10 (pv 10)) (aF (ni (m_ 4 (pv 4)) (AE 6 (pv 6) f_) mZ) rF)
theorem n8(D1:ak P w K mg base 1 "_law_take" ["store","many"] F_)(hr:aM 1 (XN P w K mg base f ae A outer s H E).A)(T:Txt mg)(Fi:FI pI wI n):PS (XN P w K mg base f ae A outer s H E) (stN 8) (sT d (aU d pI wI [some (ao _ 0 3),some (ao _ 0 23),some (aD _),some (aq _ 1 6),some (aA _ 9 1 6),some (aq _ (-9) 9),some (aA _ 49 (-9) 9),o12,o13,o14,o15]) (aU d pI wI [some (ao _ 0 3),some (ao _ 0 23),some (aD _),some (aq _ 1 6),some (aA _ 9 1 6),some (aq _ (-9) 9),some (aA _ 49 (-9) 9),some (bG _),o13,o14,o15])):=by
 refine dX (i:=12) (P:=bG _) (ps:=aU d pI wI [some (ao _ 0 3),some (ao _ 0 23),some (aD _),some (aq _ 1 6),some (aA _ 9 1 6),some (aq _ (-9) 9),some (aA _ 49 (-9) 9),o12,o13,o14,o15]) x_.nd rfl (Or.inl rfl) ?_
 refine jV (l1:=5) (h1:=5) (j:=4) (It:=bG _) ?_ (fk D1 hr (by rfl) (m_ 0 (pv 0)) J_)
 refine cD (It:=bG _) (m:=5) ?_
 refine j_ (It:=bG _) (m:=4) ?_ ?_
 ·exact aF J_ rL
 refine j_ (It:=bG _) (m:=3) ?_ ?_
 ·exact aF jW rL
 refine j_ (It:=bG _) (m:=2) ?_ ?_
 ·exact aF J_ rL
 refine j_ (It:=bG _) (m:=1) ?_ ?_
 ·exact aF J_ rL
 refine j_ (It:=bG _) (m:=0) ?_ ?_
 ·exact aF (pz J_ (fk D1 hr (by rfl) (m_ 0 (pv 0)) J_)) rL
 exact X_
theorem n9(D1:ak P w K mg base 1 "_law_take" ["store","many"] F_)(hr:aM 1 (XN P w K mg base f ae A outer s H E).A)(T:Txt mg)(Fi:FI pI wI n):PS (XN P w K mg base f ae A outer s H E) (stN 9) (sT d (aU d pI wI [some (ao _ 0 3),some (ao _ 0 23),some (aD _),some (aq _ 1 6),some (aA _ 9 1 6),some (aq _ (-9) 9),some (aA _ 49 (-9) 9),some (bG _),o13,o14,o15]) (aU d pI wI [some (ao _ 0 3),some (ao _ 0 23),some (aD _),some (aq _ 1 6),some (aA _ 9 1 6),some (aq _ (-9) 9),some (aA _ 49 (-9) 9),some (bG _),some (aL _ 9 FT),o14,o15])):=by
 refine dX (i:=13) (P:=aL _ 9 FT) (ps:=aU d pI wI [some (ao _ 0 3),some (ao _ 0 23),some (aD _),some (aq _ 1 6),some (aA _ 9 1 6),some (aq _ (-9) 9),some (aA _ 49 (-9) 9),some (bG _),o13,o14,o15]) x_.nd rfl (Or.inl rfl) ?_
 exact aF (AM (L:=5) (M:=4) (AM (L:=4) (M:=1) (ni (m_ 3 (pv 3)) mZ (AD 5 (pv 5))) (Vk (m_ 12 (pv 12)))) (ni (m_ 3 (pv 3)) (AE 5 (pv 5) f_) mZ)) (Vf λns hl h=>Vl Fi.p1 h)
theorem Vs(D1:ak P w K mg base 1 "_law_take" ["store","many"] F_)(hr:aM 1 (XN P w K mg base f ae A outer s H E).A)(T:Txt mg)(Fi:FI pI wI n):PS (XN P w K mg base f ae A outer s H E) (stN 10) (sT d (aU d pI wI [some (ao _ 0 3),some (ao _ 0 23),some (aD _),some (aq _ 1 6),some (aA _ 9 1 6),some (aq _ (-9) 9),some (aA _ 49 (-9) 9),some (bG _),some (aL _ 9 FT),o14,o15]) (aU d pI wI [some (ao _ 0 3),some (ao _ 0 23),some (aD _),some (aq _ 1 6),some (aA _ 9 1 6),some (aq _ (-9) 9),some (aA _ 49 (-9) 9),some (bG _),some (aL _ 9 FT),some (NF d),o15])):=by
 refine dX (i:=14) (P:=NF d) (ps:=aU d pI wI [some (ao _ 0 3),some (ao _ 0 23),some (aD _),some (aq _ 1 6),some (aA _ 9 1 6),some (aq _ (-9) 9),some (aA _ 49 (-9) 9),some (bG _),some (aL _ 9 FT),o14,o15]) x_.nd rfl (Or.inl rfl) ?_
 refine fm (A:=ao _ 2 16) (B:=aL _ 9 FT) (C:=aY _ 3 26000) (m_ 2 (pv 2)) (m_ 13 (pv 13)) (aF (UY (l1:=1) (h1:=1) (j:=234) (cD (It:=aY _ 0 90) (j_ (aF J_ jj) X_)) (U3 (l1:=0) (h1:=9) (lo := -1) (hi:=26) rfl (by rfl) T.sum (by rfl) T.max (aF (m_ 13 (pv 13)) (Vm λ_ (h:FT _)=>h.2)))) vG) λH v1 v2 v3 h1 h2 h3=>?_
 obtain⟨i,t1,g1⟩:=fu h1 (by decide) (by decide)
 obtain⟨ns,hy,t2,g2⟩:=gC h2 (by decide)
 obtain⟨y,t3,g3⟩:=h3
 exact⟨_,_,_,t1,t2,t3,g1,g2,g3,ld (Vi hy.1)⟩
theorem Vt(D1:ak P w K mg base 1 "_law_take" ["store","many"] F_)(hr:aM 1 (XN P w K mg base f ae A outer s H E).A)(T:Txt mg)(Fi:FI pI wI n):PS (XN P w K mg base f ae A outer s H E) (stN 11) (sT d (aU d pI wI [some (ao _ 0 3),some (ao _ 0 23),some (aD _),some (aq _ 1 6),some (aA _ 9 1 6),some (aq _ (-9) 9),some (aA _ 49 (-9) 9),some (bG _),some (aL _ 9 FT),some (NF d),o15]) (aU d pI wI [some (ao _ 0 3),some (ao _ 0 23),some (aD _),some (aq _ 1 6),some (aA _ 9 1 6),some (aq _ (-9) 9),some (aA _ 49 (-9) 9),some (bG _),some (aL _ 9 FT),some (NF d),some (aN 4 4 (NF d))])):=by
 refine dX (i:=15) (P:=aN 4 4 (NF d)) (ps:=aU d pI wI [some (ao _ 0 3),some (ao _ 0 23),some (aD _),some (aq _ 1 6),some (aA _ 9 1 6),some (aq _ (-9) 9),some (aA _ 49 (-9) 9),some (bG _),some (aL _ 9 FT),some (NF d),o15]) x_.nd rfl (Or.inl rfl) ?_
 refine cD (It:=NF d) (m:=4) ?_
 refine j_ (It:=NF d) (m:=3) ?_ ?_
 ·refine fm (A:=ao _ 2 16) (B:=aA _ 9 1 6) (C:=aL _ 24 (·=wI)) (m_ 2 (pv 2)) (m_ 9 (pv 9)) (m_ 4 (pv 4)) λH v1 v2 v3 h1 h2 h3=>?_
  obtain⟨i,t1,g1⟩:=fu h1 (by decide) (by decide)
  obtain⟨y,t2,g2,hy⟩:=rG (n':=3) (w':=7300) (ψ:=iF) (λ_ h=>rJ h) (by decide) (by decide) _ _ h2
  obtain⟨ms,rfl,t3,g3⟩:=gC h3 (by decide)
  exact⟨_,_,_,t1,t2,t3,g1,g2.up (by decide) (by decide),g3,ld hy⟩
 refine j_ (It:=NF d) (m:=2) ?_ ?_
 ·refine fm (A:=ao _ 2 16) (B:=aA _ 9 1 6) (C:=aL _ 24 (·=wI)) (m_ 2 (pv 2)) (m_ 9 (pv 9)) (m_ 4 (pv 4)) λH v1 v2 v3 h1 h2 h3=>?_
  obtain⟨i,t1,g1⟩:=fu h1 (by decide) (by decide)
  obtain⟨y,t2,g2,hy⟩:=rG (n':=3) (w':=7300) (ψ:=iF) (λ_ h=>rJ h) (by decide) (by decide) _ _ h2
  obtain⟨ms,rfl,t3,g3⟩:=gC h3 (by decide)
  exact⟨_,_,_,t1,t2,t3,g1,g2.up (by decide) (by decide),g3,ld hy⟩
 refine j_ (It:=NF d) (m:=1) ?_ ?_
 ·refine fm (A:=ao _ 2 16) (B:=aL _ 4 (·=pI)) (C:=aA _ 49 (-9) 9) (m_ 2 (pv 2)) (m_ 3 (pv 3)) (m_ 11 (pv 11)) λH v1 v2 v3 h1 h2 h3=>?_
  obtain⟨i,t1,g1⟩:=fu h1 (by decide) (by decide)
  obtain⟨ns,rfl,t2,g2⟩:=gC h2 (by decide)
  obtain⟨y,t3,g3,hy⟩:=rG (n':=3) (w':=7300) (ψ:=gB n) (λ_ h=>rH h) (by decide) (by decide) _ _ h3
  exact⟨_,_,_,t1,t2,t3,g1,g2,g3.up (by decide) (by decide),nj hy Fi.sm⟩
 refine j_ (It:=NF d) (m:=0) ?_ ?_
 ·refine fm (A:=ao _ 2 16) (B:=aL _ 4 (·=pI)) (C:=aA _ 49 (-9) 9) (m_ 2 (pv 2)) (m_ 3 (pv 3)) (m_ 11 (pv 11)) λH v1 v2 v3 h1 h2 h3=>?_
  obtain⟨i,t1,g1⟩:=fu h1 (by decide) (by decide)
  obtain⟨ns,rfl,t2,g2⟩:=gC h2 (by decide)
  obtain⟨y,t3,g3,hy⟩:=rG (n':=3) (w':=7300) (ψ:=gB n) (λ_ h=>rH h) (by decide) (by decide) _ _ h3
  exact⟨_,_,_,t1,t2,t3,g1,g2,g3.up (by decide) (by decide),nj hy Fi.sm⟩
 exact X_
theorem Vu(D1:ak P w K mg base 1 "_law_take" ["store","many"] F_)(hr:aM 1 (XN P w K mg base f ae A outer s H E).A)(T:Txt mg)(Fi:FI pI wI n):PS (XN P w K mg base f ae A outer s H E) (stN 12) (sT d (aU d pI wI [some (ao _ 0 3),some (ao _ 0 23),some (aD _),some (aq _ 1 6),some (aA _ 9 1 6),some (aq _ (-9) 9),some (aA _ 49 (-9) 9),some (bG _),some (aL _ 9 FT),some (NF d),some (aN 4 4 (NF d))]) (aU d pI wI [some (ao _ 0 3),some (ao _ 0 23),some (aD _),some (aq _ 1 6),some (aA _ 9 1 6),some (aq _ (-9) 9),some (aA _ 49 (-9) 9),some (bG _),some (aL _ 9 FT),some (NF d),some (aN 7 7 (NF d))])):=by
 refine dX (i:=15) (P:=aN 7 7 (NF d)) (ps:=aU d pI wI [some (ao _ 0 3),some (ao _ 0 23),some (aD _),some (aq _ 1 6),some (aA _ 9 1 6),some (aq _ (-9) 9),some (aA _ 49 (-9) 9),some (bG _),some (aL _ 9 FT),some (NF d),some (aN 4 4 (NF d))]) x_.nd rfl (Or.inl rfl) ?_
 refine kZ (It:=NF d) (l1:=4) (h1:=4) (l2:=3) (h2:=3) ?_ ?_
 ·exact m_ 15 (pv 15)
 refine cD (It:=NF d) (m:=3) ?_
 refine j_ (It:=NF d) (m:=2) ?_ ?_
 ·exact m_ 14 (pv 14)
 refine j_ (It:=NF d) (m:=1) ?_ ?_
 ·exact m_ 14 (pv 14)
 refine j_ (It:=NF d) (m:=0) ?_ ?_
 ·exact m_ 14 (pv 14)
 exact X_
theorem Vv(D1:ak P w K mg base 1 "_law_take" ["store","many"] F_)(hr:aM 1 (XN P w K mg base f ae A outer s H E).A)(T:Txt mg)(Fi:FI pI wI n):PS (XN P w K mg base f ae A outer s H E) (stN 13) (sT d (aU d pI wI [some (ao _ 0 3),some (ao _ 0 23),some (aD _),some (aq _ 1 6),some (aA _ 9 1 6),some (aq _ (-9) 9),some (aA _ 49 (-9) 9),some (bG _),some (aL _ 9 FT),some (NF d),some (aN 7 7 (NF d))]) (aU d pI wI [some (ao _ 0 3),some (ao _ 0 23),some (aD _),some (aq _ 1 6),some (aA _ 9 1 6),some (aq _ (-9) 9),some (aA _ 49 (-9) 9),some (bG _),some (aL _ 9 FT),some (NF d),some (aN 10 10 (NF d))])):=by
 refine dX (i:=15) (P:=aN 10 10 (NF d)) (ps:=aU d pI wI [some (ao _ 0 3),some (ao _ 0 23),some (aD _),some (aq _ 1 6),some (aA _ 9 1 6),some (aq _ (-9) 9),some (aA _ 49 (-9) 9),some (bG _),some (aL _ 9 FT),some (NF d),some (aN 7 7 (NF d))]) x_.nd rfl (Or.inl rfl) ?_
 refine kZ (It:=NF d) (l1:=7) (h1:=7) (l2:=3) (h2:=3) ?_ ?_
 ·exact m_ 15 (pv 15)
 refine cD (It:=NF d) (m:=3) ?_
 refine j_ (It:=NF d) (m:=2) ?_ ?_
 ·refine fm (A:=ao _ 2 16) (B:=aL _ 4 (·=pI)) (C:=aA _ 49 (-9) 9) (m_ 2 (pv 2)) (m_ 3 (pv 3)) (m_ 11 (pv 11)) λH v1 v2 v3 h1 h2 h3=>?_
  obtain⟨i,t1,g1⟩:=fu h1 (by decide) (by decide)
  obtain⟨ns,rfl,t2,g2⟩:=gC h2 (by decide)
  obtain⟨y,t3,g3,hy⟩:=rG (n':=3) (w':=7300) (ψ:=gB n) (λ_ h=>rH h) (by decide) (by decide) _ _ h3
  exact⟨_,_,_,t1,t2,t3,g1,g2,g3.up (by decide) (by decide),nj hy Fi.sm⟩
 refine j_ (It:=NF d) (m:=1) ?_ ?_
 ·refine fm (A:=ao _ 2 16) (B:=aL _ 4 (·=pI)) (C:=cZ _ 3 7300 (gB n)) (m_ 2 (pv 2)) (m_ 3 (pv 3)) (aF (AM (L:=24) (M:=1) (m_ 4 (pv 4)) (U8 J_)) (AK λns h=>JA (by obtain⟨xs,ys,rfl,⟨i,rfl,i0,i1⟩,rfl⟩:=h;have:=Fi.wl;rw[a0j];simp;lia))) λH v1 v2 v3 h1 h2 h3=>?_
  obtain⟨i,t1,g1⟩:=fu h1 (by decide) (by decide)
  obtain⟨ns,rfl,t2,g2⟩:=gC h2 (by decide)
  obtain⟨y,t3,g3,hy⟩:=h3
  exact⟨_,_,_,t1,t2,t3,g1,g2,g3.up (by decide) (by decide),nj hy Fi.sm⟩
 refine j_ (It:=NF d) (m:=0) ?_ ?_
 ·refine fm (A:=ao _ 2 16) (B:=aL _ 4 (·=pI)) (C:=cZ _ 3 7300 (gB n)) (m_ 2 (pv 2)) (m_ 3 (pv 3)) (aF (Vn (L:=24) (m_ 4 (pv 4)) (λns h=>by subst h;have:=Fi.wl;have:=Fi.n2;lia)) (AK λns h=>JA (by obtain⟨xs,rfl,h⟩:=h;have:=Fi.wl;lia))) λH v1 v2 v3 h1 h2 h3=>?_
  obtain⟨i,t1,g1⟩:=fu h1 (by decide) (by decide)
  obtain⟨ns,rfl,t2,g2⟩:=gC h2 (by decide)
  obtain⟨y,t3,g3,hy⟩:=h3
  exact⟨_,_,_,t1,t2,t3,g1,g2,g3.up (by decide) (by decide),nj hy Fi.sm⟩
 exact X_
theorem Vw(D1:ak P w K mg base 1 "_law_take" ["store","many"] F_)(hr:aM 1 (XN P w K mg base f ae A outer s H E).A)(T:Txt mg)(Fi:FI pI wI n):PS (XN P w K mg base f ae A outer s H E) (stN 14) (sT d (aU d pI wI [some (ao _ 0 3),some (ao _ 0 23),some (aD _),some (aq _ 1 6),some (aA _ 9 1 6),some (aq _ (-9) 9),some (aA _ 49 (-9) 9),some (bG _),some (aL _ 9 FT),some (NF d),some (aN 10 10 (NF d))]) (aU d pI wI [some (ao _ 0 3),some (ao _ 0 23),some (aD _),some (aq _ 1 6),some (aA _ 9 1 6),some (aq _ (-9) 9),some (aA _ 49 (-9) 9),some (bG _),some (aL _ 9 FT),some (NF d),some (aN 13 13 (NF d))])):=by
 refine dX (i:=15) (P:=aN 13 13 (NF d)) (ps:=aU d pI wI [some (ao _ 0 3),some (ao _ 0 23),some (aD _),some (aq _ 1 6),some (aA _ 9 1 6),some (aq _ (-9) 9),some (aA _ 49 (-9) 9),some (bG _),some (aL _ 9 FT),some (NF d),some (aN 10 10 (NF d))]) x_.nd rfl (Or.inl rfl) ?_
 refine kZ (It:=NF d) (l1:=10) (h1:=10) (l2:=3) (h2:=3) ?_ ?_
 ·exact m_ 15 (pv 15)
 refine cD (It:=NF d) (m:=3) ?_
 refine j_ (It:=NF d) (m:=2) ?_ ?_
 ·refine fm (A:=ao _ 2 16) (B:=aL _ 1 (λ_=>True)) (C:=aY _ 3 26000) (m_ 2 (pv 2)) (Vo (L:=4) (m_ 3 (pv 3))) (aF (ni (L:=24) (m_ 4 (pv 4)) mZ (Vp (φ:=(·=pI)) (L:=4) 3 (pv 3) (λns h=>by subst h;have:=Fi.l2;lia))) pB) λH v1 v2 v3 h1 h2 h3=>?_
  obtain⟨i,t1,g1⟩:=fu h1 (by decide) (by decide)
  obtain⟨a2,ms,rfl,ha,na,l,bb,_⟩:=h2
  obtain⟨y,t3,g3⟩:=h3
  exact⟨_,.list (ms.map .int),_,t1,.lst (V_ ha na) (Q_ ms),t3,g1,(pA bb l).up (by decide) (by decide),g3,ld (AT (.inl (by rw[Jt];lia)))⟩
 refine j_ (It:=NF d) (m:=1) ?_ ?_
 ·refine fm (A:=ao _ 2 16) (B:=aN 5 5 (aY _ 0 90)) (C:=aY _ 3 26000) (m_ 2 (pv 2)) (AI (l1:=1) (h1:=1) (n:=5) (cD (It:=aY _ 0 90) (j_ (aF J_ jj) X_)) f_) (aF (AI (l1:=1) (h1:=1) (n:=5) (cD (It:=aY _ 0 90) (j_ (aF J_ jj) X_)) f_) vG) λH v1 v2 v3 h1 h2 h3=>?_
  obtain⟨i,t1,g1⟩:=fu h1 (by decide) (by decide)
  obtain⟨a,xs,rfl,ha,na,l1,l2,it⟩:=h2
  obtain⟨dl,ts,a1,a2,a3,a4⟩:=jG it
  obtain⟨y,t3,g3⟩:=h3
  have hl:dl.length=5:=by rw[<-kK ts];lia
  refine⟨_,.list dl,_,t1,.lst (V_ ha na) ts,t3,g1,⟨?_,?_,?_,?_⟩,g3,ld (AT (.inr ?_))⟩
  ·simpa only[PyData.showable] using a1
  ·simpa only[PyData.leavesShort] using a2
  ·simp only[PyData.depth];lia
  ·simp only[PyData.weight];lia
  ·show 4<dl.length
   lia
 refine j_ (It:=NF d) (m:=0) ?_ ?_
 ·refine fm (A:=ao _ 2 16) (B:=aN 0 0 (aY _ 0 90)) (C:=aY _ 3 26000) (m_ 2 (pv 2)) (cD (It:=aY _ 0 90) (m:=0) X_) (aF (cD (It:=aY _ 0 90) (m:=0) X_) vG) λH v1 v2 v3 h1 h2 h3=>?_
  obtain⟨i,t1,g1⟩:=fu h1 (by decide) (by decide)
  obtain⟨a,xs,rfl,ha,na,l1,l2,it⟩:=h2
  obtain⟨dl,ts,a1,a2,a3,a4⟩:=jG it
  obtain⟨y,t3,g3⟩:=h3
  have hl:dl.length=0:=by rw[<-kK ts];lia
  refine⟨_,.list dl,_,t1,.lst (V_ ha na) ts,t3,g1,⟨?_,?_,?_,?_⟩,g3,ld (AT (.inl ?_))⟩
  ·simpa only[PyData.showable] using a1
  ·simpa only[PyData.leavesShort] using a2
  ·simp only[PyData.depth];lia
  ·simp only[PyData.weight];lia
  ·show dl.length<2
   lia
 exact X_
theorem Vx(D1:ak P w K mg base 1 "_law_take" ["store","many"] F_)(hr:aM 1 (XN P w K mg base f ae A outer s H E).A)(T:Txt mg)(Fi:FI pI wI n):PS (XN P w K mg base f ae A outer s H E) (stN 15) (sT d (aU d pI wI [some (ao _ 0 3),some (ao _ 0 23),some (aD _),some (aq _ 1 6),some (aA _ 9 1 6),some (aq _ (-9) 9),some (aA _ 49 (-9) 9),some (bG _),some (aL _ 9 FT),some (NF d),some (aN 13 13 (NF d))]) (aU d pI wI [some (ao _ 0 3),some (ao _ 0 23),some (aD _),some (aq _ 1 6),some (aA _ 9 1 6),some (aq _ (-9) 9),some (aA _ 49 (-9) 9),some (bG _),some (aL _ 9 FT),some (NF d),some (aN 16 16 (NF d))])):=by
 refine dX (i:=15) (P:=aN 16 16 (NF d)) (ps:=aU d pI wI [some (ao _ 0 3),some (ao _ 0 23),some (aD _),some (aq _ 1 6),some (aA _ 9 1 6),some (aq _ (-9) 9),some (aA _ 49 (-9) 9),some (bG _),some (aL _ 9 FT),some (NF d),some (aN 13 13 (NF d))]) x_.nd rfl (Or.inl rfl) ?_
 refine kZ (It:=NF d) (l1:=13) (h1:=13) (l2:=3) (h2:=3) ?_ ?_
 ·exact m_ 15 (pv 15)
 refine cD (It:=NF d) (m:=3) ?_
 refine j_ (It:=NF d) (m:=2) ?_ ?_
 ·refine fm (A:=ao _ 2 16) (B:=aL _ 2 (λns=>∃i j,ns=[i,j]/\(1<=i/\i<=1)/\6<=j/\j<=6)) (C:=aN 6 6 (aY _ 0 90)) (m_ 2 (pv 2)) (Vg J_ J_) (AI (l1:=1) (h1:=1) (n:=6) (cD (It:=aY _ 0 90) (j_ (aF J_ jj) X_)) f_) λH v1 v2 v3 h1 h2 h3=>?_
  obtain⟨i,t1,g1⟩:=fu h1 (by decide) (by decide)
  obtain⟨ns,⟨i1,j1,rfl,hi,hj⟩,t2,g2⟩:=gC h2 (by decide)
  obtain⟨a,xs,rfl,ha,na,l1,l2,it⟩:=h3
  obtain⟨dl,ts,a1,a2,a3,a4⟩:=jG it
  have hl:dl.length=6:=by rw[<-kK ts];lia
  refine⟨_,_,.list dl,t1,t2,.lst (V_ ha na) ts,g1,g2,⟨?_,?_,?_,?_⟩,?_⟩
  ·simpa only[PyData.showable] using a1
  ·simpa only[PyData.leavesShort] using a2
  ·simp only[PyData.depth];lia
  ·simp only[PyData.weight];lia
  ·have:decide (((eJ (.list dl):Nat):Int)=oA (.list ([i1,j1].map PyData.int)))=false:=by
    rw[Js]
    refine decide_eq_false ?_
    show ¬ ((dl.length:Nat):Int)=_
    simp only[a0r,List.sum_nil]
    lia
   simp only[u_,this,a2c]
 refine j_ (It:=NF d) (m:=1) ?_ ?_
 ·refine fm (A:=ao _ 2 16) (B:=cZ _ 3 7300 iF) (C:=aL _ 24 (·=wI)) (m_ 2 (pv 2)) (aF (Jv (by rfl) T.tuple (m_ 3 (pv 3))) (vJ (by decide) (by decide) λ_ h=>rJ (vK h))) (m_ 4 (pv 4)) λH v1 v2 v3 h1 h2 h3=>?_
  obtain⟨i,t1,g1⟩:=fu h1 (by decide) (by decide)
  obtain⟨y,t2,g2,hy⟩:=h2
  obtain⟨ms,rfl,t3,g3⟩:=gC h3 (by decide)
  exact⟨_,_,_,t1,t2,t3,g1,g2.up (by decide) (by decide),g3,ld hy⟩
 refine j_ (It:=NF d) (m:=0) ?_ ?_
 ·refine fm (A:=ao _ 2 16) (B:=aL _ 4 (·=pI)) (C:=cZ _ 3 7300 (gB n)) (m_ 2 (pv 2)) (m_ 3 (pv 3)) (aF (Jv (by rfl) T.tuple (m_ 4 (pv 4))) (vJ (by decide) (by decide) λ_ h=>rH (vK h))) λH v1 v2 v3 h1 h2 h3=>?_
  obtain⟨i,t1,g1⟩:=fu h1 (by decide) (by decide)
  obtain⟨ns,rfl,t2,g2⟩:=gC h2 (by decide)
  obtain⟨y,t3,g3,hy⟩:=h3
  exact⟨_,_,_,t1,t2,t3,g1,g2,g3.up (by decide) (by decide),nj hy Fi.sm⟩
 exact X_
theorem Vy(D1:ak P w K mg base 1 "_law_take" ["store","many"] F_)(hr:aM 1 (XN P w K mg base f ae A outer s H E).A)(T:Txt mg)(Fi:FI pI wI n):PS (XN P w K mg base f ae A outer s H E) (stN 16) (sT d (aU d pI wI [some (ao _ 0 3),some (ao _ 0 23),some (aD _),some (aq _ 1 6),some (aA _ 9 1 6),some (aq _ (-9) 9),some (aA _ 49 (-9) 9),some (bG _),some (aL _ 9 FT),some (NF d),some (aN 16 16 (NF d))]) (aU d pI wI [some (ao _ 0 3),some (ao _ 0 23),some (aD _),some (aq _ 1 6),some (aA _ 9 1 6),some (aq _ (-9) 9),some (aA _ 49 (-9) 9),some (bG _),some (aL _ 9 FT),some (NF d),some (aN 18 18 (NF d))])):=by
 refine dX (i:=15) (P:=aN 18 18 (NF d)) (ps:=aU d pI wI [some (ao _ 0 3),some (ao _ 0 23),some (aD _),some (aq _ 1 6),some (aA _ 9 1 6),some (aq _ (-9) 9),some (aA _ 49 (-9) 9),some (bG _),some (aL _ 9 FT),some (NF d),some (aN 16 16 (NF d))]) x_.nd rfl (Or.inl rfl) ?_
 refine kZ (It:=NF d) (l1:=16) (h1:=16) (l2:=2) (h2:=2) ?_ ?_
 ·exact m_ 15 (pv 15)
 refine cD (It:=NF d) (m:=2) ?_
 refine j_ (It:=NF d) (m:=1) ?_ ?_
 ·refine fm (A:=ao _ 2 16) (B:=cZ _ 3 7300 iF) (C:=aL _ 24 (·=wI)) (m_ 2 (pv 2)) (aF Ju (vJ (by decide) (by decide) λ_ h=>rJ (vK h))) (m_ 4 (pv 4)) λH v1 v2 v3 h1 h2 h3=>?_
  obtain⟨i,t1,g1⟩:=fu h1 (by decide) (by decide)
  obtain⟨y,t2,g2,hy⟩:=h2
  obtain⟨ms,rfl,t3,g3⟩:=gC h3 (by decide)
  exact⟨_,_,_,t1,t2,t3,g1,g2.up (by decide) (by decide),g3,ld hy⟩
 refine j_ (It:=NF d) (m:=0) ?_ ?_
 ·refine fm (A:=ao _ 2 16) (B:=aL _ 4 (·=pI)) (C:=cZ _ 3 7300 (gB n)) (m_ 2 (pv 2)) (m_ 3 (pv 3)) (aF Ju (vJ (by decide) (by decide) λ_ h=>rH (vK h))) λH v1 v2 v3 h1 h2 h3=>?_
  obtain⟨i,t1,g1⟩:=fu h1 (by decide) (by decide)
  obtain⟨ns,rfl,t2,g2⟩:=gC h2 (by decide)
  obtain⟨y,t3,g3,hy⟩:=h3
  exact⟨_,_,_,t1,t2,t3,g1,g2,g3.up (by decide) (by decide),nj hy Fi.sm⟩
 exact X_
abbrev Vz:Expr:=match stN 17 with
 | .Assign _ (.BinOp _ _ (.ListComp _ gs _ _) _) _=>(match gs with | g::_=>g.iter | _=>.Constant .none 0 ⟨0,0,0,0⟩)
 | _=>.Constant .none 0 ⟨0,0,0,0⟩
theorem VA(D1:ak P w K mg base 1 "_law_take" ["store","many"] F_)(hr:aM 1 (XN P w K mg base f ae A outer s H E).A)(T:Txt mg)(Fi:FI pI wI n):ET (XN P w K mg base f ae A outer s H E) d (aU d pI wI [some (ao _ 0 3),some (ao _ 0 23),some (aD _),some (aq _ 1 6),some (aA _ 9 1 6),some (aq _ (-9) 9),some (aA _ 49 (-9) 9),some (bG _),some (aL _ 9 FT),some (NF d),some (aN 18 18 (NF d))]) Vz (aN 6 6 (aq _ 2 16)):=by
 refine cD (It:=aq _ 2 16) (m:=6) ?_
 refine j_ (It:=aq _ 2 16) (m:=5) ?_ ?_
 ·exact aF J_ (dH (by decide) (by decide) (by decide))
 refine j_ (It:=aq _ 2 16) (m:=4) ?_ ?_
 ·exact aF J_ (dH (by decide) (by decide) (by decide))
 refine j_ (It:=aq _ 2 16) (m:=3) ?_ ?_
 ·exact aF J_ (dH (by decide) (by decide) (by decide))
 refine j_ (It:=aq _ 2 16) (m:=2) ?_ ?_
 ·exact aF (m9 J_ (m_ 2 (pv 2))) (dH (by decide) (by decide) (by decide))
 refine j_ (It:=aq _ 2 16) (m:=1) ?_ ?_
 ·exact aF (m_ 7 (pv 7)) jm
 refine j_ (It:=aq _ 2 16) (m:=0) ?_ ?_
 ·exact aF (m_ 7 (pv 7)) jm
 exact X_
theorem VB(D1:ak P w K mg base 1 "_law_take" ["store","many"] F_)(hr:aM 1 (XN P w K mg base f ae A outer s H E).A)(T:Txt mg)(Fi:FI pI wI n):PS (XN P w K mg base f ae A outer s H E) (stN 18) (sT d (aU d pI wI [some (ao _ 0 3),some (ao _ 0 23),some (aD _),some (aq _ 1 6),some (aA _ 9 1 6),some (aq _ (-9) 9),some (aA _ 49 (-9) 9),some (bG _),some (aL _ 9 FT),some (NF d),some (aN 24 24 (NF d))]) (aU d pI wI [some (ao _ 0 3),some (ao _ 0 23),some (aD _),some (aq _ 1 6),some (aA _ 9 1 6),some (aq _ (-9) 9),some (aA _ 49 (-9) 9),some (bG _),some (aL _ 9 FT),some (NF d),some (aN 29 29 (NF d))])):=by
 refine dX (i:=15) (P:=aN 29 29 (NF d)) (ps:=aU d pI wI [some (ao _ 0 3),some (ao _ 0 23),some (aD _),some (aq _ 1 6),some (aA _ 9 1 6),some (aq _ (-9) 9),some (aA _ 49 (-9) 9),some (bG _),some (aL _ 9 FT),some (NF d),some (aN 24 24 (NF d))]) x_.nd rfl (Or.inl rfl) ?_
 refine kZ (It:=NF d) (l1:=24) (h1:=24) (l2:=5) (h2:=5) ?_ ?_
 ·exact m_ 15 (pv 15)
 refine cD (It:=NF d) (m:=5) ?_
 refine j_ (It:=NF d) (m:=4) ?_ ?_
 ·refine AN (m:=2) ?_
  refine j_ (It:=aY _ 3 19000) (m:=1) ?_ ?_
  ·exact aF (m_ 2 (pv 2)) AG
  refine j_ (It:=aY _ 3 19000) (m:=0) ?_ ?_
  ·exact aF (m_ 3 (pv 3)) pB
  exact X_
 refine j_ (It:=NF d) (m:=3) ?_ ?_
 ·refine AN (m:=4) ?_
  refine j_ (It:=aY _ 3 19000) (m:=3) ?_ ?_
  ·exact aF (m_ 2 (pv 2)) AG
  refine j_ (It:=aY _ 3 19000) (m:=2) ?_ ?_
  ·exact aF (m_ 3 (pv 3)) pB
  refine j_ (It:=aY _ 3 19000) (m:=1) ?_ ?_
  ·exact aF (m_ 4 (pv 4)) pB
  refine j_ (It:=aY _ 3 19000) (m:=0) ?_ ?_
  ·refine aF (P:=aN 0 0 (aY _ 0 90)) ?_ vG
   refine cD (It:=aY _ 0 90) (m:=0) ?_
   exact X_
  exact X_
 refine j_ (It:=NF d) (m:=2) ?_ ?_
 ·refine aF (P:=aN 3 3 (aY _ 3 19000)) ?_ Jx
  refine cD (It:=aY _ 3 19000) (m:=3) ?_
  refine j_ (It:=aY _ 3 19000) (m:=2) ?_ ?_
  ·exact aF (m_ 2 (pv 2)) AG
  refine j_ (It:=aY _ 3 19000) (m:=1) ?_ ?_
  ·exact aF (m_ 3 (pv 3)) pB
  refine j_ (It:=aY _ 3 19000) (m:=0) ?_ ?_
  ·exact aF (m_ 4 (pv 4)) pB
  exact X_
 refine j_ (It:=NF d) (m:=1) ?_ ?_
 ·exact aF (aF (m_ 3 (pv 3)) rF) Jx
 refine j_ (It:=NF d) (m:=0) ?_ ?_
 ·exact aF (m_ 2 (pv 2)) Va
 exact X_
theorem VC(D1:ak P w K mg base 1 "_law_take" ["store","many"] F_)(hr:aM 1 (XN P w K mg base f ae A outer s H E).A)(T:Txt mg)(Fi:FI pI wI n):ET (XN P w K mg base f ae A outer s H E) d (aU d pI wI [some (ao _ 0 3),some (ao _ 0 23),some (aD _),some (aq _ 1 6),some (aA _ 9 1 6),some (aq _ (-9) 9),some (aA _ 49 (-9) 9),some (bG _),some (aL _ 9 FT),some (NF d),some (aN 29 29 (NF d))]) (rK (stN 19)) (NF d):=by
 refine jV (l1:=35) (h1:=35) (j:=34) (It:=NF d) ?_ (AQ (lo:=35) (hi:=35) D1 hr (by rfl) (m_ 0 (pv 0)) (pz (l1:=29) (h1:=29) (l2:=6) (h2:=6) (Vq T.len (by rfl) (m_ 15 (pv 15))) J_))
 refine kZ (It:=NF d) (l1:=29) (h1:=29) (l2:=6) (h2:=6) ?_ ?_
 ·exact m_ 15 (pv 15)
 refine cD (It:=NF d) (m:=6) ?_
 refine j_ (It:=NF d) (m:=5) ?_ ?_
 ·exact Vc
 refine j_ (It:=NF d) (m:=4) ?_ ?_
 ·exact Jy vL
 refine j_ (It:=NF d) (m:=3) ?_ ?_
 ·exact Vd
 refine j_ (It:=NF d) (m:=2) ?_ ?_
 ·refine AN (m:=0) ?_
  exact X_
 refine j_ (It:=NF d) (m:=1) ?_ ?_
 ·exact Vb
 refine j_ (It:=NF d) (m:=0) ?_ ?_
 ·exact Jy Vr
 exact X_
end
section
variable{P:Program}{w:World}{K:PySem.W.Frag}{mg:Str->Option Value}{base:Heap}{f:Addr}{ae:Value}{A:Around}{outer:List Env}{s:Shared}{H:Hp}{E:XK}{d:Addr}{pI wI:List Int}{n:Nat}
theorem VD(D1:ak P w K mg base 1 "_law_take" ["store","many"] F_)(hr:aM 1 (XN P w K mg base f ae A outer s H E).A)(T:Txt mg)(Fi:FI pI wI n):PS (XN P w K mg base f ae A outer s H E) (stN 17) (sT d (aU d pI wI [some (ao _ 0 3),some (ao _ 0 23),some (aD _),some (aq _ 1 6),some (aA _ 9 1 6),some (aq _ (-9) 9),some (aA _ 49 (-9) 9),some (bG _),some (aL _ 9 FT),some (NF d),some (aN 18 18 (NF d))]) (aU d pI wI [some (ao _ 0 3),some (ao _ 0 23),some (aD _),some (aq _ 1 6),some (aA _ 9 1 6),some (aq _ (-9) 9),some (aA _ 49 (-9) 9),some (bG _),some (aL _ 9 FT),some (NF d),some (aN 24 24 (NF d))])):=by
 refine dX (i:=15) (P:=aN 24 24 (NF d)) (ps:=aU d pI wI [some (ao _ 0 3),some (ao _ 0 23),some (aD _),some (aq _ 1 6),some (aA _ 9 1 6),some (aq _ (-9) 9),some (aA _ 49 (-9) 9),some (bG _),some (aL _ 9 FT),some (NF d),some (aN 18 18 (NF d))]) x_.nd rfl (Or.inl rfl) ?_
 refine kZ (It:=NF d) (l1:=18) (h1:=18) (l2:=6) (h2:=6) (m_ 15 (pv 15)) ?_
 refine bS (iW (g_ kG) AX ["parts","weights"] [3,4] rfl (S_ (VA (d:=d) D1 hr T Fi)) (λcl C s H fp=>fZ) (λcl C s H fp=>dJ (a_ (pv 0) (a_ (pv 1) (a_ (pv 2) e_)))) (by decide +kernel)) fun σ H0 Q c k q=>?_
 refine⟨c,k,λv1 H1 S1 k1 p1=>?_⟩
 obtain⟨a,xs,rfl,ha,na,l1,l2,it⟩:=p1
 have c1:=c.bA k1
 obtain⟨v3,e3,a3,VE,rfl,h3,n3,_,b3,z3⟩:=c1.get (i:=3) rfl
 obtain⟨v4,e4,a4,VF,rfl,h4,n4,_,b4,z4⟩:=c1.get (i:=4) rfl
 rw[show VE=pI from z3] at h3 b3
 rw[show VF=wI from z4] at h4 b4
 have vP:=(pA b3 (L:=4) (by have:=Fi.l4;lia)).up (n':=3) (w':=26000) (by decide) (by decide)
 have oX:=(pA b4 (L:=24) (by have:=Fi.wl;have:=Fi.AU;lia)).up (n':=3) (w':=26000) (by decide) (by decide)
 refine⟨a,rfl,⟨_,af.of ha⟩,iX (K:=K) (a:=a) (xs:=xs) (λi ys H'=>ys.length=i/\ag H1 H'/\∀y∈ys,(NF d).holds H' y) ⟨rfl,ag.refl _,λy hy=>by simp at hy⟩ (λi ys H' _ p=>af.of (p.2.1 _ _ ha)) ?_ ?_⟩
 ·rintro i x ys H' hx ⟨hl,s',hy⟩
  have mn:i<xs.length:=(ZX.mp hx).1
  have f1:((U_ 1 [3,4] σ).set 0 (some x))[1]?=some (some (.ref a3)):=by simp[U_,e3]
  have f2:((U_ 1 [3,4] σ).set 0 (some x))[2]?=some (some (.ref a4)):=by simp[U_,e4]
  have f0:((U_ 1 [3,4] σ).set 0 (some x))[0]?=some (some x):=by simp[U_]
  refine⟨cq (by lia),_,f0,_,f1,_,f2,sz (by simp),λt ht=>⟨by simp[hl],s'.trans (b_ ht),λy cz=>?_⟩⟩
  have st:=b_ (o:=.tup [x,.ref a3,.ref a4]) ht
  rcases a0s.mp cz with cz | cz
  ·exact(NF d).bA _ _ _ (Kp.of st) (hy y cz)
  ·have:y=.ref t:=by simpa using cz
   subst this
   have sA:=s'.trans st
   obtain⟨⟨dx,tx,gx⟩,bx⟩:=(aq [d] 2 16).bA _ _ _ (Kp.of sA) (it x (Z1 hx))
   have vQ:=gx.up (n':=3) (w':=26000) (by decide) (by decide)
   refine⟨.tuple [dx,.list (pI.map PyData.int),.list (wI.map PyData.int)],.tup (V_ d_ ((S1.keep s').cc ht)) (.cons tx (.cons (.lst (V_ (sA _ _ h3) n3) (Q_ _)) (.cons (.lst (V_ (sA _ _ h4) n4) (Q_ _)) .nil))),⟨?_,?_,?_,?_⟩,Vh (by rw[<-yY tx];exact bx)⟩
   ·simp only[PyData.showable,PyData.showableAll] at *
    have x3:=vP.sh
    have x4:=oX.sh
    have x2:=vQ.sh
    simp only[PyData.showable] at x3 x4
    simp[x2,x3,x4]
   ·have x3:=vP.lv
    have x4:=oX.lv
    have x2:=vQ.lv
    simp only[PyData.leavesShort] at x3 x4
    simp only[PyData.leavesShort,PyData.leavesShortAll,x2,x3,x4,a0X]
   ·have x3:=vP.dp
    have x4:=oX.dp
    have x2:=vQ.dp
    simp only[PyData.depth] at x3 x4
    simp only[PyData.depth,PyData.depthAll]
    lia
   ·have x3:=vP.wt
    have x4:=oX.wt
    have x2:=vQ.wt
    simp only[PyData.weight] at x3 x4
    simp only[PyData.weight,PyData.weightAll]
    lia
 ·rintro ys H' ⟨hl,s',hy⟩ t ht
  have st:=b_ (o:=.lst ys) ht
  exact q _ _ (S1.keep (s'.trans st)) (k1.same (s'.trans st)) ⟨t,ys,rfl,d_,(S1.keep s').cc ht,by lia,by lia,λy cz=>(NF d).bA _ _ _ (Kp.of st) (hy y cz)⟩
theorem VG(D1:ak P w K mg base 1 "_law_take" ["store","many"] F_)(hr:aM 1 (XN P w K mg base f ae A outer s H E).A)(T:Txt mg)(Fi:FI pI wI n):cN (XN P w K mg base f ae A outer s H E) [stN 19] (sR d (aU d pI wI [some (ao _ 0 3),some (ao _ 0 23),some (aD _),some (aq _ 1 6),some (aA _ 9 1 6),some (aq _ (-9) 9),some (aA _ 49 (-9) 9),some (bG _),some (aL _ 9 FT),some (NF d),some (aN 29 29 (NF d))]) (NF d)) :=
 AS (h_ (n_ (VC (d:=d) D1 hr T Fi))) λD σ H ⟨c,k,q⟩=>⟨c,k,λv H' S' k' hv=>q v H' S' k' hv⟩
end
section
variable{P:Program}{w:World}{K:PySem.W.Frag}{mg:Str->Option Value}{base:Heap}
theorem VH:z_ kG=stN 0::stN 1::stN 2::(.Assign [(.Name "odd" ⟨297,4,297,7⟩)] (.Subscript kL (.Call (.Name "_law_take" ⟨297,75,297,84⟩) [(.Name "store" ⟨297,85,297,90⟩),(.Constant (.int 10) 0 ⟨297,92,297,94⟩)] [] ⟨297,75,297,95⟩) ⟨297,10,297,96⟩) ⟨297,4,297,96⟩)::(z_ kG).drop 4:=by rw[JF];rfl
theorem VI{f:Addr}{fd:FuncData}(F:aG K "_law_no_frame" "_law_no_frame" kG f fd)(T:Txt mg)(D1:ak P w K mg base 1 "_law_take" ["store","many"] F_):ax P w K mg base aK 2 f fd ["store","frame"] AW:=by
 refine F.ok x_ (λvs H Q E h=>?_) (λae A outer s H vs Q E hr h=>?_)
 ·obtain⟨d,g,a,c,b,ps,ws,rfl,_⟩:=h;rfl
 ·obtain⟨d,g,a,c,b,ps,ws,rfl,S,G,ng,na,nc,k⟩:=h
  have nd:=x_.nd
  have ok:=G.ok
  have Fi:=ok.fi
  rw[VH]
  refine⟨_,c_ (sv (pv 1) (ss rfl (N_ (q_ (i:=2) nd rfl (Or.inl rfl)) (N_ (q_ (i:=3) nd rfl (Or.inr rfl)) (N_ (q_ (i:=4) nd rfl (Or.inr rfl)) nV)))))
   (R_ (n1 (d:=d) (o5:=none) (o6:=none) (o7:=none) (o8:=none) (o9:=none) (o10:=none) (o11:=none) (o12:=none) (o13:=none) (o14:=none) (o15:=none) D1 hr T Fi) (R_ (n2 (d:=d) D1 hr T Fi) (R_ (n3 (d:=d) D1 hr T Fi) (R_ (n4 (d:=d) D1 hr T Fi) (R_ (n5 (d:=d) D1 hr T Fi) (R_ (n6 (d:=d) D1 hr T Fi) (R_ (n7 (d:=d) D1 hr T Fi) (R_ (n8 (d:=d) D1 hr T Fi) (R_ (n9 (d:=d) D1 hr T Fi) (R_ (Vs (d:=d) D1 hr T Fi) (R_ (Vt (d:=d) D1 hr T Fi) (R_ (Vu (d:=d) D1 hr T Fi) (R_ (Vv (d:=d) D1 hr T Fi) (R_ (Vw (d:=d) D1 hr T Fi) (R_ (Vx (d:=d) D1 hr T Fi) (R_ (Vy (d:=d) D1 hr T Fi) (R_ (VD (d:=d) D1 hr T Fi) (R_ (VB (d:=d) D1 hr T Fi) (VG D1 hr T Fi))))))))))))))))))),?_⟩
  refine⟨_,rfl,g,_,rfl,bo.of G.tp,rfl,_,_,rfl,_,_,rfl,_,_,rfl,rfl,?_⟩
  have C0:Cp (aU d (ps.map λ(p:Nat)=>(p:Int)) ws [none,none,none,none,none,none,none,none,none,none,none]) [some (.ref d),some (.ref g),some (.int (b:Int)),some (.ref a),some (.ref c),none,none,none,none,none,none,none,none,none,none,none] H :=
   .cons (λP e=>by cases e;exact⟨_,rfl,rfl⟩) (.cons (λP e=>by cases e) (.cons (λP e=>by cases e;exact⟨_,rfl,_,rfl,by have:=ok.b2;lia,by have:=ok.dS;lia⟩)
    (.cons (λP e=>by cases e;exact⟨_,rfl,a,_,rfl,by rw[<-tO];exact G.hp,na,by rw[ZW];exact ok.l4,λx hx=>by have:=Fi.p1 x hx;lia,rfl⟩)
    (.cons (λP e=>by cases e;exact⟨_,rfl,c,_,rfl,G.hw,nc,by have:=ok.wl;have:=ok.sum;lia,λx hx=>by have:=ok.wr x hx;lia,rfl⟩)
    (.cons (λP e=>by cases e) (.cons (λP e=>by cases e) (.cons (λP e=>by cases e) (.cons (λP e=>by cases e) (.cons (λP e=>by cases e) (.cons (λP e=>by cases e) (.cons (λP e=>by cases e) (.cons (λP e=>by cases e) (.cons (λP e=>by cases e) (.cons (λP e=>by cases e) (.cons (λP e=>by cases e) .nil)))))))))))))))
  exact⟨C0,S,λv H' S' k' p'=>k v H' S' k' p'⟩
end
structure dN(P:Program)(w:World)(K:PySem.W.Frag)(mg:Str->Option Value)(base:Heap)(k:Nat)(C:Addr)(m:Str)(ps:List Str)(sp:Sp):Prop where
 ex:∃f fd,ax P w K mg base aK k f fd ps sp/\nY K C m f/\Binds K fd ps []
structure vR(P:Program)(w:World)(K:PySem.W.Frag)(mg:Str->Option Value)(base:Heap)(k:Nat)(x:Str)(C:Addr)(ps:List Str)(sp:Sp):Prop where
 ex:∃f fd,ax P w K mg base aK k f fd ps sp/\Mk K C f/\mg x=some (.ref C)/\Binds K fd ps []
section
variable{X:Cx}{k:Nat}{C:Addr}{x m:Str}{ps:List Str}{sp:Sp}{e o:Expr}{es:List Expr}{t:TA}{ta:TE}{p pos bH:Pos}
theorem vS{pl:Sem Bool}(c:ck X.K C)(D:dN X.prog X.w X.K X.mg X.base k C m ps sp)(hr:aM k X.A)(he:PE X o ta)(ha:PA X (e::es) t)
  (eh:starEach (e::es) X.env=(false,eval e X.env)::starEach es X.env:=by rfl) (hpl:(backTo pos (starEach es X.env)).any (·.1)=false:=by rfl)
  (ht:eval (.Call (.Attribute o m bH) (e::es) [] pos) X.env=(do
   let ov <-eval o X.env
   standAt bH.atName
   let (f,first) <-holding [ov] (getMethod ov m pl)
   callWith pos f first (backTo pos (starEach (e::es) X.env)) (backToKw pos (keywordEach [] X.env))):=by rfl) :
  PE X (.Call (.Attribute o m bH) (e::es) [] pos) (sM C m sp [] E0 ta t):=by
 obtain⟨f,fd,G,h1,h2⟩:=D.ex
 exact Nj he c h1 G hr h2 .nil sY ha eh hpl ht
theorem lf{pl:Sem Bool}(c:ck X.K C)(D:dN X.prog X.w X.K X.mg X.base k C m ps sp)(hr:aM k X.A)(he:PE X o ta)
  (ht:eval (.Call (.Attribute o m bH) [] [] pos) X.env=(do
   let ov <-eval o X.env
   standAt bH.atName
   let (f,first) <-holding [ov] (getMethod ov m pl)
   callWith pos f first (backTo pos (starEach [] X.env)) (backToKw pos (keywordEach [] X.env))):=by rfl) :
  PE X (.Call (.Attribute o m bH) [] [] pos) (sM C m sp [] E0 ta lQ):=by
 obtain⟨f,fd,G,h1,h2⟩:=D.ex
 exact Nk he c h1 G hr h2 .nil sY ht
theorem VJ(D:vR X.prog X.w X.K X.mg X.base k x C ps sp)(hr:aM (k+1) X.A)(hg:Gl X x)(ha:PA X (e::es) t)(dL:(x==("__debug__":Str))=false:=by decide)
  (he:starEach (e::es) X.env=(false,eval e X.env)::starEach es X.env:=by rfl) (hpl:(backTo pos (starEach es X.env)).any (·.1)=false:=by rfl):PE X (.Call (.Name x p) (e::es) [] pos) (Ep C sp [] E0 t):=by
 obtain⟨f,fd,G,h1,h2,h3⟩:=D.ex
 exact Nm h1 G hr hg h2 h3 .nil sY ha dL he hpl
end
abbrev AF:=Addr×Addr×Addr
def lg:Sp:=λvs H Q _=>∃(f a c:Addr) (b:Nat) (ps:List Nat) (ws:List Int),vs=[.ref f]/\aS H f a c b ps ws/\∀(f' a' c':Addr) (H':Hp),ag H H'->aS H' f' a' c' b ps ws->H f'=none->H a'=none->H c'=none->a'≠c'->Q (.ref f') H'
def nu(sl:Addr):List (Str×V):=ej "standing" (.ref sl) []
theorem iG{sl:Addr}:(nu sl).lookup ("standing":Str)=some (.ref sl):=by
 unfold nu
 rw[sK,if_pos rfl]
theorem gD{sl:Addr}{m:Str}(h:¬ m="standing"):(nu sl).lookup m=none:=by
 unfold nu
 rw[sK,if_neg h]
 rfl
structure bI(C:Addr)(H:Hp)(kp dx sl:Addr)(as:List AF)(b:Nat)(ps:List Nat)(cj:List (List Int)):Prop where
 ob:H kp=some (.ins C dx (nu sl))
 ls:H sl=some (.lst (as.map λx=>V.ref x.1))
 len:as.length=cj.length
 each:∀(i:Nat) (x:AF) (ws:List Int),as[i]?=some x->cj[i]?=some ws->aS H x.1 x.2.1 x.2.2 b ps ws
structure AY(kp sl:Addr)(as:List AF)(y:Addr):Prop where
 k:y≠kp
 s:y≠sl
 f:∀x∈as,y≠x.1/\y≠x.2.1/\y≠x.2.2
section
variable{C:Addr}{H H':Hp}{kp dx sl:Addr}{as:List AF}{b:Nat}{ps:List Nat}{cj:List (List Int)}
theorem bI.keep(S:bI C H kp dx sl as b ps cj)(s:ag H H'):bI C H' kp dx sl as b ps cj:=⟨s _ _ S.ob,s _ _ S.ls,S.len,λi x ws h1 h2=>(S.each i x ws h1 h2).keep s⟩
theorem bI.JG{fp:List Addr}(S:bI C H kp dx sl as b ps cj)(k:Kp fp H H')(h:∀y∈fp,AY kp sl as y):bI C H' kp dx sl as b ps cj:=by
 refine⟨k _ _ S.ob λz=>(h _ z).k rfl,k _ _ S.ls λz=>(h _ z).s rfl,S.len,λi x ws h1 h2=>?_⟩
 have G:=S.each i x ws h1 h2
 have m:=Z1 h1
 exact⟨k _ _ G.tp λz=>((h _ z).f x m).1 rfl,k _ _ G.hp λz=>((h _ z).f x m).2.1 rfl,k _ _ G.hw λz=>((h _ z).f x m).2.2 rfl,G.ok⟩
theorem bI.last{ar:List (List Int)}{ws:List Int}(S:bI C H kp dx sl as b ps (ar++[ws])):∃ai x,as=ai++[x]/\ai.length=ar.length/\aS H x.1 x.2.1 x.2.2 b ps ws/\dQ (as.map λx=>V.ref x.1) (-1)=some (V.ref x.1):=by
 have aZ:as≠[]:=λz=>by have:=S.len;rw[z] at this;simp at this
 refine⟨as.dropLast,as.getLast aZ,(a1o aZ).symm,?_,?_,?_⟩
 ·rw[List.length_dropLast,S.len];simp
 ·refine S.each (as.length-1) _ _ ?_ ?_
  ·rw[<-List.getLast?_eq_getElem?,List.getLast?_eq_some_getLast aZ]
  ·rw[S.len,a0j,a0W,Nat.add_sub_cancel,a0q (Z0 _)];simp
 ·have e:(as.map λx=>V.ref x.1)=(as.dropLast.map λx=>V.ref x.1)++[V.ref (as.getLast aZ).1]:=by
   conv=>lhs;rw[<-a1o aZ]
   rw[a0p];rfl
  rw[e];exact xF _ _
theorem bI.push{ws:List Int}{x:AF}(S:bI C H kp dx sl as b ps cj)(G:aS H x.1 x.2.1 x.2.2 b ps ws)(hk:kp≠sl)(ho:∀x'∈as++[x],sl≠x'.1/\sl≠x'.2.1/\sl≠x'.2.2):bI C (upd H sl (.lst ((as.map λx=>V.ref x.1)++[V.ref x.1]))) kp dx sl (as++[x]) b ps (cj++[ws]):=by
 have mv:∀ {y:AF} {v:List Int},(sl≠y.1/\sl≠y.2.1/\sl≠y.2.2)->aS H y.1 y.2.1 y.2.2 b ps v->aS (upd H sl (.lst ((as.map λx=>V.ref x.1)++[V.ref x.1]))) y.1 y.2.1 y.2.2 b ps v:=λh g =>
  ⟨by rw[i_ h.1.symm];exact g.tp,by rw[i_ h.2.1.symm];exact g.hp,by rw[i_ h.2.2.symm];exact g.hw,g.ok⟩
 refine⟨by rw[i_ hk];exact S.ob,by rw[d_,a0p];rfl,by simp[S.len],λi y v h1 h2=>?_⟩
 by_cases hi:i<as.length
 ·rw[a0i hi] at h1
  rw[a0i (by rw[<-S.len];exact hi)] at h2
  exact mv (ho y (a0N _ (Z1 h1))) (S.each i y v h1 h2)
 ·have hl:=(ZX.mp h1).1
  rw[a0j,a0W] at hl
  have e:i=as.length:=by lia
  subst e
  rw[a0q (Z0 _)] at h1
  rw[S.len,a0q (Z0 _)] at h2
  simp at h1 h2
  subst h1;subst h2
  exact mv (ho x (a0m _ (a0h.mpr rfl))) G
theorem bI.AZ(S:bI C H kp dx sl as b ps cj)(aZ:as≠[]):kp≠sl/\∀x'∈as,sl≠x'.1/\sl≠x'.2.1/\sl≠x'.2.2:=by
 refine⟨λz=>(by have h1:=S.ob;rw[z,S.ls] at h1;cases h1),λx hx=>?_⟩
 obtain⟨i,hi⟩:=a0P hx
 have hl:i<cj.length:=by rw[<-S.len];exact(ZX.mp hi).1
 have G:=S.each i x _ hi (a0A hl)
 have l2:=G.ok.l2
 have fK:=G.ok.wl
 have VL:=G.ok.sum
 obtain⟨x0,r,rfl⟩:=List.exists_cons_of_ne_nil aZ
 refine⟨λz=>?_,λz=>?_,λz=>?_⟩
 ·have h1:=G.tp;rw[<-z,S.ls] at h1;cases h1
 ·have h1:=G.hp;rw[<-z,S.ls] at h1
  cases ps with
  | nil=>simp at l2
  | cons p q=>simp[ay] at h1
 ·have h1:=G.hw;rw[<-z,S.ls] at h1
  generalize cj[i]=ww at h1 fK VL
  cases ww with
  | nil=>simp at fK;lia
  | cons p q=>simp at h1
theorem bI.pop{ws:List Int}{ai:List AF}{x:AF}(S:bI C H kp dx sl (ai++[x]) b ps (cj++[ws]))(aZ:ai≠[]):bI C (upd H sl (.lst (ai.map λx=>V.ref x.1))) kp dx sl ai b ps cj:=by
 have ⟨o1,o2⟩:=S.AZ (by simp)
 have hl:ai.length=cj.length:=by have:=S.len;simp at this;exact this
 refine⟨by rw[i_ o1];exact S.ob,d_,hl,λi y v h1 h2=>?_⟩
 have hi:=(ZX.mp h1).1
 have g:=S.each i y v (by rw[a0i hi];exact h1) (by rw[a0i (by lia)];exact h2)
 have h:=o2 y (a0N _ (Z1 h1))
 exact⟨by rw[i_ h.1.symm];exact g.tp,by rw[i_ h.2.1.symm];exact g.hp,by rw[i_ h.2.2.symm];exact g.hw,g.ok⟩
end
abbrev lh(b:Nat)(ps:List Nat)(ws:List Int):Int:=Mx.bF b 0 ps ws (b ^ ps.sum)
def rM:Sp:=λvs H Q _=>∃(f a c:Addr) (b:Nat) (ps:List Nat) (ws:List Int) (p:Nat) (wt:Int),vs=[.ref f,.int p,.int wt]/\aS H f a c b ps ws/\p<ws.length/\-9<=wt/\wt<=9/\∀(f' a' c':Addr) (H':Hp),ag H H'->aS H' f' a' c' b ps (ws.set p wt)->H f'=none->H a'=none->H c'=none->Q (.ref f') H'
def vT(C:Addr):Sp:=λvs H Q _=>∃(kp dx f a c:Addr) (b:Nat) (ps:List Nat) (ws:List Int),vs=[.ref kp,.ref f]/\H kp=some (.ins C dx [])/\aS H f a c b ps ws/\∀(sl:Addr) (x:AF) (H':Hp),H sl=none->H x.1=none->H x.2.1=none->H x.2.2=none->bI C H' kp dx sl [x] b ps [ws]->Kp [kp] H H'->Q .aw H'
def rN(C:Addr):Sp:=λvs H Q _=>∃(kp dx sl:Addr) (as:List AF) (b:Nat) (ps:List Nat) (ar:List (List Int)) (ws:List Int) (p:Nat) (wt:Int),vs=[.ref kp,.int p,.int wt]/\bI C H kp dx sl as b ps (ar++[ws])/\p<ws.length/\-9<=wt/\wt<=9/\ar.length<=1000/\
 ∀(t:Addr) (x:AF) (H':Hp),H t=none->H' t=some (.tup [.int (lh b ps ws),.int (lh b ps (ws.set p wt))])->H x.1=none->H x.2.1=none->H x.2.2=none->bI C H' kp dx sl (as++[x]) b ps (ar++[ws]++[ws.set p wt])->Kp [sl] H H'->Q (.ref t) H'
def rO(C:Addr):Sp:=λvs H Q _=>∃(kp dx sl:Addr) (ai:List AF) (x:AF) (b:Nat) (ps:List Nat) (ar:List (List Int)) (ws wz:List Int),vs=[.ref kp]/\bI C H kp dx sl (ai++[x]) b ps (ar++[ws]++[wz])/\ar.length<=1000/\
 ∀(t:Addr) (H':Hp),H t=none->H' t=some (.tup [.int (lh b ps wz),.int (lh b ps ws)])->bI C H' kp dx sl ai b ps (ar++[ws])->Kp [sl] H H'->Q (.ref t) H'
def vU(C:Addr):Sp:=λvs H Q _=>∃(kp dx sl:Addr) (as:List AF) (b:Nat) (ps:List Nat) (ar:List (List Int)) (ws:List Int),vs=[.ref kp]/\bI C H kp dx sl as b ps (ar++[ws])/\∀(f' a' c':Addr) (H':Hp),ag H H'->aS H' f' a' c' b ps ws->H f'=none->H a'=none->H c'=none->Q (.ref f') H'
def rP(C:Addr):Sp:=λvs H Q _=>∃(kp dx sl:Addr) (as:List AF) (b:Nat) (ps:List Nat) (ar:List (List Int)) (ws:List Int) (d:Nat),vs=[.ref kp,.int d]/\bI C H kp dx sl as b ps (ar++[ws])/\∀H':Hp,ag H H'->Q (.int (Mx.bF b d ps ws (b ^ ps.sum))) H'
def rQ(C:Addr):Sp:=λvs H Q _=>∃(kp dx sl:Addr) (as:List AF) (b:Nat) (ps:List Nat) (ar:List (List Int)) (ws:List Int) (k:Nat),vs=[.ref kp,.int k]/\bI C H kp dx sl as b ps (ar++[ws])/\∀(v:V) (H':Hp),ag H H'->gA b 0 ps ws k v->Q v H'
def pC(C:Addr):Sp:=λvs H Q _=>∃(kp dx sl:Addr) (as:List AF) (b:Nat) (ps:List Nat) (cj:List (List Int)),vs=[.ref kp]/\bI C H kp dx sl as b ps cj/\Q (.int ((cj.length:Int)-1)) H
theorem VM{n p:Nat}(h:p<n):im n (p:Int)=some p:=by
 unfold im
 simp
 lia
section
variable{P:Program}{w:World}{K:PySem.W.Frag}{mg:Str->Option Value}{base:Heap}{C:Addr}
theorem JH:aQ ["frame"] ["frame"] (g_ yD):=⟨rfl,rfl,rfl,by decide +kernel,rfl,by decide +kernel,by decide +kernel⟩
theorem VN{f:Addr}{fd:FuncData}(F:aG K "copy_of" "copy_of" yD f fd)(T:Txt mg):ax P w K mg base aK 1 f fd ["frame"] lg:=by
 refine F.ok JH (λvs H Q E h=>?_) (λae A outer s H vs Q E hr h=>?_)
 ·obtain⟨f,a,c,b,ps,ws,rfl,_⟩:=h;rfl
 ·obtain⟨f,a,c,b,ps,ws,rfl,G,k⟩:=h
  have nd:=JH.nd
  refine⟨_,(h_ (n_ (dJ (a_ (bX (pv 0) f_) (a_ (lS sS (by rfl) T.list boot_list (a_ (bX (pv 0) f_) e_)) (a_ (lS sS (by rfl) T.list boot_list (a_ (bX (pv 0) f_) e_)) e_)))))),?_⟩
  refine⟨_,rfl,_,_,_,_,rfl,rfl,bo.of G.tp,rfl,⟨_,rfl,_,_,_,_,rfl,rfl,bo.of G.tp,rfl,⟨a,_,rfl,.inl (af.of G.hp),λa' nv=>?_⟩⟩⟩
  have s1:=b_ (o:=.lst (ay ps)) nv
  have u1:(upd H a' (.lst (ay ps))) a'=_:=d_
  generalize upd H a' (.lst (ay ps))=H1 at s1 u1⊢
  refine⟨_,rfl,_,_,_,_,rfl,rfl,bo.of (s1 _ _ G.tp),rfl,⟨c,_,rfl,.inl (af.of (s1 _ _ G.hw)),λc' fU=>⟨sz (by simp),λf' jK=>?_⟩⟩⟩
  have s2:=b_ (o:=.lst (ws.map V.int)) fU
  have s3:=b_ (o:=.tup [.int b,.ref a',.ref c']) jK
  exact k f' a' c' _ (s1.trans (s2.trans s3)) ⟨d_,s3 _ _ (s2 _ _ u1),s3 _ _ d_,G.ok⟩ (s1.free (s2.free jK)) nv (s1.free fU) (λz=>by rw[<-z,u1] at fU;cases fU)
theorem A1:aQ ["frame","place","weight","changed"] ["frame","place","weight"] (g_ ud):=⟨rfl,rfl,rfl,by decide +kernel,rfl,by decide +kernel,by decide +kernel⟩
theorem JI{f:Addr}{fd:FuncData}(F:aG K "with_weight" "with_weight" ud f fd)(T:Txt mg)(jX:ak P w K mg base 2 "is_between" ["thing","least","greatest"] me)(jn:ak P w K mg base 1 "copy_of" ["frame"] lg):ax P w K mg base aK 3 f fd ["frame","place","weight"] rM:=by
 refine F.ok A1 (λvs H Q E h=>?_) (λae A outer s H vs Q E hr h=>?_)
 ·obtain⟨f,a,c,b,ps,ws,p,wt,rfl,_⟩:=h;rfl
 ·obtain⟨f,a,c,b,ps,ws,p,wt,rfl,G,hp,w1,w2,k⟩:=h
  have nd:=A1.nd
  refine⟨_,(c_ (Z_ (d9 (dP (o_ jX hr (by rfl) (a_ (pv 1) (a_ f_ (a_ (p_ fF (dC T.len (by rfl) (bX (pv 0) f_)) f_) e_)))))) O_ w_)
   (c_ (Z_ (d9 (dP (o_ jX hr (by rfl) (a_ (pv 2) (a_ (fE fI f_) (a_ f_ e_)))))) O_ w_)
   (c_ (k_ (i:=3) nd rfl (Or.inl rfl) (o_ jn hr.mo (by rfl) (a_ (pv 0) e_)))
   (c_ (sv (pv 2) (xm (bX (pv 3) f_) (pv 1) xI))
   (h_ (n_ (pv 3))))))),?_⟩
  refine⟨_,rfl,_,rfl,tN G.tp rfl ⟨c,_,rfl,.inl (af.of G.hw),_,_,rfl,rfl,.int (p:Int),0,_,rfl,.int _,_,rfl,?_⟩⟩
  rw[show cC (.int (p:Int)) 0 ((((ws.map V.int).length:Nat):Int)-1)=true by simp[cC];lia]
  refine aX ⟨_,rfl,_,rfl,.int wt,-9,9,rfl,.int _,_,rfl,?_⟩
  rw[show cC (.int wt) (-9) 9=true by simp[cC];lia]
  refine aX ⟨_,rfl,f,a,c,b,ps,ws,rfl,G,λf' a' c' H1 s1 G1 nf na nc A2=>?_⟩
  refine⟨_,rfl,_,rfl,_,_,_,_,rfl,rfl,bo.of G1.tp,rfl,_,rfl,c',_,_,p,rfl,rfl,G1.hw,by rw[ZW];exact VM hp,?_⟩
  have e:(ws.map V.int).set p (V.int wt)=(ws.set p wt).map V.int:=by rw[List.map_set]
  have VO:f'≠c':=λz=>by have h1:=G1.tp;rw[z,G1.hw] at h1;cases h1
  refine⟨_,rfl,k f' a' c' _ ?_ ⟨by rw[i_ VO];exact G1.tp,by rw[i_ A2];exact G1.hp,by rw[d_,e],?_⟩ nf na nc⟩
  ·intro y o hy
   rw[i_ (λz=>by rw[z,nc] at hy;cases hy)]
   exact s1 y o hy
  ·exact⟨G.ok.b2,G.ok.dS,G.ok.l2,G.ok.l4,G.ok.pr,by rw[a2q];exact G.ok.wl,λv hv=>by
    rcases List.mem_or_eq_of_mem_set hv with h | h
    ·exact G.ok.wr v h
    ·subst h;exact⟨w1,w2⟩⟩
theorem A3:aQ ["self","frame"] ["self","frame"] (g_ uf):=⟨rfl,rfl,rfl,by decide +kernel,rfl,by decide +kernel,by decide +kernel⟩
theorem VP{f:Addr}{fd:FuncData}(F:aG K "__init__" "Keeper.__init__" uf f fd)(nS:eT K C "standing")(gE:ak P w K mg base 5 "need_frame" ["thing"] G_)(jn:ak P w K mg base 1 "copy_of" ["frame"] lg)(cl:ck K C):ax P w K mg base aK 6 f fd ["self","frame"] (vT C):=by
 refine F.ok A3 (λvs H Q E h=>?_) (λae A outer s H vs Q E hr h=>?_)
 ·obtain⟨kp,dx,f,a,c,b,ps,ws,rfl,_⟩:=h;rfl
 ·obtain⟨kp,dx,f,a,c,b,ps,ws,rfl,hk,G,k⟩:=h
  have nd:=A3.nd
  refine⟨_,(c_ (C_ (o_ gE hr (by rfl) (a_ (pv 1) e_)))
   (h_ (Nd (pv 0) (A_ (a_ (o_ jn hr.mo (by rfl) (a_ (pv 1) e_)) e_)) rfl))),?_⟩
  refine⟨_,rfl,f,a,c,b,ps,ws,rfl,G,λH1 s1=>?_⟩
  refine⟨_,rfl,f,a,c,b,ps,ws,rfl,G.keep s1,λf' a' c' H2 s2 G2 nf na nc A2=>⟨sz (by simp),λsl dG=>?_⟩⟩
  have s3:=b_ (o:=.lst [V.ref f']) dG
  have u3:(upd H2 sl (.lst [V.ref f'])) sl=_:=d_
  generalize upd H2 sl (.lst [V.ref f'])=H3 at s3 u3⊢
  have S3:=(s1.trans s2).trans s3
  have VQ:=S3 _ _ hk
  have G3:=G2.keep s3
  have nk:∀ {y:Addr} {o:HO},H y=none->y≠kp:=λh z=>by rw[z,hk] at h;cases h
  refine⟨_,rfl,kp,C,dx,[],rfl,VQ,cl,nS,by show 0<1000;decide,?_⟩
  refine k sl (f',a',c') _ ((s1.trans s2).free dG) (s1.free nf) (s1.free na) (s1.free nc) ⟨d_,?_,rfl,?_⟩ ?_
  ·rw[i_ (nk (o:=.lst []) ((s1.trans s2).free dG))];exact u3
  ·intro i x v h1 h2
   have hi:=(ZX.mp h1).1
   have e:i=0:=by simp at hi;lia
   subst e
   simp at h1 h2
   subst h1;subst h2
   exact⟨by rw[i_ (nk (o:=.lst []) (s1.free nf))];exact G3.tp,by rw[i_ (nk (o:=.lst []) (s1.free na))];exact G3.hp,by rw[i_ (nk (o:=.lst []) (s1.free nc))];exact G3.hw,G3.ok⟩
  ·intro y o hy hn
   rw[i_ (λz=>hn (by rw[z];exact a0h.mpr rfl))]
   exact S3 y o hy
theorem JJ:aQ ["self"] ["self"] (g_ yL):=⟨rfl,rfl,rfl,by decide +kernel,rfl,by decide +kernel,by decide +kernel⟩
theorem VR{f:Addr}{fd:FuncData}(F:aG K "changes" "Keeper.changes" yL f fd)(T:Txt mg)(nS:eT K C "standing")(cl:ck K C):ax P w K mg base aK 1 f fd ["self"] (pC C):=by
 refine F.ok JJ (λvs H Q E h=>?_) (λae A outer s H vs Q E hr h=>?_)
 ·obtain⟨kp,dx,sl,as,b,ps,cj,rfl,_⟩:=h;rfl
 ·obtain⟨kp,dx,sl,as,b,ps,cj,rfl,S,k⟩:=h
  have nd:=JJ.nd
  refine⟨_,(h_ (n_ (p_ fF (dC T.len (by rfl) (ik (pv 0) rfl)) f_))),?_⟩
  refine⟨_,rfl,kp,C,dx,_,_,rfl,S.ob,cl,nS,iG,sl,_,rfl,.inl (af.of S.ls),_,_,rfl,rfl,?_⟩
  rw[ZW,S.len]
  exact k
theorem JK:aQ ["self"] ["self"] (g_ yK):=⟨rfl,rfl,rfl,by decide +kernel,rfl,by decide +kernel,by decide +kernel⟩
theorem VS{f:Addr}{fd:FuncData}(F:aG K "frame" "Keeper.frame" yK f fd)(nS:eT K C "standing")(jn:ak P w K mg base 1 "copy_of" ["frame"] lg)(cl:ck K C):ax P w K mg base aK 2 f fd ["self"] (vU C):=by
 refine F.ok JK (λvs H Q E h=>?_) (λae A outer s H vs Q E hr h=>?_)
 ·obtain⟨kp,dx,sl,as,b,ps,ar,ws,rfl,_⟩:=h;rfl
 ·obtain⟨kp,dx,sl,as,b,ps,ar,ws,rfl,S,k⟩:=h
  have nd:=JK.nd
  refine⟨_,(h_ (n_ (o_ jn hr (by rfl) (a_ (cg (ik (pv 0) rfl) (fE fI f_)) e_)))),?_⟩
  obtain⟨ai,x,rfl,pD,G,e⟩:=S.last
  refine⟨_,rfl,kp,C,dx,_,_,rfl,S.ob,cl,nS,iG,_,rfl,eY S.ls e ⟨_,_,_,b,ps,ws,rfl,G,λf' a' c' H' s' G' nf na nc _=>k f' a' c' H' s' G' nf na nc⟩⟩
theorem A4:aQ ["self","d"] ["self","d"] (g_ ui):=⟨rfl,rfl,rfl,by decide +kernel,rfl,by decide +kernel,by decide +kernel⟩
theorem JL{f:Addr}{fd:FuncData}(F:aG K "near" "Keeper.near" ui f fd)(nS:eT K C "standing")(vV:ak P w K mg base 6 "count_near" ["frame","d"] rD)(cl:ck K C):ax P w K mg base aK 7 f fd ["self","d"] (rP C):=by
 refine F.ok A4 (λvs H Q E h=>?_) (λae A outer s H vs Q E hr h=>?_)
 ·obtain⟨kp,dx,sl,as,b,ps,ar,ws,d,rfl,_⟩:=h;rfl
 ·obtain⟨kp,dx,sl,as,b,ps,ar,ws,d,rfl,S,k⟩:=h
  have nd:=A4.nd
  refine⟨_,(h_ (n_ (o_ vV hr (by rfl) (a_ (cg (ik (pv 0) rfl) (fE fI f_)) (a_ (pv 1) e_))))),?_⟩
  obtain⟨ai,x,rfl,pD,G,e⟩:=S.last
  exact⟨_,rfl,kp,C,dx,_,_,rfl,S.ob,cl,nS,iG,_,rfl,eY S.ls e ⟨_,rfl,_,_,_,b,ps,ws,d,rfl,G,λH' s'=>k H' s'⟩⟩
theorem A5:aQ ["self","k"] ["self","k"] (g_ uj):=⟨rfl,rfl,rfl,by decide +kernel,rfl,by decide +kernel,by decide +kernel⟩
theorem JM{f:Addr}{fd:FuncData}(F:aG K "even" "Keeper.even" uj f fd)(nS:eT K C "standing")(vW:ak P w K mg base 13 "even_by" ["frame","k"] rE)(cl:ck K C):ax P w K mg base aK 14 f fd ["self","k"] (rQ C):=by
 refine F.ok A5 (λvs H Q E h=>?_) (λae A outer s H vs Q E hr h=>?_)
 ·obtain⟨kp,dx,sl,as,b,ps,ar,ws,j,rfl,_⟩:=h;rfl
 ·obtain⟨kp,dx,sl,as,b,ps,ar,ws,j,rfl,S,k⟩:=h
  have nd:=A5.nd
  refine⟨_,(h_ (n_ (o_ vW hr (by rfl) (a_ (cg (ik (pv 0) rfl) (fE fI f_)) (a_ (pv 1) e_))))),?_⟩
  obtain⟨ai,x,rfl,pD,G,e⟩:=S.last
  exact⟨_,rfl,kp,C,dx,_,_,rfl,S.ob,cl,nS,iG,_,rfl,eY S.ls e ⟨_,rfl,_,_,_,b,ps,ws,j,rfl,G,λv H' s' hv=>k v H' s' hv⟩⟩
theorem vX:aQ ["self","place","weight","earlier","later"] ["self","place","weight"] (g_ ug):=⟨rfl,rfl,rfl,by decide +kernel,rfl,by decide +kernel,by decide +kernel⟩
theorem JN{f:Addr}{fd:FuncData}(F:aG K "weigh" "Keeper.weigh" ug f fd)(nS:eT K C "standing")(vY:ak P w K mg base 3 "with_weight" ["frame","place","weight"] rM)(jo:ak P w K mg base 7 "count_even" ["frame"] vD)(cl:ck K C):ax P w K mg base aK 8 f fd ["self","place","weight"] (rN C):=by
 refine F.ok vX (λvs H Q E h=>?_) (λae A outer s H vs Q E hr h=>?_)
 ·obtain⟨kp,dx,sl,as,b,ps,ar,ws,p,wt,rfl,_⟩:=h;rfl
 ·obtain⟨kp,dx,sl,as,b,ps,ar,ws,p,wt,rfl,S,hp,w1,w2,hl,k⟩:=h
  have nd:=vX.nd
  refine⟨_,(c_ (k_ (i:=3) nd rfl (Or.inl rfl) (cg (ik (pv 0) rfl) (fE fI f_)))
   (c_ (k_ (i:=4) nd rfl (Or.inl rfl) (o_ vY hr.mo (by rfl) (a_ (pv 3) (a_ (pv 1) (a_ (pv 2) e_)))))
   (c_ (C_ (kn PySem.F.plainAttrs_list PySem.F.slot_list_append PySem.F.type_list_append ko (ik (pv 0) rfl) (a_ (pv 4) e_)))
   (h_ (n_ (dJ (a_ (o_ jo hr (by rfl) (a_ (pv 3) e_)) (a_ (o_ jo hr (by rfl) (a_ (pv 4) e_)) e_)))))))),?_⟩
  obtain⟨ai,x,e0,pD,G,e⟩:=S.last
  have aZ:as≠[]:=by rw[e0];simp
  obtain⟨o1,o2⟩:=S.AZ aZ
  refine⟨_,rfl,kp,C,dx,_,_,rfl,S.ob,cl,nS,iG,_,rfl,eY S.ls e ?_⟩
  refine⟨_,rfl,_,rfl,_,rfl,_,_,_,b,ps,ws,p,wt,rfl,G,hp,w1,w2,λf' a' c' H1 s1 G1 nf na nc=>?_⟩
  have S1:=S.keep s1
  have hs:∀ {y:Addr},H y=none->sl≠y:=λh z=>by rw[<-z,S.ls] at h;cases h
  refine⟨_,rfl,kp,C,dx,_,_,rfl,S1.ob,cl,nS,iG,.inl ⟨rfl,_,af.of S1.ls⟩,_,rfl,sl,_,_,rfl,rfl,S1.ls,cq (by rw[ZW,S.len];simp;lia),?_⟩
  have S2:=S1.push (x:=(f',a',c')) G1 o1 (λx' jJ=>by
   rcases a0s.mp jJ with h | h
   ·exact o2 x' h
   ·rw[a0h.mp h];exact⟨hs nf,hs na,hs nc⟩)
  have K2:Kp [sl] H (upd H1 sl (.lst ((as.map λx=>V.ref x.1)++[V.ref f']))):=λy o hy hn=>by
   rw[i_ (λz=>hn (by rw[z];exact a0h.mpr rfl))]
   exact s1 y o hy
  have Gx:aS (upd H1 sl (.lst ((as.map λx=>V.ref x.1)++[V.ref f']))) x.1 x.2.1 x.2.2 b ps ws:=by
   have h:=o2 x (by rw[e0];simp)
   have g:=G.keep s1
   exact⟨by rw[i_ h.1.symm];exact g.tp,by rw[i_ h.2.1.symm];exact g.hp,by rw[i_ h.2.2.symm];exact g.hw,g.ok⟩
  have Gy:aS (upd H1 sl (.lst ((as.map λx=>V.ref x.1)++[V.ref f']))) f' a' c' b ps (ws.set p wt) :=
   ⟨by rw[i_ (hs nf).symm];exact G1.tp,by rw[i_ (hs na).symm];exact G1.hp,by rw[i_ (hs nc).symm];exact G1.hw,G1.ok⟩
  generalize upd H1 sl (.lst ((as.map λx=>V.ref x.1)++[V.ref f']))=H2 at S2 K2 Gx Gy⊢
  refine⟨_,rfl,x.1,x.2.1,x.2.2,b,ps,ws,rfl,Gx,λH3 s3=>?_⟩
  refine⟨_,rfl,f',a',c',b,ps,_,rfl,Gy.keep s3,λH4 s4=>⟨sz (by simp),λt ht=>?_⟩⟩
  have s5:=b_ (o:=.tup [.int (lh b ps ws),.int (lh b ps (ws.set p wt))]) ht
  have K4:Kp [sl] H H4:=(K2.same s3).same s4
  exact k t (f',a',c') _ (K4.free ht (λz=>by rw[a0h.mp z,(S2.keep (s3.trans s4)).ls] at ht;cases ht)) d_ nf na nc (S2.keep ((s3.trans s4).trans s5)) (K4.same s5)
theorem A6:aQ ["self","undone"] ["self"] (g_ uh):=⟨rfl,rfl,rfl,by decide +kernel,rfl,by decide +kernel,by decide +kernel⟩
theorem JO{f:Addr}{fd:FuncData}(F:aG K "undo" "Keeper.undo" uh f fd)(nS:eT K C "standing")(jo:ak P w K mg base 7 "count_even" ["frame"] vD)(cl:ck K C)(iH:dN P w K mg base 1 C "changes" ["self"] (pC C)):ax P w K mg base aK 8 f fd ["self"] (rO C):=by
 refine F.ok A6 (λvs H Q E h=>?_) (λae A outer s H vs Q E hr h=>?_)
 ·obtain⟨kp,dx,sl,ai,x,b,ps,ar,ws,wz,rfl,_⟩:=h;rfl
 ·obtain⟨kp,dx,sl,ai,x,b,ps,ar,ws,wz,rfl,S,hl,k⟩:=h
  have nd:=A6.nd
  refine⟨_,(c_ (Z_ (v_ iS (lf cl iH hr.mo (pv 0)) f_ (bO _)) O_ w_)
   (c_ (k_ (i:=1) nd rfl (Or.inl rfl) (NJ PySem.F.plainAttrs_list PySem.F.slot_list_pop PySem.F.type_list_pop NQ (ik (pv 0) rfl)))
   (h_ (n_ (dJ (a_ (o_ jo hr (by rfl) (a_ (pv 1) e_)) (a_ (o_ jo hr (by rfl) (a_ (cg (ik (pv 0) rfl) (fE fI f_)) e_)) e_))))))),?_⟩
  have Gz:aS H x.1 x.2.1 x.2.2 b ps wz:=by
   have:=S.len
   simp at this
   refine S.each ai.length x wz (by simp) ?_
   rw[show ai.length=(ar++[ws]).length by simp;lia,a0q (Z0 _)]
   simp
  have JP:ai.length=ar.length+1:=by have:=S.len;simp at this;lia
  have aZ:ai≠[]:=λz=>by rw[z] at JP;simp at JP
  obtain⟨o1,o2⟩:=S.AZ (by simp)
  refine⟨_,rfl,kp,dx,_,rfl,S.ob,gD (by decide +kernel),kp,dx,sl,_,b,ps,_,rfl,S,rfl,_,rfl,?_⟩
  rw[decide_eq_false (by intro z;injection z with z;simp at z;lia)]
  refine aX ?_
  have VT:((ai++[x]).map λx=>V.ref x.1)[((ai++[x]).map λx=>V.ref x.1).length-1]?=some (V.ref x.1):=by simp
  have VU:((ai++[x]).map λx=>V.ref x.1).dropLast=ai.map λx=>V.ref x.1:=by rw[a0p];simp
  refine⟨_,rfl,kp,C,dx,_,_,rfl,S.ob,cl,nS,iG,.inl ⟨rfl,_,af.of S.ls⟩,sl,_,_,rfl,rfl,S.ls,VT,?_⟩
  rw[VU]
  have S1:=S.pop aZ
  have K1:Kp [sl] H (upd H sl (.lst (ai.map λx=>V.ref x.1))):=λy o hy hn=>by
   rw[i_ (λz=>hn (by rw[z];exact a0h.mpr rfl))]
   exact hy
  have h:=o2 x (by simp)
  have G1:aS (upd H sl (.lst (ai.map λx=>V.ref x.1))) x.1 x.2.1 x.2.2 b ps wz:=⟨by rw[i_ h.1.symm];exact Gz.tp,by rw[i_ h.2.1.symm];exact Gz.hp,by rw[i_ h.2.2.symm];exact Gz.hw,Gz.ok⟩
  generalize upd H sl (.lst (ai.map λx=>V.ref x.1))=H1 at S1 K1 G1⊢
  refine⟨_,rfl,x.1,x.2.1,x.2.2,b,ps,wz,rfl,G1,λH2 s2=>?_⟩
  have S2:=S1.keep s2
  obtain⟨aj,y,e0,ZL,Gy,ey⟩:=S2.last
  refine⟨_,rfl,kp,C,dx,_,_,rfl,S2.ob,cl,nS,iG,_,rfl,eY S2.ls ey ⟨y.1,y.2.1,y.2.2,b,ps,ws,rfl,Gy,λH3 s3=>⟨sz (by simp),λt ht=>?_⟩⟩⟩
  have s4:=b_ (o:=.tup [.int (lh b ps wz),.int (lh b ps ws)]) ht
  have K3:Kp [sl] H H3:=(K1.same s2).same s3
  exact k t _ (K3.free ht (λz=>by rw[a0h.mp z,(S2.keep s3).ls] at ht;cases ht)) d_ (S2.keep (s3.trans s4)) (K3.same s4)
end
end Hv
namespace L2
open PySem PySem.Spec PyProof.Rows
def vZ(h0:Heap)(H:Hp)(h:Heap)(x:Addr)(C a0 fl:Value):Prop:=h0.get? x=none/\H x=none/\
 ∃oe vs T oT ts,h.get? x=some oe/\(oe.cls=C/\vs[0]?=some a0/\oe.dict=none)/\oe.data=.fields vs/\vs[1]?=some (.ref T)/\h0.get? T=none/\H T=none/\T≠x/\h.get? T=some oT/\oT.data=.fields ts/\ts[3]?=some fl
abbrev li(h0:Heap)(H:Hp)(h:Heap)(x:Addr)(C a0:Value):Prop:=vZ h0 H h x C a0 .none
structure iI(h0:Heap)(H:Hp)(fs:List Addr)(h h':Heap):Prop where
 keep:∀b o,h.get? b=some o->b∉fs->h0.get? b≠none\/H b≠none->h'.get? b=some o
 slot:∀b o,h.get? b=some o->b∈fs->∃sl,h'.get? b=some {o with slots:=sl}
 there:∀b o,h0.get? b≠none->h.get? b=some o->∃o',h'.get? b=some o'
theorem iI.trans{h0:Heap}{H:Hp}{fs:List Addr}{h h1 h2:Heap}(a:iI h0 H fs h h1)(b:iI h0 H fs h1 h2):iI h0 H fs h h2 :=
 ⟨λc o e n z=>b.keep c o (a.keep c o e n z) n z,λc o e hc=>by
  obtain⟨sl,e1⟩:=a.slot c o e hc
  obtain⟨nw,e2⟩:=b.slot c _ e1 hc
  exact⟨nw,e2⟩,λc o n e=>by
  obtain⟨o1,e1⟩:=a.there c o n e
  exact b.there c o1 n e1⟩
section
variable{M:Model}{A:Around}{E:Value->Shared->Prop}{s:Shared}
theorem JQ{b0:Heap}{env:Env}{outer:List Env}{L x:Addr}{oe:Obj}{vs:Array Value}{A7:Value}{VW:Bool}{Q:Unit->Shared->Prop}(jY:A.frames=some (env::outer))(hl:s.heap.FunFrames b0 (env::outer))(hf:env.frame=some L)
  (he:s.heap.get? x=some oe) (hd:oe.data=.fields vs) (hsz:1<vs.size)
  (h:∀(h':Heap) (T:Addr) (oT:Obj) (ts:Array Value),s.heap.objs.size<=T->(∀b o,s.heap.get? b=some o->b∉bz (env::outer)->b≠x->h'.get? b=some o)->(∀b o,s.heap.get? b=some o->b∈bz (env::outer)->∃sl,h'.get? b=some {o with slots:=sl})->
   h'.get? x=some (Obj.mapFields (·.setIfInBounds 1 (.ref T)) oe)->h'.get? T=some oT->oT.data=.fields ts->ts[3]?=some (rawInt L)->Q () {s with heap:=h'}) :
  wpAny M A (do let a <-frameOf env;let pl <-entryPlaceOf L VW;let b <-EntryCells.newEntry A7 a .none (rawInt L) .none pl;setField (.ref x) 1 b) Q E s:=by
 have xf:x∉bz (env::outer):=λhm=>by
  obtain⟨_,o,ho,VX⟩:=hl.mem hm
  rw[he] at ho
  cases ho
  exact VX vs hd
 refine wpAny_bind (wpAny_frameOf_fun jY hl hf λg ⟨gs,g1,g2⟩=>wpAny_bind (wpAny_entryPlaceOf λpl hpl=>?_))
 unfold EntryCells.newEntry newFields
 refine wpAny_bind (wpAny_newObj_type ?_ (hpl.sizeOk5 _ _ _ _ _))
 have x1:g.get? x=some oe:=(g1 x xf).trans he
 have nT:g.objs.size≠x:=a0M (ZY x1)
 generalize uN:({cls:=.type "traceback",data:=.fields ([A7,.ref L,.none,rawInt L,.none]++(if pl.isEmpty then List.replicate 6 Value.none else pl)).toArray}:Obj)=ob
 have nf:ob.isFreed=false:=by rw[<-uN];rfl
 have x2:(g.push ob).get? x=some oe:=ZV ob x1
 refine wpAny_setField x2 hd hsz ?_
 have dd:=Obj.data_mapFields hd (·.setIfInBounds 1 (Value.ref g.objs.size))
 have tt:((g.push ob).update x (Obj.mapFields (·.setIfInBounds 1 (Value.ref g.objs.size)))).get? g.objs.size=some ob:=(a0z _ _ (Ne.symm nT)).trans (Z3 g nf)
 refine h _ g.objs.size ob ([A7,.ref L,.none,rawInt L,.none]++(if pl.isEmpty then List.replicate 6 Value.none else pl)).toArray (by rw[gs];exact Z0 _) (λb o e n nx=>?_) (λb o e hb=>?_) (a1x _ x2 (Obj.isFreed_of_fields dd)) tt (by rw[<-uN]) ?_
 ·exact(a0z _ _ (Ne.symm nx)).trans (ZV ob ((g1 b n).trans e))
 ·obtain⟨sl,e1⟩:=g2 b o e
  exact⟨sl,(a0z _ _ (λz:x=b=>xf (by rw[z];exact hb))).trans (ZV ob e1)⟩
 ·first | (simp;done) | (rcases hpl with rfl | ⟨_,_,_,_,_,_,_,rfl⟩ <;> simp)
theorem JR{h:Heap}{T:Addr}(hT:h.objs.size<=T){h0:Heap}(hU:∀b o,h0.get? b=some o->∃o',h.get? b=some o'):h0.get? T=none:=by
 cases q:h0.get? T with
 | none=>rfl
 | some o =>
  obtain⟨o',e⟩:=hU T o q
  exact absurd (ZY e) (Nat.not_lt.mpr hT)
theorem JS{h:Heap}{T:Addr}(hT:h.objs.size<=T){H:Hp}(hV:∀b o,H b=some o->∃o',h.get? b=some o'):H T=none:=by
 cases q:H T with
 | none=>rfl
 | some o =>
  obtain⟨o',e⟩:=hV T o q
  exact absurd (ZY e) (Nat.not_lt.mpr hT)
theorem JT{b0 h0:Heap}{H:Hp}{env:Env}{outer:List Env}{L x:Addr}{C a0:Value}{Q:Unit->Shared->Prop}(jY:A.frames=some (env::outer))(hl:s.heap.FunFrames b0 (env::outer))(hf:env.frame=some L)
  (fl:li h0 H s.heap x C a0) (hU:∀b o,h0.get? b=some o->∃o',s.heap.get? b=some o') (hV:∀b o,H b=some o->∃o',s.heap.get? b=some o')
  (h:∀h',iI h0 H (bz (env::outer)) s.heap h'->vZ h0 H h' x C a0 (rawInt L)->Q () {s with heap:=h'}):wpAny M A (noteFrame (.ref x) env) Q E s:=by
 obtain⟨x0,xH,oe,vs,T,oT,ts,he,⟨c1,c2,c3⟩,hd,h1,T0,TH,Tx,hT,jZ,h3⟩:=fl
 unfold noteFrame
 simp only[hf]
 refine wpAny_bind (wpAny_field he hd h1 ?_)
 rw[if_pos (by simp)]
 refine wpAny_bind (wpAny_field hT jZ h3 ?_)
 rw[if_neg (by simp[rawInt])]
 refine wpAny_bind (wpAny_setField hT jZ (a0R.mp h3).1 ?_)
 have fO:∀b,b≠T->(s.heap.update T (Obj.mapFields (·.setIfInBounds 3 Value.none))).get? b=s.heap.get? b:=λb hb=>a0z _ _ (Ne.symm hb)
 have Tf:T∉bz (env::outer):=λhm=>by
  obtain⟨_,o,ho,nf⟩:=hl.mem hm
  rw[hT] at ho
  cases ho
  exact nf ts jZ
 have bM:(s.heap.update T (Obj.mapFields (·.setIfInBounds 3 Value.none))).FunFrames b0 (env::outer):=hl.of_keeps λb o e nf=>⟨o,(fO b (λz=>by rw[z,hT] at e;cases e;exact nf ts jZ)).trans e,rfl⟩
 refine JQ (s:={s with heap:=s.heap.update T (Obj.mapFields (·.setIfInBounds 3 Value.none))}) jY bM hf ((fO x (Ne.symm Tx)).trans he) hd (a0R.mp h1).1 λh' T' A8 A9 z0 z1 z2 z3 z4 z5 z6=>?_
 have sT:s.heap.objs.size<=T':=by
  have JU:(s.heap.update T (Obj.mapFields (·.setIfInBounds 3 Value.none))).objs.size<=T':=z0
  rw[Heap.size_after_update] at JU
  exact JU
 have Ba:T'≠x:=a0M (Z7 (ZY he) sT)
 refine h h' ⟨λb o e n z=>z1 b o ((fO b (λq=>?_)).trans e) n (λq=>?_),λb o e hb=>z2 b o ((fO b (λq=>Tf (q▸hb))).trans e) hb,λb o n e=>?_⟩ ⟨x0,xH,_,_,T',A8,A9,z3,⟨(Obj.cls_mapFields _ _).trans c1,?_,?_⟩,Obj.data_mapFields hd _,?_,JR sT hU,JS sT hV,Ba,z4,z5,z6⟩
 ·subst q;rcases z with z | z
  ·exact z T0
  ·exact z TH
 ·subst q;rcases z with z | z
  ·exact z x0
  ·exact z xH
 ·by_cases hb:b∈bz (env::outer)
  ·obtain⟨sl,e1⟩:=z2 b o ((fO b (λq=>Tf (q▸hb))).trans e) hb
   exact⟨_,e1⟩
  ·exact⟨o,z1 b o ((fO b (λq=>n (by rw[q];exact T0))).trans e) hb (λq=>n (by rw[q];exact x0))⟩
 ·rw[a2h (by decide)];exact c2
 ·obtain⟨a,b,c,d⟩:=oe
  cases c <;> first | exact c3 | cases hd
 ·rw[a1i (a0R.mp h1).1]
theorem VY{b0 h0:Heap}{H:Hp}{env:Env}{outer:List Env}{L x:Addr}{oe:Obj}{vs:Array Value}{a0:Value}{Q:Unit->Shared->Prop}(jY:A.frames=some (env::outer))(hl:s.heap.FunFrames b0 (env::outer))(hf:env.frame=some L)
  (he:s.heap.get? x=some oe) (hd:oe.data=.fields vs) (Bb:oe.dict=none) (h1:vs[1]?=some .none) (jQ:vs[0]?=some a0) (x0:h0.get? x=none) (xH:H x=none) (hU:∀b o,h0.get? b=some o->∃o',s.heap.get? b=some o')
  (hV:∀b o,H b=some o->∃o',s.heap.get? b=some o')
  (h:∀h',iI h0 H (bz (env::outer)) s.heap h'->vZ h0 H h' x oe.cls a0 (rawInt L)->Q () {s with heap:=h'}):wpAny M A (noteFrame (.ref x) env) Q E s:=by
 unfold noteFrame
 simp only[hf]
 refine wpAny_bind (wpAny_field he hd h1 ?_)
 rw[if_neg (by decide)]
 refine JQ jY hl hf he hd (a0R.mp h1).1 λh' T' A8 A9 sT z1 z2 z3 z4 z5 z6=>?_
 have Ba:T'≠x:=a0M (Z7 (ZY he) sT)
 refine h h' ⟨λb o e n z=>z1 b o e n (λq=>?_),z2,λb o n e=>?_⟩ ⟨x0,xH,_,_,T',A8,A9,z3,⟨Obj.cls_mapFields _ _,?_,?_⟩,Obj.data_mapFields hd _,?_,JR sT hU,JS sT hV,Ba,z4,z5,z6⟩
 ·subst q;rcases z with z | z
  ·exact z x0
  ·exact z xH
 ·by_cases hb:b∈bz (env::outer)
  ·obtain⟨sl,e1⟩:=z2 b o e hb
   exact⟨_,e1⟩
  ·exact⟨o,z1 b o e hb (λq=>n (by rw[q];exact x0))⟩
 ·rw[a2h (by decide)];exact jQ
 ·obtain⟨a,b,c,d⟩:=oe
  cases c <;> first | exact Bb | cases hd
 ·rw[a1i (a0R.mp h1).1]
theorem wb{b0 h0:Heap}{H:Hp}{l:List Env}{x:Addr}{C a0 fl:Value}{Q:Unit->Shared->Prop}(hl:s.heap.FunFrames b0 l)(f:vZ h0 H s.heap x C a0 fl)
  (hU:∀b o,h0.get? b=some o->∃o',s.heap.get? b=some o') (hV:∀b o,H b=some o->∃o',s.heap.get? b=some o')
  (h:∀h',iI h0 H (bz l) s.heap h'->li h0 H h' x C a0->Q () {s with heap:=h'}):wpAny M A (setFlight (.ref x) none) Q E s:=by
 obtain⟨x0,xH,oe,vs,T,oT,ts,he,hc,hd,h1,T0,TH,Tx,hT,jZ,h3⟩:=f
 have JV:3<ts.size:=(a0R.mp h3).1
 unfold setFlight
 refine wpAny_bind (wpAny_field he hd h1 ?_)
 rw[if_pos (by simp)]
 refine wpAny_setField hT jZ JV ?_
 have fO:∀b,b≠T->(s.heap.update T (Obj.mapFields (·.setIfInBounds 3 ((none:Option Addr).elim Value.none λf=>rawInt f)))).get? b=s.heap.get? b:=λb hb=>a0z _ _ (Ne.symm hb)
 have Tf:T∉bz l:=λhm=>by
  obtain⟨_,o,ho,nf⟩:=hl.mem hm
  rw[hT] at ho
  cases ho
  exact nf ts jZ
 have tt:=a1x (Obj.mapFields (·.setIfInBounds 3 ((none:Option Addr).elim Value.none λf=>rawInt f))) hT (Obj.isFreed_of_fields (Obj.data_mapFields jZ _))
 refine h _ ⟨λb o e n z=>(fO b (λq=>?_)).trans e,λb o e hb=>⟨o.slots,(fO b (λq=>Tf (q▸hb))).trans e⟩,λb o n e=>⟨o,(fO b (λq=>n (by rw[q];exact T0))).trans e⟩⟩ ⟨x0,xH,oe,vs,T,_,_,(fO x (Ne.symm Tx)).trans he,hc,hd,h1,T0,TH,Tx,tt,Obj.data_mapFields jZ _,?_⟩
 ·subst q;rcases z with z | z
  ·exact z T0
  ·exact z TH
 ·rw[a1i JV];rfl
theorem Bc{h h' b0:Heap}:∀ {l:List Env},h.FunFrames b0 l->(∀b o,h.get? b=some o->b∈bz l->∃sl,h'.get? b=some {o with slots:=sl})->h'.FunFrames b0 l
 | [],_,_=>trivial
 | env::l,⟨kk,⟨L,o,hf,hn,ho,hd⟩,r⟩,hs=>by
  have e:bz (env::l)=L::bz l:=by rw[bz,a1R,hf];rfl
  rw[e] at hs
  obtain⟨sl,e1⟩:=hs L o ho (by simp)
  exact⟨kk,⟨L,_,hf,hn,e1,hd⟩,Bc r λb o' eb hb=>hs b o' eb (by simp[hb])⟩
theorem VZ{P:Program}{w:World}{b0 h0:Heap}{H:Hp}{env:Env}{outer:List Env}{L x:Addr}{C a0:Value}{Q:Unit->Shared->Prop}(jY:A.frames=some (env::outer))(hl:s.heap.FunFrames b0 (env::outer))(hf:env.frame=some L)
  (fl:li h0 H s.heap x C a0) (hU:∀b o,h0.get? b=some o->∃o',s.heap.get? b=some o') (am:bC P w H s.heap) (lG:∀b∈bz (env::outer),H b=none) (hV:∀b o,H b=some o->∃o',s.heap.get? b=some o')
  (h:∀h',iI h0 H (bz (env::outer)) s.heap h'->li h0 H h' x C a0->Q () {s with heap:=h'}):wpAny M A (leaving env (.ref x)) Q E s:=by
 unfold leaving
 refine wpAny_bind (JT jY hl hf fl hU hV λh2 nr fa=>?_)
 refine wb (l:=env::outer) (Bc hl nr.slot) fa (λb o e=>?_) (λb o e=>?_) λh3 pE Bd=>h h3 (nr.trans pE) Bd
 ·obtain⟨o1,e1⟩:=hU b o e
  exact nr.there b o1 (by rw[e];exact λz=>by cases z) e1
 ·obtain⟨o1,e1⟩:=hV b o e
  exact⟨o1,nr.keep b o1 e1 (λz=>by rw[lG b z] at e;cases e) (.inr (by rw[e];exact λz=>by cases z))⟩
theorem V0{b0 h0:Heap}{H:Hp}{env:Env}{outer:List Env}{L x:Addr}{oe:Obj}{vs:Array Value}{a0:Value}{Q:Unit->Shared->Prop}(jY:A.frames=some (env::outer))(hl:s.heap.FunFrames b0 (env::outer))(hf:env.frame=some L)
  (he:s.heap.get? x=some oe) (hd:oe.data=.fields vs) (Bb:oe.dict=none) (h1:vs[1]?=some .none) (jQ:vs[0]?=some a0) (x0:h0.get? x=none) (xH:H x=none) (hU:∀b o,h0.get? b=some o->∃o',s.heap.get? b=some o')
  (lG:∀b∈bz (env::outer),H b=none) (hV:∀b o,H b=some o->∃o',s.heap.get? b=some o')
  (h:∀h',iI h0 H (bz (env::outer)) s.heap h'->li h0 H h' x oe.cls a0->Q () {s with heap:=h'}):wpAny M A (leaving env (.ref x)) Q E s:=by
 unfold leaving
 refine wpAny_bind (VY jY hl hf he hd Bb h1 jQ x0 xH hU hV λh2 nr fa=>?_)
 refine wb (l:=env::outer) (Bc hl nr.slot) fa (λb o e=>?_) (λb o e=>?_) λh3 pE Bd=>h h3 (nr.trans pE) Bd
 ·obtain⟨o1,e1⟩:=hU b o e
  exact nr.there b o1 (by rw[e];exact λz=>by cases z) e1
 ·obtain⟨o1,e1⟩:=hV b o e
  exact⟨o1,nr.keep b o1 e1 (λz=>by rw[lG b z] at e;cases e) (.inr (by rw[e];exact λz=>by cases z))⟩
end
theorem b8.there{P:Program}{w:World}{H:Hp}{h:Heap}{a:Addr}{o:HO}(x:b8 P w H h a o):∃u,h.get? a=some u:=by
 cases o with
 | lst xs=>obtain⟨_,_,_,_,e⟩:=x;exact⟨_,e⟩
 | tup xs=>obtain⟨_,_,_,ob,e,_⟩:=x;exact⟨_,e⟩
 | dK kvs=>obtain⟨_,_,_,_,ob,_,_,e,_⟩:=x;exact⟨_,e⟩
 | dT kvs=>obtain⟨_,_,_,_,ob,_,_,e,_⟩:=x;exact⟨_,e⟩
 | set S n=>obtain⟨ob,_,_,_,e,_⟩:=x;exact⟨_,e⟩
 | ins C dx fs=>obtain⟨_,_,_,e,_⟩:=x;exact⟨_,e⟩
 | own y=>obtain⟨ob,e⟩:=x;exact⟨_,e⟩
 | xd fs=>obtain⟨_,⟨od,_,_,e,_⟩,_⟩:=x;exact⟨_,e⟩
 | sg lo hi=>obtain⟨_,_,_,e⟩:=x;exact⟨_,e⟩
 | ce ob u=>exact⟨_,x.1⟩
 | j6 ps=>exact⟨_,x⟩
 | met f y=>exact⟨_,x⟩
 | ext φ=>obtain⟨_,⟨o,e⟩,_⟩:=x;exact⟨_,e⟩
def bB(P:Program)(w:World):fY:=λouter H s E e s'=>∃(x C:Addr) (a0:Value) (H':Hp),e=.ref x/\s'.os=s.os/\AllBare s'.gens/\Un (bz outer) [] H H' s.heap s'.heap/\bC P w H' s'.heap/\li s.heap H' s'.heap x (.ref C) a0/\E (.ref C) none H'
section
variable{P:Program}{w:World}{K:PySem.W.Frag}{mg:Str->Option Value}{base:Heap}{N:List Str}{qual:Str}{scope:Scope}{f:Addr}{cd:Value}{A:Around}{outer:List Env}{s:Shared}{H:Hp}{E:XK}
theorem V1{aa:List (Addr×Obj)}{σ:St}{H':Hp}{s':Shared}{x C:Addr}{a0:Value}(I:Inv (bQ (bB P w) P w K mg base N qual scope f cd A outer s H E) aa σ H' s')(iJ:li s.heap H' s'.heap x (.ref C) a0)(hE:E (.ref C) none H') :
  (bQ (bB P w) P w K mg base N qual scope f cd A outer s H E).xe (.ref x) s':=by
 have ge:∀b:Addr,b∉(bQ (bB P w) P w K mg base N qual scope f cd A outer s H E).ex:=λb z=>absurd (show b∈([]:List Addr) from z) (by simp)
 have rR:bz (bQ (bB P w) P w K mg base N qual scope f cd A outer s H E).stack=s.heap.objs.size::bz outer:=rfl
 refine VZ (P:=P) (w:=w) (b0:=base) (h0:=s.heap) (H:=H') I.ok.frames I.stack rfl iJ (λb o e=>I.base.there b o e (ge b)) I.am I.jv (λb o e=>(I.am b o e).there) λV2 ⟨k1,k2,k3⟩ Be=>?_
 have eU:∀b o,s.heap.get? b=some o->b≠s.heap.objs.size:=λb o e=>a0c (ZY e)
 have off:∀b o,s.heap.get? b=some o->b∉bz outer->b∉bz (bQ (bB P w) P w K mg base N qual scope f cd A outer s H E).stack:=λb o e n z=>by
  rw[rR] at z
  rcases ZZ.mp z with z | z
  ·exact eU b o e z
  ·exact n z
 refine⟨x,C,a0,H',rfl,I.os,I.bare,⟨λb o e n nb _=>?_,λb o e n hb _=>?_,λb o e n _=>I.base.free b o e n (ge b),λb o e _=>?_,I.base.eQ,I.base.d7,I.base.fC⟩,λb o e=>?_,Be,hE⟩
 ·exact k1 b o (I.base.keep b o e n nb (ge b)) (off b o e nb) (.inl (by rw[e];exact λz=>by cases z))
 ·obtain⟨sl,e1⟩:=I.base.slot b o e n hb (ge b)
  obtain⟨nw,e2⟩:=k2 b _ e1 (show b∈s.heap.objs.size::bz outer from Z5 _ hb)
  exact⟨nw,e2⟩
 ·obtain⟨o',e1⟩:=I.base.there b o e (ge b)
  exact k3 b o' (by rw[e];exact λz=>by cases z) e1
 ·refine(I.am b o e).cE (λc u hc q=>?_) (λ_ q=>q) λ_ _ q=>q
  have lj:H' c≠none:=by
   rcases hc with hc | hc
   ·rw[hc,e];exact λz=>by cases z
   ·rw[hc];exact λz=>by cases z
  exact k1 c u q (λz=>lj (I.jv c z)) (.inr lj)
theorem V3:ki (bB P w) (bQ (bB P w) P w K mg base N qual scope f cd A outer s H E) E:=λaa σ H1 s1 e s' I ⟨x,C,a0,H',he,os,bare,un,am,iJ,hE⟩=>by
 subst he
 have I':=I.pX os un am bare (λb z=>absurd z (by simp))
 have ge:∀b:Addr,b∉(bQ (bB P w) P w K mg base N qual scope f cd A outer s H E).ex:=λb z=>absurd (show b∈([]:List Addr) from z) (by simp)
 have JW:∀b,s1.heap.get? b=none->s.heap.get? b=none:=λb z=>by
  cases q:s.heap.get? b with
  | none=>rfl
  | some o =>
   obtain⟨o',e1⟩:=I.base.there b o q (ge b)
   rw[z] at e1;cases e1
 obtain⟨x0,xH,oe,vs,T,oT,ts,he,hc,hd,h1,T0,TH,r⟩:=iJ
 exact V1 I' ⟨JW _ x0,xH,oe,vs,T,oT,ts,he,hc,hd,h1,JW _ T0,TH,r⟩ hE
theorem V4{aa:List (Addr×Obj)}{σ:St}{H1:Hp}{s1:Shared}{x C:Addr}{vs:List Value}{h':Heap}(I0:Inv (bQ (bB P w) P w K mg base N qual scope f cd A outer s H E) aa σ H1 s1)(hx:Heap.MadeExcOf s1.heap h' x (.ref C) vs)(hE:E (.ref C) none H1) :
  (bQ (bB P w) P w K mg base N qual scope f cd A outer s H E).xe (.ref x) {s1 with heap:=h'}:=by
 have ge:∀b:Addr,b∉(bQ (bB P w) P w K mg base N qual scope f cd A outer s H E).ex:=λb z=>absurd (show b∈([]:List Addr) from z) (by simp)
 have rR:bz (bQ (bB P w) P w K mg base N qual scope f cd A outer s H E).stack=s.heap.objs.size::bz outer:=rfl
 have I:Inv (bQ (bB P w) P w K mg base N qual scope f cd A outer s H E) aa σ H1 {s1 with heap:=h'}:=I0.kept (t':=s1.toks) (h':=h') hx.keeps
 obtain⟨t,he,_,_⟩:=hx.there
 have x0:s.heap.get? x=none:=by
  cases q:s.heap.get? x with
  | none=>rfl
  | some o =>
   obtain⟨o',e1⟩:=I0.base.there x o q (ge x)
   rw[hx.new] at e1;cases e1
 have xH:H1 x=none:=by
  cases q:H1 x with
  | none=>rfl
  | some o =>
   obtain⟨o',e1⟩:=(I0.am x o q).there
   rw[hx.new] at e1;cases e1
 refine V0 (b0:=base) (h0:=s.heap) (H:=H1) I.ok.frames I.stack rfl he rfl rfl rfl rfl x0 xH (λb o e=>I.base.there b o e (ge b)) I.jv (λb o e=>(I.am b o e).there) λV2 ⟨k1,k2,k3⟩ Be=>?_
 have eU:∀b o,s.heap.get? b=some o->b≠s.heap.objs.size:=λb o e=>a0c (ZY e)
 have off:∀b o,s.heap.get? b=some o->b∉bz outer->b∉bz (bQ (bB P w) P w K mg base N qual scope f cd A outer s H E).stack:=λb o e n z=>by
  rw[rR] at z
  rcases ZZ.mp z with z | z
  ·exact eU b o e z
  ·exact n z
 refine⟨x,C,_,H1,rfl,I.os,I.bare,⟨λb o e n nb _=>?_,λb o e n hb _=>?_,λb o e n _=>I.base.free b o e n (ge b),λb o e _=>?_,I.base.eQ,I.base.d7,I.base.fC⟩,λb o e=>?_,Be,hE⟩
 ·exact k1 b o (I.base.keep b o e n nb (ge b)) (off b o e nb) (.inl (by rw[e];exact λz=>by cases z))
 ·obtain⟨sl,e1⟩:=I.base.slot b o e n hb (ge b)
  obtain⟨nw,e2⟩:=k2 b _ e1 (show b∈s.heap.objs.size::bz outer from Z5 _ hb)
  exact⟨nw,e2⟩
 ·obtain⟨o',e1⟩:=I.base.there b o e (ge b)
  exact k3 b o' (by rw[e];exact λz=>by cases z) e1
 ·refine(I.am b o e).cE (λc u hc q=>?_) (λ_ q=>q) λ_ _ q=>q
  have lj:H1 c≠none:=by
   rcases hc with hc | hc
   ·rw[hc,e];exact λz=>by cases z
   ·rw[hc];exact λz=>by cases z
  exact k1 c u q (λz=>lj (I.jv c z)) (.inr lj)
structure lm(base:Heap)(C:Addr)(dY gF B:String)(dZ:List Value):Prop where
 fb:ExcBaseFacts B dY gF dZ
 ob:∃bm N nm q bs hdct sn sub ab col dd k0 k1 k2 k3 k5 mN,base.get? C=some (excClassObj nm q C N bs bm hdct sn sub ab col dd k0 k1 k2 k3 k5 dY)/\base.Ns N mN/\mN "__init__"=none/\OwnTail base dZ bm
def V5(E:XK)(C:Addr)(te:TE):TS:=λ_ σ H=>te σ H λ_ H1=>E (.ref C) none H1
theorem pF{x:Str}{C:Addr}{dY gF B:String}{dZ:List Value}{e:Expr}{te:TE}{np cV pos:Pos}(O:lm base C dY gF B dZ)(hg:Gl (bQ (bB P w) P w K mg base N qual scope f cd A outer s H E) x)(hm:mg x=some (.ref C))
  (he:PE (bQ (bB P w) P w K mg base N qual scope f cd A outer s H E) e te) (hd:(x==("__debug__":Str))=false:=by decide)
  (hs:starEach [e] (bQ (bB P w) P w K mg base N qual scope f cd A outer s H E).env=[(false,eval e (bQ (bB P w) P w K mg base N qual scope f cd A outer s H E).env)]:=by rfl) :
  PS (bQ (bB P w) P w K mg base N qual scope f cd A outer s H E) (.Raise (some (.Call (.Name x np) [e] [] cV)) none pos) (V5 E C te):=by
 intro aa s1 σ H1 D I h
 obtain⟨bm,Nc,nm,q,bs,hdct,sn,sub,ab,col,dd,k0,k1,k2,k3,k5,mN,hC,hN,rS,T⟩:=O.ob
 refine wpAny_Raise_call_subT (C:=C) (nm:=nm) (q:=q) (N:=Nc) (bs:=bs) (bm:=bm) (hdct:=hdct) (sn:=sn) (sub:=sub) (ab:=ab) (col:=col) (dd:=dd) (k0:=k0) (k1:=k1) (k2:=k2) (k3:=k3) (k5:=k5) O.fb (mN:=mN) (T.hasType O.fb.hasBase) (I.ok.hd rfl) (by rw[hs];rfl) rS ?_
 refine nO I hg hm ⟨rfl,?_⟩ hd
 rw[hs]
 refine Calls.evalArgs_plain (Calls.spliced_cons (au (he aa s1 σ H1 _ I h) λv s2 ⟨y,H2,I2,ry,q2⟩=>Calls.spliced_nil ?_))
 exact⟨rfl,Z9 (show 1<=1000 by decide) (by decide),I2.bk _ _ hC,hN.keeps I2.bk,T.keeps I2.bk,λh' e hx=>V4 I2 hx q2⟩
end
section
variable{P:Program}{w:World}{K:PySem.W.Frag}{mg:Str->Option Value}{base:Heap}
theorem aG.dM{x qual:Str}{st:Stmt}{f:Addr}{fd:FuncData}{N ps:List Str}{k:Nat}{sp:Sp}(F:aG K x qual st f fd)(S:aQ N ps (g_ st))(len:∀vs H Q E,sp vs H Q E->vs.length=ps.length)
  (qd:∀(ae:Value) (A:Around) (outer:List Env) (s:Shared) (H:Hp) (vs:List V) (Q:VK) (E:XK),aM k (A.deeper (envOfC qual (g_ st) s.heap.objs.size f ae))->sp vs H Q E->
   ∃t,cN (bQ (bB P w) P w K mg base N qual (g_ st) f ae A outer s H E) (z_ st) t/\t {nx:=λ_ H'=>Q .aw H',rt:=Q} (start N vs) H):ax P w K mg base (bB P w) (k+1) f fd ps sp:=by
 obtain⟨oc,od,kV,bq,pm,an,ae,ct,cH,rfl,lk,gj⟩:=F.ex
 exact Ey lk gj S len λA outer s H vs Q E hr iT=>qd ae A outer s H vs Q E hr iT
theorem ax.up{k:Nat}{f:Addr}{fd:FuncData}{ps:List Str}{sp:Sp}(F:ax P w K mg base aK k f fd ps sp):ax P w K mg base (bB P w) k f fd ps sp :=
 ⟨F.len,λA outer s H args us vs Q E hr he hb hv hs=>codeAny_mono (F.run A outer s H args us vs Q E hr he hb hv hs) λr s' hq=>by
  cases r with
  | error e=>exact False.elim hq
  | ok fl=>cases fl <;> exact hq⟩
theorem V6{C:Addr}{dY:String}{dZ:List Value}(X:K.In base)(q:PySem.W.excIn K C dZ dY=true):∃(nm qn:Str) (N:Addr) (bs bm:List Value) (hdct:Bool) (sn:List Str) (sub:List Value) (ab:Bool) (col:Option Bool) (dd:Option Addr) (k0 k1 k2 k3 k5:Option Value) (cd:ClassData),
  base.get? C=some (excClassObj nm qn C N bs bm hdct sn sub ab col dd k0 k1 k2 k3 k5 dY)/\PySem.W.clsIn K C=some cd/\cd.mro=.ref C::bm/\PySem.W.nsOkIn K N=true/\PySem.W.nsIn K N "__init__"=some none/\PySem.W.tailIn K dZ bm=true:=by
 unfold PySem.W.excIn at q
 split at q
 ·rename_i Bf cl sl look
  split at q
  ·rename_i C' bm k0 k1 k2 k3 n k5 hm hs
   simp only[beq_iff_eq,a0J,Bool.not_eq_true'] at q
   have ⟨⟨⟨⟨⟨eC,eN⟩,noDel⟩,ht⟩,am⟩,rS⟩:=q
   subst eC eN
   cases cl with
   | mk nm bs mro ns qn hd sn sub ab col V7 =>
   have em:mro=.ref C'::bm:=hm
   have ed:V7=false:=noDel
   subst em ed
   have dG:sl=#[k0,k1,k2,k3,some (.builtin n),k5]:=by
    cases sl with
    | mk l=>exact congrArg Array.mk hs
   subst dG
   have ec:PySem.W.clsIn K C'=some ⟨nm,bs,.ref C'::bm,ns,qn,hd,sn,sub,ab,col,false⟩:=by
    unfold PySem.W.clsIn
    rw[look]
   exact⟨nm,qn,ns,bs,bm,hd,sn,sub,ab,col,Bf,k0,k1,k2,k3,k5,⟨nm,bs,.ref C'::bm,ns,qn,hd,sn,sub,ab,col,false⟩,X _ _ look,ec,rfl,am,rS,ht⟩
  ·cases q
 ·cases q
theorem wc{C:Addr}{dY gF B:String}{dZ:List Value}(fb:ExcBaseFacts B dY gF dZ)(X:K.In base)(q:PySem.W.excIn K C dZ dY=true):lm base C dY gF B dZ:=by
 obtain⟨nm,qn,ns,bs,bm,hd,sn,sub,ab,col,Bf,k0,k1,k2,k3,k5,cd,a1,_,_,am,rS,ht⟩:=V6 X q
 exact⟨fb,bm,ns,nm,qn,bs,hd,sn,sub,ab,col,Bf,k0,k1,k2,k3,k5,base.nsMap ns,a1,.of_isNs (PySem.W.isNs_of_in X am),PySem.W.nsMap_none_of_in X am rS,PySem.W.tail_of_in X ht⟩
end
def XP(X:Cx)(aa:List (Addr×Obj))(R:St->Addr->Hp->Prop)(e:Value)(s':Shared):Prop :=
 ∃(x C:Addr) (a0:Value) (σ:St) (H1 H':Hp) (s1:Shared),e=.ref x/\Inv X aa σ H1 s1/\s'.os=s1.os/\AllBare s'.gens/\Un (bz X.stack) [] H1 H' s1.heap s'.heap/\bC X.prog X.w H' s'.heap/\li s1.heap H' s'.heap x (.ref C) a0/\R σ C H'
abbrev TX:=Ends->(St->Addr->Hp->Prop)->St->Hp->Prop
def PX(X:Cx)(st:Stmt)(t:TX):Prop :=
 ∀(aa:List (Addr×Obj)) (s:Shared) (σ:St) (H:Hp) (D:Ends) (R:St->Addr->Hp->Prop),Inv X aa σ H s->t D R σ H->wpAny (model X.prog X.w) X.A (exec st X.env) (SP X aa D) (XP X aa R) s
def we(X:Cx)(st:List Stmt)(t:TX):Prop :=
 ∀(aa:List (Addr×Obj)) (s:Shared) (σ:St) (H:Hp) (D:Ends) (R:St->Addr->Hp->Prop),Inv X aa σ H s->t D R σ H->wpAny (model X.prog X.w) X.A (execs st X.env) (SP X aa D) (XP X aa R) s
section
variable{X:Cx}{k:Nat}{f:Addr}{fd:FuncData}{ps:List Str}{sp:Sp}{x:Str}{p pos ln:Pos}{e:Expr}{es:List Expr}{t:TA}
def V8(tc:TT)(t u:TX):TX:=λD R σ H=>tc σ H λc H1=>if c=true then t D R σ H1 else u D R σ H1
theorem Bg{c:Expr}{a b:List Stmt}{tc:TT}{ta tb:TX}(hc:PT X.gk c tc)(ha:we X a ta)(hb:we X b tb):PX X (.If c a b pos) (V8 tc ta tb):=by
 intro aa s σ H D R I h
 have hT:wpAny (model X.prog X.w) X.A (isTrue c X.env (eval c X.env)) (TP X aa σ λd H1=>if d=true then ta D R σ H1 else tb D R σ H1) (XP X aa R) s :=
  wpAny_mono (hc aa s σ H _ (I.eR _) h) (λd s1 ⟨H1,I1,q⟩=>⟨H1,I1.fW,q⟩) λ_ _ z=>False.elim z
 refine wpAny_If (au hT λd s1 ⟨H1,I1,q1⟩=>?_)
 cases d with
 | true=>exact ha aa s1 σ H1 D R I1 q1
 | false=>exact hb aa s1 σ H1 D R I1 q1
theorem lq{st:Stmt}{tx:TX}(h:PX X st tx):we X [st] tx:=λaa s σ H D R I hw=>by
 refine wpAny_execs_cons (au (h aa s σ H D R I hw) λfl s1 q=>?_)
 cases fl with
 | next=>exact wpAny_execs_nil q
 | brk=>exact q
 | cont=>exact q
 | ret u=>exact q
end
section
variable{X:Cx}{aa:List (Addr×Obj)}{σ:St}{H1 H':Hp}{s1:Shared}{h h2:Heap}
theorem Bh(un:Un (bz X.stack) [] H1 H' s1.heap h)(nr:iI s1.heap H' (bz X.stack) h h2):Un (bz X.stack) [] H1 H' s1.heap h2 :=
 ⟨λb o e n nb nx=>nr.keep b o (un.keep b o e n nb nx) nb (.inl (by rw[e];exact λz=>by cases z)),
  λb o e n hb nx=>by
   obtain⟨sl,e1⟩:=un.slot b o e n hb nx
   obtain⟨nw,e2⟩:=nr.slot b _ e1 hb
   exact⟨nw,e2⟩,
  un.free,λb o e nx=>by
   obtain⟨o',e1⟩:=un.there b o e nx
   exact nr.there b o' (by rw[e];exact λz=>by cases z) e1,un.eQ,un.d7,un.fC⟩
theorem Bi{P:Program}{w:World}{h0:Heap}{fs:List Addr}(am:bC P w H' h)(nr:iI h0 H' fs h h2)(xU:∀b∈fs,H' b=none):bC P w H' h2:=λb o e=>by
 refine(am b o e).cE (λc u hc q=>?_) (λ_ q=>q) λ_ _ q=>q
 have lj:H' c≠none:=by
  rcases hc with hc | hc
  ·rw[hc,e];exact λz=>by cases z
  ·rw[hc];exact λz=>by cases z
 exact nr.keep c u q (λz=>lj (xU c z)) (.inr lj)
end
section
variable{X:Cx}{aa:List (Addr×Obj)}{σ:St}{H:Hp}{s:Shared}
theorem V9{M:Model}{A:Around}{E:Value->Shared->Prop}{i:Nat}{x:Str}{v:V}{Q:Unit->Shared->Prop}(I:Inv X aa σ H s)(hN:X.N.Nodup)(hi:X.N[i]?=some x)(hk:X.env.scope.names.lookup x=some .local)(hv:σ[i]?=some (some v))(Bj:nL X.env.scope x)
  (rT:X.env.kindOf x=some .local) (h:∀s',Inv X aa (σ.set i none) H s'->Q () s'):wpAny M A (unbindName X.env x) Q E s:=by
 obtain⟨m,hn,hl⟩:=id I.loc
 have pV:(X.env.scope.kind==.class || (X.env.scope.kind==.module&&X.env.locals != X.env.globals))=false:=by rw[I.ok.kind];rfl
 have so:i<σ.length:=by rw[I.len];exact(ZX.mp hi).1
 have ia:=I.ia
 obtain⟨u0,r0,lk⟩:=hl i x v hi hv Bj
 have hm:m x=some u0:=by
  rcases lk with⟨_,e⟩ | ⟨k,_⟩
  ·exact e
  ·rcases k with k | k
   ·rw[rT] at k;cases k
   ·rw[rT] at k;cases k
 refine wpAny_unbindName_local rT hn hm pV λh' u xh hs=>?_
 obtain⟨oL,_,_,Dz,_⟩:=id hn
 have gt:∀b o,X.cy.heap.get? b=some o->b≠X.env.locals:=λb o e=>a0c (Z7 (ZY e) I.ok.above)
 refine h _ ⟨I.ok,I.os,I.bare,⟨λb o e n hb hx=>(hs.2 b (gt b o e)).trans (I.base.keep b o e n hb hx),λb o e n hb hx=>?_,I.base.free,λb o e hx=>?_,I.base.eQ,I.base.d7,I.base.fC⟩,⟨_,xh,λj y v' e1 e2 e3=>?_⟩,λy c e=>?_,I.free,I.d8,λp hp=>?_,λb ob e=>?_,by simpa using I.len⟩
 ·obtain⟨sl,e1⟩:=I.base.slot b o e n hb hx
  exact⟨sl,(hs.2 b (gt b o e)).trans e1⟩
 ·obtain⟨o',e1⟩:=I.base.there b o e hx
  exact⟨o',(hs.2 b (gt b o e)).trans e1⟩
 ·by_cases hj:j=i
  ·subst hj
   rw[a1p so] at e2
   cases e2
  ·rw[a1j (Ne.symm hj)] at e2
   obtain⟨u',r',q⟩:=hl j y v' e1 e2 e3
   refine⟨u',r',?_⟩
   rcases q with⟨k,e⟩ | ⟨k,c,e,z⟩
   ·have ny:y≠x:=λe=>hj (xg hN e1 (e▸hi))
    exact .inl ⟨k,by show(if y=x then u else m y)=some u';rw[if_neg ny];exact e⟩
   ·exact .inr ⟨k,c,e,z.sameBut hs (ia y c e)⟩
 ·obtain⟨w',z⟩:=I.cell y c e
  exact⟨w',z.sameBut hs (ia y c e)⟩
 ·obtain⟨e,n,ne,nf,d⟩:=I.pin p hp
  exact⟨(hs.2 p.1 ne).trans e,n,ne,nf,d⟩
 ·refine(I.am b ob e).cE (λc w' hc q=>(hs.2 c λz=>?_).trans q) (λ_ q=>q) λ_ _ q=>q
  have hf:=I.free
  rw[<-z] at hf
  rcases hc with hc | hc
  ·rw[<-hc,hf] at e;cases e
  ·rw[hf] at hc;cases hc
end
section
variable{M:Model}{A:Around}{E:Value->Shared->Prop}
def Up(K:PySem.W.Frag)(C B:Addr):Prop:=PySem.W.mroIn K C (.ref B)=some true/\PySem.W.mroIn K B (.type "BaseException")=some true/\PySem.W.typeIn K (.ref B)=some (.type "type")
theorem V'{K:PySem.W.Frag}{h:Heap}{g:Array GenState}{d:Drawn}{t:Nat}{os:OsState}{e C B:Addr}{oe:Obj}{Q:Bool->Shared->Prop}(X:K.In h)(u:Up K C B)(he:h.get? e=some oe)(pV:oe.cls=.ref C)(hq:Q true ⟨h,g,d,t,os⟩):wpAny M A (excMatches (.ref e) (.ref B)) Q E ⟨h,g,d,t,os⟩:=by
 have L1:=PySem.W.looks_mroIn (M:=M) X u.1
 have L2:=PySem.W.looks_mroIn (M:=M) X u.2.1
 obtain⟨od,cd,sl,hB⟩:∃od cd sl,h.get? B=some ⟨.type "type",od,.cls cd,sl⟩:=by
  have z:=u.2.1
  have y:=u.2.2
  unfold PySem.W.mroIn PySem.W.clsIn at z
  split at z
  ·rename_i look
   unfold PySem.W.typeIn at y
   simp only[look] at y
   cases y
   exact⟨_,_,_,X _ _ look⟩
  ·cases z
 have f:=tc_notTuple
 unfold excMatches
 repeat (first | (with_reducible refine wpAny_loadPart_at he ?_;rw[pV]) | with_reducible refine wpAny_loadPart_at hB ?_ | with_reducible refine L2.at ?_ | with_reducible refine L1.at ?_ | wp_step)
 exact hq
end
abbrev Cx.marked(X:Cx)(v:Option Value):Cx:={X with A:=X.A.mark v,calm:=false}
section
variable{X:Cx}{aa:List (Addr×Obj)}{σ:St}{H:Hp}{s:Shared}{v:Option Value}
theorem Inv.mark(I:Inv X aa σ H s)(v:Option Value):Inv (X.marked v) aa σ H s :=
 ⟨⟨I.ok.mod,I.ok.kind,I.ok.glob,I.ok.blt,I.ok.above,I.ok.inj,I.ok.has,I.ok.lD,(λz=>by cases z),I.ok.frames,I.ok.nM,I.ok.pU,I.ok.bs,I.ok.gJ,I.ok.lE,I.ok.lF,I.ok.fT,I.ok.ju⟩,I.os,I.bare,I.base,I.loc,I.cell,I.free,I.d8,I.pin,I.am,I.len⟩
theorem Inv.unmark(ok:X.Ok)(I:Inv (X.marked v) aa σ H s):Inv X aa σ H s:=⟨ok,I.os,I.bare,I.base,I.loc,I.cell,I.free,I.d8,I.pin,I.am,I.len⟩
def jp(x C:Addr):HO:=.ext λh=>∃o,h.get? x=some o/\o.cls=.ref C/\o.dict=none/\∃vs,o.data=.fields vs
theorem Wa{x:Addr}{o:HO}(I:Inv X aa σ H s)(hx:H x=none)(x0:X.cy.heap.get? x=none)(xl:x≠X.env.locals)(xc:∀y c,X.env.cells.lookup y=some c->c≠x)(xp:∀p∈X.pn++aa,p.1≠x)(ok:b8 X.prog X.w (upd H x o) s.heap x o):Inv X aa σ (upd H x o) s:=by
 have ne:∀b u,H b=some u->b≠x:=λb u e z=>by rw[z,hx] at e;cases e
 have n0:∀b u,X.cy.heap.get? b=some u->b≠x:=λb u e z=>by rw[z,x0] at e;cases e
 refine⟨I.ok,I.os,I.bare,⟨I.base.keep,I.base.slot,λb u e n jJ=>?_,I.base.there,λb xs e=>?_,λb u xs e=>?_,λb ps e=>?_⟩,I.loc,I.cell,by rw[i_ xl.symm];exact I.free,λy c e=>by rw[i_ (xc y c e)];exact I.d8 y c e,λp hp=>?_,λb u e=>?_,I.len⟩
 ·rw[i_ (n0 b u e)];exact I.base.free b u e n jJ
 ·have e1:=I.base.eQ b xs e
  rw[i_ (ne b _ e1)];exact e1
 ·have e1:=I.base.d7 b u xs e
  rw[i_ (ne b _ e1)];exact e1
 ·obtain⟨more,e1⟩:=I.base.fC b ps e
  exact⟨more,by rw[i_ (ne b _ e1)];exact e1⟩
 ·obtain⟨a1,a2,a3,a4,a5⟩:=I.pin p hp
  exact⟨a1,by rw[i_ (xp p hp)];exact a2,a3,a4,a5⟩
 ·by_cases z:b=x
  ·subst z
   rw[d_] at e
   cases e
   exact ok
  ·rw[i_ z] at e
   exact(I.am b u e).cE (λ_ _ _ q=>q) (λc q=>by rw[i_ (ne c _ q)];exact q) λc xs q=>by rw[i_ (ne c _ q)];exact q
end
def Wb(K:PySem.W.Frag)(B:Addr)(ie:Nat)(tb:TX)(ts:TS):TS:=λD σ H=>tb D (λaz C H'=>Up K C B/\∀x,H' x=none->ts {nx:=λcr H2=>D.nx (cr.set ie none) H2,rt:=λ_ _=>False} (az.set ie (some (.ref x))) (upd H' x (jp x C))) σ H
theorem JX{X:Cx}{body JY:List Stmt}{JZ:Stmt}{cx n:Str}{cp hp pos:Pos}{B:Addr}{ie:Nat}{tb:TX}{ts:TS}(hb:we X body tb)(tq:X.ex=[])(eh:X.stack=X.env::X.outer)(Wc:X.env.frame=some X.env.locals)(hN:X.N.Nodup)(hi:X.N[ie]?=some n)
  (J0:Loc X.env.scope n) (hk:X.env.scope.names.lookup n=some .local) (rT:X.env.kindOf n=some .local) (Bj:nL X.env.scope n) (hg:Gl X cx) (hm:X.mg cx=some (.ref B)) (hs:∀v,cN (X.marked v).gk (JZ::JY) ts) (hd:(cx==("__debug__":Str))=false:=by decide) :
  PS X (.Try body [.ExceptHandler (some (.Name cx cp)) (some n) (JZ::JY) hp] [] [] pos) (Wb X.K B ie tb ts):=by
 intro aa s σ H D I h
 refine wpAny_Try_except (wpAny_mono (hb aa s σ H D _ I h) (λf s1 q=>?_) λe s1 q=>?_)
 ·cases f with
  | next=>exact wpAny_execs_nil q
  | brk=>exact q
  | cont=>exact q
  | ret u=>exact q
 obtain⟨x,C,a0,gM,H1,H',sc,rfl,Ic,os,bare,un,am,iJ,up,hR⟩:=q
 have nil:∀(P:Addr->Prop),∀b∈([]:List Addr),P b:=λ_ b z=>absurd z (by simp)
 have I1:Inv X aa gM H' s1:=Ic.pX os un am bare (nil _)
 have rR:bz (X.env::X.outer)=bz X.stack:=by rw[eh]
 refine JT (h0:=sc.heap) (H:=H') (by rw[<-eh];exact Ic.ok.frames) (by rw[<-eh];exact I1.stack) Wc iJ (λb o e=>un.there b o e (by simp)) (λb o e=>(am b o e).there) λh2 Bk fa=>?_
 rw[rR] at Bk
 have Bl:=Bh un Bk
 have Bm:=Bi am Bk (λb hb=>I1.jv b hb)
 have I2:Inv X aa gM H' {s1 with heap:=h2}:=Ic.pX (s':={s1 with heap:=h2}) os Bl Bm bare (nil _)
 refine wb (h0:=sc.heap) (H:=H') (l:=X.stack) I2.stack fa (λb o e=>Bl.there b o e (by simp)) (λb o e=>(Bm b o e).there) λh3 pE J1=>?_
 have Bn:=Bh Bl pE
 have Bo:=Bi Bm pE (λb hb=>I2.jv b hb)
 have I3:Inv X aa gM H' {s1 with heap:=h3}:=Ic.pX (s':={s1 with heap:=h3}) os Bn Bo bare (nil _)
 obtain⟨ox,Wd,We⟩:∃o,h3.get? x=some o/\o.cls=.ref C:=by
  obtain⟨_,_,oe,_,_,_,_,e1,e2,_⟩:=J1
  exact⟨oe,e1,e2.1⟩
 refine wpAny_handleBy_cons (codeAny_handlers_test (nO (X:=X.marked (some (.ref x))) (I3.mark (some (.ref x))) hg hm ?_ hd)) (by intro z;cases z)
 refine V' I3.bW up Wd We ?_
 refine codeAny_handlers_suite_as ?_
 refine wb (h0:=sc.heap) (H:=H') (l:=X.stack) (fl:=.none) I3.stack J1 (λb o e=>Bn.there b o e (by simp)) (λb o e=>(Bo b o e).there) λh4 J2 Wf=>?_
 have Wg:=Bh Bn J2
 have Wh:=Bi Bo J2 (λb hb=>I3.jv b hb)
 have I4:Inv X aa gM H' {s1 with heap:=h4}:=Ic.pX (s':={s1 with heap:=h4}) os Wg Wh bare (nil _)
 obtain⟨x0,xH,J4,Wi,_,_,_,e4,c4,d4,_⟩:=Wf
 have eU:∀b o,sc.heap.get? b=some o->b≠x:=λb o e z=>by rw[z,x0] at e;cases e
 have I5:Inv X aa gM (upd H' x (jp x C)) {s1 with heap:=h4}:=by
  refine Wa I4 xH ?_ ?_ ?_ ?_ ⟨⟨J4,e4,c4.1,c4.2.2,Wi,d4⟩,⟨J4,e4⟩,λg1 g2 ⟨o,a1,a2⟩ k=>⟨o,k o a1,a2⟩⟩
  ·cases z:X.cy.heap.get? x with
   | none=>rfl
   | some o =>
    obtain⟨o',e'⟩:=Ic.base.there x o z (by rw[tq];simp)
    exact absurd rfl (eU x o' e')
  ·obtain⟨m,⟨o,_,_,ho,_⟩,_⟩:=id Ic.loc
   exact(eU _ o ho).symm
  ·intro y c e
   obtain⟨w',o,ho,_⟩:=Ic.cell y c e
   exact eU _ o ho
  ·intro p lY
   exact eU _ _ (Ic.pin p lY).1
 refine pW I5 hN hi J0 (v:=.ref x) rfl (λs6 I6=>?_) (.inr hk)
 refine wpAny_mono (hs (some (.ref x)) aa s6 _ _ _ ((I6.mark (some (.ref x))).eR _) (hR x xH)) (λf s7 q7=>?_) λ_ _ z=>False.elim z
 cases f with
 | brk=>obtain⟨_,_,_,z⟩:=q7;exact z.elim
 | cont=>obtain⟨_,_,_,z⟩:=q7;exact z.elim
 | ret u=>obtain⟨_,_,_,_,_,z⟩:=q7;exact z.elim
 | next =>
  obtain⟨dI,H7,Wj,q8⟩:=q7
  have I7:Inv X aa dI H7 s7:=Inv.unmark Ic.ok Wj.fW
  have b9:ie<dI.length:=by rw[I7.len];exact(ZX.mp hi).1
  show wpAny _ _ (bindName X.env n .none>>=λ_=>unbindBehindTheSuite X.env n hp) _ _ s7
  refine wpAny_bind (wpAny_bindName (pW I7 hN hi J0 (v:=.aw) rfl (λs8 I8=>?_) (.inr hk)))
  unfold unbindBehindTheSuite
  refine wpAny_onRaise (V9 I8 hN hi hk (v:=.aw) (a1p b9) Bj rT λs9 I9=>?_)
  rw[List.set_set] at I9
  exact⟨_,H7,I9,q8⟩
end L2
namespace L2
open PySem PySem.Spec PyProof.Rows PySem.W
structure iK(K:Frag)(C:Addr):Prop where
 hg:findIn K (.ref C) "__getattribute__"=some (some (.builtin "BaseException.__getattribute__"))
 hh:findIn K (.ref C) "__getattr__"=some none
 fo:findObj K C none "__class__"=some (.bind (.builtin "getset_descriptor.__get__") (.builtin "object.__class__"))
 hm:mroIn K C (.type "object")=some true
 hb:mroIn K C (.type "BaseException")=some true
section
variable{prog:Program}{w:World}{A:Around}{E:Value->Shared->Prop}{s:Shared}{K:Frag}{x C:Addr}{ox:Obj}
theorem J5{v:Value}{b:Bool}(h:mroIn K C v=some b):∃cd,clsIn K C=some cd:=by
 unfold mroIn at h
 cases e:clsIn K C with
 | none=>rw[e] at h;cases h
 | some cd=>exact⟨cd,rfl⟩
theorem J6{tk:Tok}{Q:Fin->Shared->Prop}(c:iK K C)(X:K.In s.heap)(I:PySem.W.InstAt s.heap x ox C none)(h:Q (.done (.ret (.ref C))) s):wpAny (model prog w) A (Builtin.«object.__getattribute__» ⟨[.ref x,.str "__class__" tk],[]⟩) Q E s:=by
 have L0:=I.type (M:=model prog w)
 have L1:=looks_find (M:=model prog w) X I c.fo
 obtain⟨hh,gg,d,t,os⟩:=s
 refine wpAny_bind (wpAny_pure (wpAny_bind (wpAny_pure (wpAny_bind (L0.at (wpAny_bind (L1.at ?_)))))))
 show wpAny _ _ (holding [_] (call _ _)>>=ret) _ _ _
 refine wpAny_bind (wpAny_holding (wpAny_call (class_get (s:=⟨hh,gg,d,t,os⟩) (ox:=ox) (od:=none) X I c.hm ?_)))
 exact wpAny_pure h
theorem Wk{tk:Tok}{R:Result->Shared->Prop}(c:iK K C)(X:K.In s.heap)(I:PySem.W.InstAt s.heap x ox C none)(h:R (.ok (.ret (.ref C))) s):codeAny (model prog w) A (.call (.builtin "BaseException.__getattribute__") ⟨[.ref x,.str "__class__" tk],[]⟩) R s:=by
 have L0:=I.type (M:=model prog w)
 have L1:=looks_mroIn (M:=model prog w) X c.hb
 have LI:Looks (model prog w) s.heap (isInstance (.ref x) (.type "BaseException")) true:=L0.andThen L1
 obtain⟨hh,gg,d,t,os⟩:=s
 refine codeAny_call_builtin F.excAttr_ValueError.ga.plain F.entry_bexc_ga ?_
 have hk:builtinKind "BaseException.__getattribute__"=some .slot:=by decide +kernel
 have Wl:splitId "BaseException.__getattribute__"=some ("BaseException","__getattribute__"):=by decide +kernel
 have ha:=F.args_bexc_ga (.ref x) (.str "__class__" tk)
 simp only[checkBuiltinCall,hk,Wl]
 refine wpAny_bind (LI.at ?_)
 simp only[Bool.not_true,a0O,if_false]
 unfold argsOk at ha
 generalize Manifest.signature? "BaseException.__getattribute__"=o at ha⊢
 cases o with
 | none=>exact wpAny_pure (J6 (s:=⟨hh,gg,d,t,os⟩) c X I h)
 | some J7 =>
  have nv:Bind.checkArgs "BaseException.__getattribute__" J7 ⟨[.ref x,.str "__class__" tk],[]⟩=pure ():=ha
  show wpAny _ _ (Bind.checkArgs "BaseException.__getattribute__" J7 ⟨[.ref x,.str "__class__" tk],[]⟩) _ _ _
  rw[nv]
  exact wpAny_pure (J6 (s:=⟨hh,gg,d,t,os⟩) c X I h)
theorem Wm{Q:Option Value->Shared->Prop}(c:iK K C)(X:K.In s.heap)(I:PySem.W.InstAt s.heap x ox C none)(h:Q (some (.ref C)) {s with toks:=s.toks+1}):wpAny (model prog w) A (getAttr? (.ref x) "__class__") Q E s:=by
 obtain⟨hh,gg,d,t,os⟩:=s
 have L0:=I.type (M:=model prog w)
 have L1:=looks_findIn (M:=model prog w) X c.hg
 have L2:=looks_findIn (M:=model prog w) X c.hh
 unfold getAttr? getAttrBy? getAttrBy
 refine wpAny_bind (wpAny_mkText (wpAny_bind (wpAny_attempt (wpAny_holding (wpAny_bind (L0.at (wpAny_bind (L1.at ?_))))))))
 have gX:(Value.builtin "BaseException.__getattribute__"==Value.builtin "object.__getattribute__")=false:=by decide +kernel
 have eL:(onTheHeap (Value.ref C)&&Value.builtin "BaseException.__getattribute__"==Value.builtin "object.__getattribute__")=false:=by rw[gX];rfl
 simp only[eL,a0O,if_false]
 unfold getAttrByItsOwn hookBefore callGetattribute boundAndCalled
 simp only[onTheHeap,if_true,a2b,a0O,if_false]
 refine wpAny_bind (L2.at (wpAny_bind (wpAny_attempt (wpAny_holding ?_))))
 rw[F.excAttr_ValueError.ga.bind (.ref x)]
 refine wpAny_bind (wpAny_pure (wpAny_call (Wk (s:=⟨hh,gg,d,t+1,os⟩) c X I ?_)))
 exact handed_on rfl (wpAny_pure h)
theorem Wn(c:iK K C):KitX K (.ref x) (.ref C) (λh=>∃ox,PySem.W.InstAt h x ox C none) where
 ty:=λ_ _ _ ⟨_,I⟩=>I.type
 it:=λ_ _ X _=>by
  obtain⟨cd,q⟩:=J5 c.hm
  unfold clsIn at q
  split at q
  ·rename_i a1 a2 a3 a4 look
   intro A' Q' E' s' keep z
   unfold isType loadHead
   exact wpAny_bind (wpAny_loadPart (keep _ _ (X _ _ look)) (wpAny_pure z))
  ·cases q
 ne:=λh tp dd ad n sl X Wo=>by
  obtain⟨cd,q⟩:=J5 c.hm
  refine Bool.eq_false_iff.mpr λsame=>?_
  have e:C=tp:=Value.ref.inj (beq_iff_eq.mp same)
  subst e
  unfold clsIn at q
  split at q
  ·rename_i a1 a2 a3 a4 look
   cases (X _ _ look).symm.trans Wo
  ·cases q
 ca:=λX ⟨_,I⟩ k=>Wm c X I k
end
section
variable{X:Cx}
theorem Wp{P:Program}{w:World}{H:Hp}{h:Heap}{x C:Addr}(ok:bC P w H h)(e:H x=some (jp x C)):∃ox,PySem.W.InstAt h x ox C none:=by
 obtain⟨⟨o,a1,a2,a3,vs,a4⟩,_⟩:=(show b8 P w H h x (jp x C) from ok x _ e)
 refine⟨o,a1,a2,?_,?_⟩
 ·unfold notCls
  rw[a4]
 ·rw[a3];exact trivial
theorem J8:dm X (.builtin "isinstance") (λxs H Q=>∃x C b,∃d:V,∃dv:Value,xs=[.ref x,d]/\H x=some (jp x C)/\iK X.K C/\(∀u,RelV d u->u=dv)/\kitOne X.K (.ref C) dv=some b/\Q (.bl b) H):=by
 intro aa s σ H xs us Q I r h
 obtain⟨x,C,b,d,dv,rfl,hx,c,Wq,e,q⟩:=h
 obtain⟨u,v,rfl,rx,ry⟩:=vals2 r
 cases (show u=Value.ref x from rx)
 cases Wq v ry
 exact kia_one (Wn c) I.bW (Wp I.am hx) e (λz=>nomatch z) λtk=>⟨.bl b,H,I.tok tk,rfl,q⟩
end
end L2
namespace L2
open PySem PySem.Spec PyProof.Rows
def dc(a b:Sp):Sp:=λvs H Q E=>a vs H Q E\/b vs H Q E
section
variable{P:Program}{w:World}{K:PySem.W.Frag}{mg:Str->Option Value}{base:Heap}{CX:fY}{k:Nat}{f:Addr}{fd:FuncData}{ps:List Str}{sp jy:Sp}{x:Str}
theorem ax.or(F:ax P w K mg base CX k f fd ps sp)(G:ax P w K mg base CX k f fd ps jy):ax P w K mg base CX k f fd ps (dc sp jy) :=
 ⟨λvs H Q E h=>h.elim (F.len vs H Q E) (G.len vs H Q E),λA outer s H args us vs Q E hr he hb hv hs=>hs.elim (F.run A outer s H args us vs Q E hr he hb hv) (G.run A outer s H args us vs Q E hr he hb hv)⟩
theorem ax.less(F:ax P w K mg base CX k f fd ps sp)(h:∀vs H Q E,jy vs H Q E->sp vs H Q E):ax P w K mg base CX k f fd ps jy :=
 ⟨λvs H Q E z=>F.len vs H Q E (h vs H Q E z),λA outer s H args us vs Q E hr he hb hv hs=>F.run A outer s H args us vs Q E hr he hb hv (h vs H Q E hs)⟩
structure fx(P:Program)(w:World)(K:PySem.W.Frag)(mg:Str->Option Value)(base:Heap)(k:Nat)(x:Str)(ps:List Str)(sp:Sp):Prop where
 ex:∃f fd,ax P w K mg base (bB P w) k f fd ps sp/\mg x=some (.ref f)/\PySem.W.keepIn K (.ref f)=true/\Binds K fd ps []
theorem ak.less(D:ak P w K mg base k x ps sp)(h:∀vs H Q E,jy vs H Q E->sp vs H Q E):ak P w K mg base k x ps jy:=by
 obtain⟨f,fd,G,r⟩:=D.ex
 exact⟨f,fd,G.less h,r⟩
end
section
variable{P:Program}{w:World}{K:PySem.W.Frag}{mg:Str->Option Value}{base:Heap}{N:List Str}{qual:Str}{scope:Scope}{f:Addr}{cd:Value}{A:Around}{outer:List Env}{s:Shared}{H:Hp}{E:XK}{k:Nat}{x:Str}{ps:List Str}{sp:Sp}{e:Expr}{es:List Expr}{t:TA}{p pos:Pos}
theorem nA(D:fx P w K mg base k x ps sp)(hr:aM k (bQ (bB P w) P w K mg base N qual scope f cd A outer s H E).A)(hg:Gl (bQ (bB P w) P w K mg base N qual scope f cd A outer s H E) x)(ha:PA (bQ (bB P w) P w K mg base N qual scope f cd A outer s H E) (e::es) t)
  (dL:(x==("__debug__":Str))=false:=by decide) (he:starEach (e::es) (bQ (bB P w) P w K mg base N qual scope f cd A outer s H E).env=(false,eval e (bQ (bB P w) P w K mg base N qual scope f cd A outer s H E).env)::starEach es (bQ (bB P w) P w K mg base N qual scope f cd A outer s H E).env:=by rfl)
  (hpl:(backTo pos (starEach es (bQ (bB P w) P w K mg base N qual scope f cd A outer s H E).env)).any (·.1)=false:=by rfl):PE (bQ (bB P w) P w K mg base N qual scope f cd A outer s H E) (.Call (.Name x p) (e::es) [] pos) (xB sp [] E t):=by
 obtain⟨f',fd,G,h1,h2,h3⟩:=D.ex
 exact Er G hr hg h1 h2 h3 .nil V3 ha dL he hpl
end
section
variable{X:Cx}{k:Nat}{x:Str}{ps:List Str}{sp:Sp}{e:Expr}{es:List Expr}{t:TA}{p pos ln:Pos}
end
end L2
namespace Hv
open PySem L2
section
variable{P:Program}{w:World}{K:PySem.W.Frag}{mg:Str->Option Value}{base h:Heap}
def cs(l:List Addr):Nat->Addr:=λj=>l.getD j 0
end
structure Kind(K:PySem.W.Frag)(c:Nat->Addr)(C:Addr)(i:Nat):Prop where
 cl:iK K C
 lt:i<10
 kt:∀j,j<10->PySem.W.kitOne K (.ref C) (.ref (c j))=some (decide (i=j))
 kv:PySem.W.kitOne K (.ref C) (.type "ValueError")=some true
structure J9(mg:Str->Option Value)(c:Nat->Addr):Prop where
 n0:mg "NoFrame"=some (.ref (c 0))
 n1:mg "NoNumber"=some (.ref (c 1))
 n2:mg "NoPart"=some (.ref (c 2))
 n3:mg "NoSum"=some (.ref (c 3))
 n4:mg "NoMiss"=some (.ref (c 4))
 n5:mg "NoEven"=some (.ref (c 5))
 n6:mg "NoFrames"=some (.ref (c 6))
 n7:mg "NoText"=some (.ref (c 7))
 n8:mg "NoName"=some (.ref (c 8))
 n9:mg "NoRow"=some (.ref (c 9))
 ve:mg "ValueError"=none
theorem Wr:bootBuiltins "ValueError"=some (.type "ValueError"):=by first | exact PyProof.Rows.boot_ValueError | rfl
def tK(K:PySem.W.Frag)(c:Addr):TE:=fun σ H Q=>∃x C b,σ[0]?=some (some (.ref x))/\H x=some (jp x C)/\iK K C/\PySem.W.kitOne K (.ref C) (.ref c)=some b/\Q (.bl b) H
theorem pk{X:Cx}{c:Addr}{nm cn:Str}{q0 p q pos:Pos}(hi:X.mg "isinstance"=none)(hm:X.mg nm=some (.ref c))(hv:PE X (.Name cn q0) (lJ 0))(hg:Gl X "isinstance")(qu:Gl X nm)(hd:(nm==("__debug__":Str))=false:=by decide):PE X (.Call (.Name "isinstance" p) [.Name cn q0,.Name nm q] [] pos) (tK X.K c) :=
 weak (r_ J8 hg hi boot_isinstance (a_ hv (a_ (L5 (v:=.ref c) qu hm rfl hd) e_))) fun σ H Q h=>by
  obtain⟨x,C,b,h1,h2,h3,h4,q⟩:=h
  exact⟨_,h1,x,C,b,_,_,rfl,h2,h3,λ_ r=>r,h4,q⟩
def gf:List Str:=["frame","number","part","sum","miss","even","frames","text","name","row"]
theorem Ws:(gf.all λx=>PyData.canLay0 (.str x))=true:=by decide +kernel
def rV(K:PySem.W.Frag)(c:Nat->Addr):Sp:=λvs H Q _=>∃x C,∃i:Nat,∃wd:Str,∃w:Str,vs=[.ref x,.str w]/\PyData.canLay0 (.str w)=true/\H x=some (jp x C)/\Kind K c C i/\gf[i]?=some wd/\∀H',ag H H'->Q (.bl (decide (wd=w))) H'
@[irreducible] def wE:Expr:=(.List [(.Constant (.str "frame") 0 ⟨290,13,290,20⟩),(.Constant (.str "number") 0 ⟨290,22,290,30⟩),(.Constant (.str "part") 0 ⟨290,32,290,38⟩),(.Constant (.str "sum") 0 ⟨290,40,290,45⟩),(.Constant (.str "miss") 0 ⟨290,47,290,53⟩),(.Constant (.str "even") 0 ⟨290,55,290,61⟩),(.Constant (.str "frames") 0 ⟨290,63,290,71⟩),(.Constant (.str "text") 0 ⟨290,73,290,79⟩),(.Constant (.str "name") 0 ⟨290,81,290,87⟩),(.Constant (.str "row") 0 ⟨290,89,290,94⟩)] ⟨290,12,290,95⟩)
theorem Bp:wE=(.List [(.Constant (.str "frame") 0 ⟨290,13,290,20⟩),(.Constant (.str "number") 0 ⟨290,22,290,30⟩),(.Constant (.str "part") 0 ⟨290,32,290,38⟩),(.Constant (.str "sum") 0 ⟨290,40,290,45⟩),(.Constant (.str "miss") 0 ⟨290,47,290,53⟩),(.Constant (.str "even") 0 ⟨290,55,290,61⟩),(.Constant (.str "frames") 0 ⟨290,63,290,71⟩),(.Constant (.str "text") 0 ⟨290,73,290,79⟩),(.Constant (.str "name") 0 ⟨290,81,290,87⟩),(.Constant (.str "row") 0 ⟨290,89,290,94⟩)] ⟨290,12,290,95⟩):=by unfold wE;rfl
def Wt:TE:=λ_ H Q=>∀l,H l=none->Q (.ref l) (upd H l (.lst (gf.map V.str)))
theorem Wu{X:Cx}:PE X wE Wt:=by
 rw[Bp]
 refine weak (t:=Eo (gP (tC (.str "frame")) (gP (tC (.str "number")) (gP (tC (.str "part")) (gP (tC (.str "sum")) (gP (tC (.str "miss")) (gP (tC (.str "even")) (gP (tC (.str "frames")) (gP (tC (.str "text")) (gP (tC (.str "name")) (gP (tC (.str "row")) lQ))))))))))) ?_ fun σ H Q h=>⟨sz (by decide),λl hl=>h l hl⟩
 refine A_ ?_
 refine a_ D_ ?_
 refine a_ D_ ?_
 refine a_ D_ ?_
 refine a_ D_ ?_
 refine a_ D_ ?_
 refine a_ D_ ?_
 refine a_ D_ ?_
 refine a_ D_ ?_
 refine a_ D_ ?_
 refine a_ D_ ?_
 exact e_
theorem Wv(a b:Str):PyData.eqv (.list [.str a]) (.list [.str b])=decide (a=b):=by
 simp[PyData.eqv,PyData.eqvAll]
 try rfl
abbrev stK(i:Nat):Stmt:=(z_ kF).getD i (.Pass ⟨0,0,0,0⟩)
theorem Ww:z_ kF=stK 0::stK 1::stK 2::.Assign [(.Name "words" ⟨290,4,290,9⟩)] wE ⟨290,4,290,95⟩::(z_ kF).drop 4:=by rw[Bp];rfl
section
variable{P:Program}{w:World}{K:PySem.W.Frag}{mg:Str->Option Value}{base:Heap}{c:Nat->Addr}
theorem Ka:aQ ["e","due","kinds","words","found"] ["e","due"] (g_ kF):=⟨rfl,rfl,rfl,by decide +kernel,rfl,by decide +kernel,by decide +kernel⟩
theorem Wx{f:Addr}{fd:FuncData}(F:aG K "_law_kind" "_law_kind" kF f fd)(T:Txt mg)(N:J9 mg c):ax P w K mg base aK 1 f fd ["e","due"] (rV K c):=by
 refine F.ok Ka (λvs H Q E h=>?_) (λae A outer s H vs Q E hr h=>?_)
 ·obtain⟨x,C,i,wd,wv,rfl,_⟩:=h;rfl
 ·obtain⟨x,C,i,wd,wv,rfl,am,hx,kd,hw,k⟩:=h
  have Kb:PyData.canLay0 (.str wd)=true:=a1h.mp Ws wd (Z1 hw)
  have nd:=Ka.nd
  have hu:=hr.units
  have dW:List.Nodup (["word","kind"]:List Str):=by decide +kernel
  rw[Ww]
  refine⟨_,(c_ (k_ (i:=2) nd rfl (Or.inl rfl) (A_ (a_ (pk T.eI N.n0 (pv 0) (by rfl) (by rfl)) (a_ (pk T.eI N.n1 (pv 0) (by rfl) (by rfl)) (a_ (pk T.eI N.n2 (pv 0) (by rfl) (by rfl)) (a_ (pk T.eI N.n3 (pv 0) (by rfl) (by rfl)) e_))))))
   (c_ (k_ (i:=2) nd rfl (Or.inl rfl) (p_ io (pv 2) (A_ (a_ (pk T.eI N.n4 (pv 0) (by rfl) (by rfl)) (a_ (pk T.eI N.n5 (pv 0) (by rfl) (by rfl)) (a_ (pk T.eI N.n6 (pv 0) (by rfl) (by rfl)) e_))))))
   (c_ (k_ (i:=2) nd rfl (Or.inl rfl) (p_ io (pv 2) (A_ (a_ (pk T.eI N.n7 (pv 0) (by rfl) (by rfl)) (a_ (pk T.eI N.n8 (pv 0) (by rfl) (by rfl)) (a_ (pk T.eI N.n9 (pv 0) (by rfl) (by rfl)) e_))))))
   (c_ (k_ (i:=3) nd rfl (Or.inl rfl) Wu (hs:=by rw[Bp];rfl))
   (c_ (Fk (i:=4) (N:=["word","kind"]) (k:=2) (fr:=[]) nd rfl (Or.inl rfl) (ql (sc:=g_ kF) (NX:=["e","due","kinds","words","found"]) (k:=2) (fr:=[]) rfl rfl (by decide +kernel)) (qm (sc:=g_ kF) (NX:=["e","due","kinds","words","found"]) rfl (by decide +kernel)) rfl (Fv (by rfl) T.zip (pv 3) (pv 2)) (λcl C s H fp=>yf K rfl rfl (N_ (q_ (i:=0) dW rfl (Or.inl rfl)) (N_ (q_ (i:=1) dW rfl (Or.inl rfl)) nV))) yg (λcl C s H fp=>xV (dP (pv 1))) (λcl C s H fp=>pv 0) (by rfl))
   (h_ (n_ (nR (r_ J8 (by rfl) T.eI boot_isinstance (a_ (pv 0) (a_ (qz N.ve Wr) e_))) (nQ (sI (Ox hu) (pv 4) (A_ (a_ (pv 1) e_)) (bO _))))))))))),?_⟩
  refine⟨x,C,_,rfl,hx,kd.cl,kd.kt 0 (by decide),⟨x,C,_,rfl,hx,kd.cl,kd.kt 1 (by decide),⟨x,C,_,rfl,hx,kd.cl,kd.kt 2 (by decide),⟨x,C,_,rfl,hx,kd.cl,kd.kt 3 (by decide),⟨sz (by simp),λl1 cX=>?_⟩⟩⟩⟩⟩
  have s1:=b_ (o:=.lst [.bl (decide (i=0)),.bl (decide (i=1)),.bl (decide (i=2)),.bl (decide (i=3))]) cX
  have u1:(upd H l1 (.lst [.bl (decide (i=0)),.bl (decide (i=1)),.bl (decide (i=2)),.bl (decide (i=3))])) l1=_:=d_
  generalize upd H l1 (.lst [.bl (decide (i=0)),.bl (decide (i=1)),.bl (decide (i=2)),.bl (decide (i=3))])=H1 at s1 u1⊢
  have gX:=s1 _ _ hx
  refine⟨_,rfl,⟨x,C,_,rfl,gX,kd.cl,kd.kt 4 (by decide),⟨x,C,_,rfl,gX,kd.cl,kd.kt 5 (by decide),⟨x,C,_,rfl,gX,kd.cl,kd.kt 6 (by decide),⟨sz (by simp),λm2 dB=>?_⟩⟩⟩⟩⟩
  have t2:=b_ (o:=.lst [.bl (decide (i=4)),.bl (decide (i=5)),.bl (decide (i=6))]) dB
  have v2:(upd H1 m2 (.lst [.bl (decide (i=4)),.bl (decide (i=5)),.bl (decide (i=6))])) m2=_:=d_
  generalize upd H1 m2 (.lst [.bl (decide (i=4)),.bl (decide (i=5)),.bl (decide (i=6))])=G2 at t2 v2⊢
  refine⟨l1,m2,_,_,rfl,rfl,t2 _ _ u1,v2,sz (by simp),λl2 bM=>?_⟩
  have s2:=(s1.trans t2).trans (b_ (o:=.lst [.bl (decide (i=0)),.bl (decide (i=1)),.bl (decide (i=2)),.bl (decide (i=3)),.bl (decide (i=4)),.bl (decide (i=5)),.bl (decide (i=6))]) bM)
  have u2:(upd G2 l2 (.lst [.bl (decide (i=0)),.bl (decide (i=1)),.bl (decide (i=2)),.bl (decide (i=3)),.bl (decide (i=4)),.bl (decide (i=5)),.bl (decide (i=6))])) l2=_:=d_
  generalize Wy:upd G2 l2 (.lst [.bl (decide (i=0)),.bl (decide (i=1)),.bl (decide (i=2)),.bl (decide (i=3)),.bl (decide (i=4)),.bl (decide (i=5)),.bl (decide (i=6))])=H2 at s2 u2
  rw[show upd G2 l2 (.lst ([.bl (decide (i=0)),.bl (decide (i=1)),.bl (decide (i=2)),.bl (decide (i=3))]++[.bl (decide (i=4)),.bl (decide (i=5)),.bl (decide (i=6))]))=H2 from Wy]
  have Bq:=s2 _ _ hx
  refine⟨_,rfl,⟨x,C,_,rfl,Bq,kd.cl,kd.kt 7 (by decide),⟨x,C,_,rfl,Bq,kd.cl,kd.kt 8 (by decide),⟨x,C,_,rfl,Bq,kd.cl,kd.kt 9 (by decide),⟨sz (by simp),λm3 Br=>?_⟩⟩⟩⟩⟩
  have t3:=b_ (o:=.lst [.bl (decide (i=7)),.bl (decide (i=8)),.bl (decide (i=9))]) Br
  have v3:(upd H2 m3 (.lst [.bl (decide (i=7)),.bl (decide (i=8)),.bl (decide (i=9))])) m3=_:=d_
  generalize upd H2 m3 (.lst [.bl (decide (i=7)),.bl (decide (i=8)),.bl (decide (i=9))])=G3 at t3 v3⊢
  refine⟨l2,m3,_,_,rfl,rfl,t3 _ _ u2,v3,sz (by simp),λl3 cQ=>?_⟩
  have s3:=(s2.trans t3).trans (b_ (o:=.lst [.bl (decide (i=0)),.bl (decide (i=1)),.bl (decide (i=2)),.bl (decide (i=3)),.bl (decide (i=4)),.bl (decide (i=5)),.bl (decide (i=6)),.bl (decide (i=7)),.bl (decide (i=8)),.bl (decide (i=9))]) cQ)
  have u3:(upd G3 l3 (.lst [.bl (decide (i=0)),.bl (decide (i=1)),.bl (decide (i=2)),.bl (decide (i=3)),.bl (decide (i=4)),.bl (decide (i=5)),.bl (decide (i=6)),.bl (decide (i=7)),.bl (decide (i=8)),.bl (decide (i=9))])) l3=_:=d_
  generalize Wz:upd G3 l3 (.lst [.bl (decide (i=0)),.bl (decide (i=1)),.bl (decide (i=2)),.bl (decide (i=3)),.bl (decide (i=4)),.bl (decide (i=5)),.bl (decide (i=6)),.bl (decide (i=7)),.bl (decide (i=8)),.bl (decide (i=9))])=H3 at s3 u3
  rw[show upd G3 l3 (.lst ([.bl (decide (i=0)),.bl (decide (i=1)),.bl (decide (i=2)),.bl (decide (i=3)),.bl (decide (i=4)),.bl (decide (i=5)),.bl (decide (i=6))]++[.bl (decide (i=7)),.bl (decide (i=8)),.bl (decide (i=9))]))=H3 from Wz]
  have ek:([.bl (decide (i=0)),.bl (decide (i=1)),.bl (decide (i=2)),.bl (decide (i=3)),.bl (decide (i=4)),.bl (decide (i=5)),.bl (decide (i=6)),.bl (decide (i=7)),.bl (decide (i=8)),.bl (decide (i=9))]:List V)=(List.range 10).map λj=>V.bl (decide (i=j)):=rfl
  rw[ek] at u3
  intro q hq
  have s4:=s3.trans (b_ (o:=.lst (gf.map V.str)) hq)
  have u4:(upd H3 q (.lst (gf.map V.str))) q=_:=d_
  have k4:(upd H3 q (.lst (gf.map V.str))) l3=_:=(b_ (o:=.lst (gf.map V.str)) hq) _ _ u3
  generalize upd H3 q (.lst (gf.map V.str))=H4 at s4 u4 k4⊢
  refine⟨_,rfl,_,rfl,q,l3,rfl,rfl,⟨_,af.of u4⟩,⟨_,af.of k4⟩,OP (K:=K) (a:=q) (b:=l3) (xs:=gf.map V.str) (ys:=(List.range 10).map λj=>V.bl (decide (i=j)))
   (λm zs H'=>zs=(if i<m then [V.str wd] else [])/\ag H4 H') rfl ⟨by simp,ag.refl _⟩ (λm zs H' _ p=>⟨af.of (p.2 _ _ u4),af.of (p.2 _ _ k4)⟩)
   (λm zs H' hi p=>cq (by rw[p.1];split <;> simp)) ?_ ?_⟩
  ·rintro m x1 y1 zs H' t eL Kc ⟨rfl,s'⟩ ht
   obtain⟨w1,Bs,rfl⟩:∃w1,gf[m]?=some w1/\x1=.str w1:=by
    rw[Z2] at eL
    cases e:gf[m]? with
    | none=>rw[e] at eL;cases eL
    | some d=>rw[e] at eL;exact⟨d,rfl,(Z6 eL).symm⟩
   have hm:m<10:=(ZX.mp Bs).1
   have ey:y1=V.bl (decide (i=m)):=by
    rw[Z2,a2u hm] at Kc
    exact(Z6 Kc).symm
   subst ey
   have st:=s'.trans (b_ (o:=.tup [.str w1,.bl (decide (i=m))]) ht)
   refine⟨t,_,rfl,bo.of d_,rfl,_,_,rfl,_,_,rfl,rfl,_,rfl,_,rfl,?_⟩
   refine jB (λh=>?_) (λh=>?_)
   ·have e:i=m:=of_decide_eq_true h
    subst e
    have ew:w1=wd:=by rw[hw] at Bs;exact(Z6 Bs).symm
    subst ew
    refine⟨_,rfl,?_,st⟩
    rw[if_neg (by lia),if_pos (by lia)]
    rfl
   ·have e:¬ i=m:=λz=>h (decide_eq_true z)
    refine⟨?_,st⟩
    by_cases h2:i<m
    ·rw[if_pos h2,if_pos (by lia)]
    ·rw[if_neg h2,if_neg (by lia)]
  rintro zs H' ⟨rfl,s'⟩ r dj
  have WA:i<(gf.map V.str).length:=kd.lt
  rw[if_pos WA]
  have s5:=s4.trans (s'.trans (b_ (o:=.lst [.str wd]) dj))
  have u5:(upd H' r (.lst [.str wd])) r=_:=d_
  generalize upd H' r (.lst [.str wd])=H5 at s5 u5⊢
  refine⟨_,rfl,x,C,_,_,_,rfl,s5 _ _ hx,kd.cl,λ_ r=>r,kd.kv,true,rfl,cf ?_⟩
  refine⟨_,rfl,_,rfl,sz (by simp),λp hp=>?_⟩
  have s6:=s5.trans (b_ (o:=.lst [.str wv]) hp)
  refine⟨.list [.str wd],.list [.str wv],kB ((b_ (o:=.lst [.str wv]) hp) _ _ u5) (.cons (x8 wd) .nil),kB d_ (.cons (x8 wv) .nil),⟨by simp only[PyData.canLay0,PyData.canLayAll0] at Kb⊢;simp[Kb],by simp only[PyData.canLay0,PyData.canLayAll0] at am⊢;simp[am],by simp[PyData.depth,PyData.depthAll]⟩,?_⟩
  rw[if_neg (by decide),Wv]
  exact k _ s6
end
def pG(x:V):Prop:=tP x=false\/∃i:Int,x=.int i/\i<0
def bP(_:Nat)(x:V):Prop:=pG x
def Bt(C:Addr):Sp:=λvs H _ E=>∃v d,vs=[v]/\Tree H v d/\Sh d/\u_ d=false/\∀H',ag H H'->E (.ref C) none H'
def pH(C:Addr):Sp:=λvs H _ E=>∃x,vs=[x]/\cA H x/\pG x/\E (.ref C) none H
def pJ(C:Addr)(nB:Nat->V->Prop):Sp:=λvs H _ E=>∃f a c b ps ws x,vs=[.ref f,x]/\aS H f a c b ps ws/\cA H x/\nB (b ^ ps.sum) x/\∀H',ag H H'->E (.ref C) none H'
def Bu(C:Addr)(nB:Nat->V->Prop):Sp:=λvs H _ E=>∃f a c b ps ws,∃(d:Nat) (x:V),vs=[.ref f,.int d,x]/\aS H f a c b ps ws/\cA H x/\nB (b ^ ps.sum) x/\∀H',ag H H'->E (.ref C) none H'
theorem Kd:∀vs H Q E,FD vs H Q E->uv vs H Q E:=λvs H Q E ⟨f,a,c,b,ps,ws,e,G,k⟩=>⟨_,_,e,G.tree,Qd G.ok,λH' s'=>by rw[Qe G.ok];exact k H' s'⟩
section
variable{P:Program}{w:World}{K:PySem.W.Frag}{mg:Str->Option Value}{base:Heap}{C CM CN:Addr}{dY gF B:String}{dZ:List Value}
theorem WB{f:Addr}{fd:FuncData}(F:aG K "need_frame" "need_frame" tR f fd)(D4:ak P w K mg base 4 "is_frame" ["thing"] uv)(O:lm base C dY gF B dZ)(hm:mg "NoFrame"=some (.ref C)):ax P w K mg base (bB P w) 5 f fd ["thing"] (Bt C):=by
 refine F.dM FY (λvs H Q E h=>?_) (λae A outer s H vs Q E hr h=>?_)
 ·obtain⟨v,d,rfl,_⟩:=h;rfl
 ·obtain⟨v,d,rfl,t,hs,hd,k⟩:=h
  refine⟨_,h_ (Z_ (d9 (dP (o_ D4 hr (by rfl) (a_ (pv 0) e_)))) (h_ (pF O (by rfl) hm D_)) w_),?_⟩
  exact⟨_,rfl,v,d,rfl,t,hs,λH1 s1=>by rw[hd];exact⟨_,rfl,cf (k H1 s1)⟩⟩
theorem WC{f:Addr}{fd:FuncData}(F:aG K "need_miss" "need_miss" tV f fd)(D1:ak P w K mg base 1 "is_whole" ["thing"] ma)(O:lm base CN dY gF B dZ)(hm:mg "NoMiss"=some (.ref CN)):ax P w K mg base (bB P w) 2 f fd ["thing"] (pH CN):=by
 refine F.dM IS (λvs H Q E h=>?_) (λae A outer s H vs Q E hr h=>?_)
 ·obtain⟨x,rfl,_⟩:=h;rfl
 ·obtain⟨x,rfl,tx,hx,k⟩:=h
  refine⟨_,h_ (Z_ (PW.pt (gL (d9 (dP (o_ D1 hr (by rfl) (a_ (pv 0) e_)))) (ig (v_ nW (pv 0) f_ (bO _))))) (h_ (pF O (by rfl) hm D_)) w_),?_⟩
  refine⟨_,rfl,x,rfl,tx,_,rfl,?_⟩
  rcases hx with hx | ⟨i,rfl,hi⟩
  ·rw[hx]
   exact cf k
  ·refine aX ⟨_,rfl,_,_,rfl,rfl,_,rfl,?_⟩
   have e:decide (i<0)=true:=decide_eq_true hi
   rw[e]
   exact cf k
theorem WD{f:Addr}{fd:FuncData}(F:aG K "need_place" "need_place" tZ f fd)(D1:ak P w K mg base 1 "is_whole" ["thing"] ma)(O:lm base CN dY gF B dZ)(hm:mg "NoNumber"=some (.ref CN)):ax P w K mg base (bB P w) 2 f fd ["thing"] (pH CN):=by
 refine F.dM Jd (λvs H Q E h=>?_) (λae A outer s H vs Q E hr h=>?_)
 ·obtain⟨x,rfl,_⟩:=h;rfl
 ·obtain⟨x,rfl,tx,hx,k⟩:=h
  refine⟨_,h_ (Z_ (PW.pt (gL (d9 (dP (o_ D1 hr (by rfl) (a_ (pv 0) e_)))) (ig (v_ nW (pv 0) f_ (bO _))))) (h_ (pF O (by rfl) hm D_)) w_),?_⟩
  refine⟨_,rfl,x,rfl,tx,_,rfl,?_⟩
  rcases hx with hx | ⟨i,rfl,hi⟩
  ·rw[hx]
   exact cf k
  ·refine aX ⟨_,rfl,_,_,rfl,rfl,_,rfl,?_⟩
   have e:decide (i<0)=true:=decide_eq_true hi
   rw[e]
   exact cf k
theorem WE{f:Addr}{fd:FuncData}(F:aG K "near_by" "near_by" uc f fd)(D5:ak P w K mg base 5 "need_frame" ["thing"] G_)(DM:ak P w K mg base 2 "need_miss" ["thing"] mX)(DL:fx P w K mg base 2 "need_place" ["thing"] (dc rC (pH CN))):ax P w K mg base (bB P w) 12 f fd ["frame","d","k"] (Bu CN bP):=by
 refine F.dM Jf (λvs H Q E h=>?_) (λae A outer s H vs Q E hr h=>?_)
 ·obtain⟨g,a,c,b,ps,ws,d,x,rfl,_⟩:=h;rfl
 ·obtain⟨g,a,c,b,ps,ws,d,x,rfl,G,tx,hx,k⟩:=h
  refine⟨_,c_ (C_ (o_ D5 hr.mo (by rfl) (a_ (pv 0) e_))) (c_ (C_ (o_ DM hr.mo (by rfl) (a_ (pv 1) e_))) (c_ (C_ (nA DL hr.mo (by rfl) (a_ (pv 2) e_))) O_)),?_⟩
  exact⟨_,rfl,g,a,c,b,ps,ws,rfl,G,λH1 s1=>⟨_,rfl,d,rfl,⟨_,rfl,.inr ⟨x,rfl,tx.keep s1,hx,k H1 s1⟩⟩⟩⟩
end
end Hv
namespace L2
open PySem PySem.Spec PyProof.Rows
section
variable{X:Cx}{k:Nat}{f:Addr}{fd:FuncData}{ps:List Str}{sp:Sp}{x n:Str}{p pn pos bH:Pos}{e:Expr}{es:List Expr}{t:TA}{i:Nat}
end
end L2
namespace Hv
open PySem L2 PySem.Spec PyProof.Rows
structure iL(P:Program)(w:World)(K:PySem.W.Frag)(mg:Str->Option Value)(base:Heap)(k:Nat)(C:Addr)(m:Str)(ps:List Str)(sp:Sp):Prop where
 ex:∃f fd,ax P w K mg base (bB P w) k f fd ps sp/\nY K C m f/\Binds K fd ps []
section
variable{X:Cx}{k:Nat}{C:Addr}{m n:Str}{ps:List Str}{sp:Sp}{e o:Expr}{es:List Expr}{t:TA}{ta:TE}{pn pos bH oo:Pos}{i:Nat}
end
end Hv
namespace Hv
open PySem L2
def Ke(c2 c1:Addr)(n:Nat)(pl wt:V)(H:Hp)(E:XK):Prop:=(cC pl 0 ((n:Int)-1)=false/\∀H',ag H H'->E (.ref c2) none H')\/(cC pl 0 ((n:Int)-1)=true/\cC wt (-9) 9=false/\∀H',ag H H'->E (.ref c1) none H')
def Bv(c2 c1:Addr):Sp:=λvs H _ E=>∃(f a c:Addr) (b:Nat) (ps:List Nat) (ws:List Int) (pl wt:V),vs=[.ref f,pl,wt]/\aS H f a c b ps ws/\cA H pl/\cA H wt/\Ke c2 c1 ws.length pl wt H E
def Bw(C c2 c1:Addr):Sp:=λvs H _ E=>∃(kp dx sl:Addr) (as:List AF) (b:Nat) (ps:List Nat) (ar:List (List Int)) (ws:List Int) (pl wt:V),vs=[.ref kp,pl,wt]/\bI C H kp dx sl as b ps (ar++[ws])/\cA H pl/\cA H wt/\Ke c2 c1 ws.length pl wt H E
def Bx(C c1:Addr):Sp:=λvs H _ E=>∃(kp dx sl:Addr) (as:List AF) (b:Nat) (ps:List Nat) (ws:List Int),vs=[.ref kp]/\bI C H kp dx sl as b ps [ws]/\∀H',ag H H'->E (.ref c1) none H'
section
variable{P:Program}{w:World}{K:PySem.W.Frag}{mg:Str->Option Value}{base:Heap}{C c1 c2:Addr}{dY gF B WF WG B2:String}{dZ WH:List Value}
theorem WI{f:Addr}{fd:FuncData}(F:aG K "with_weight" "with_weight" ud f fd)(T:Txt mg)(D2:ak P w K mg base 2 "is_between" ["thing","least","greatest"] me)(O2:lm base c2 dY gF B dZ)(h2:mg "NoPart"=some (.ref c2))(O1:lm base c1 WF WG B2 WH)(h1:mg "NoNumber"=some (.ref c1)):ax P w K mg base (bB P w) 3 f fd ["frame","place","weight"] (Bv c2 c1):=by
 refine F.dM A1 (λvs H Q E h=>?_) (λae A outer s H vs Q E hr h=>?_)
 ·obtain⟨f,a,c,b,ps,ws,pl,wt,rfl,_⟩:=h;rfl
 ·obtain⟨f,a,c,b,ps,ws,pl,wt,rfl,G,tp,tw,h⟩:=h
  refine⟨_,c_ (Z_ (d9 (dP (o_ D2 hr (by rfl) (a_ (pv 1) (a_ f_ (a_ (p_ fF (dC T.len (by rfl) (bX (pv 0) f_)) f_) e_)))))) (h_ (pF O2 (by rfl) h2 D_)) w_)
   (c_ (Z_ (d9 (dP (o_ D2 hr (by rfl) (a_ (pv 2) (a_ (fE fI f_) (a_ f_ e_)))))) (h_ (pF O1 (by rfl) h1 D_)) w_) O_),?_⟩
  refine⟨_,rfl,_,rfl,tN G.tp rfl ⟨c,_,rfl,.inl (af.of G.hw),_,_,rfl,rfl,pl,0,_,rfl,tp,_,rfl,?_⟩⟩
  rw[ZW]
  rcases h with⟨e,k⟩ | ⟨e,e2,k⟩
  ·rw[e]
   exact cf (k H (ag.refl _))
  ·rw[e]
   refine aX ⟨_,rfl,_,rfl,wt,-9,9,rfl,tw,_,rfl,?_⟩
   rw[e2]
   exact cf (k H (ag.refl _))
theorem WJ{f:Addr}{fd:FuncData}(F:aG K "weigh" "Keeper.weigh" ug f fd)(cl:ck K C)(nS:eT K C "standing")(DW:fx P w K mg base 3 "with_weight" ["frame","place","weight"] (dc rM (Bv c2 c1))):ax P w K mg base (bB P w) 8 f fd ["self","place","weight"] (Bw C c2 c1):=by
 refine F.dM vX (λvs H Q E h=>?_) (λae A outer s H vs Q E hr h=>?_)
 ·obtain⟨kp,dx,sl,as,b,ps,ar,ws,pl,wt,rfl,_⟩:=h;rfl
 ·obtain⟨kp,dx,sl,as,b,ps,ar,ws,pl,wt,rfl,S,tp,tw,h⟩:=h
  have nd:=vX.nd
  obtain⟨ai,x,rfl,pD,G,e⟩:=S.last
  refine⟨_,c_ (k_ (i:=3) nd rfl (Or.inl rfl) (cg (ik (pv 0) rfl) (fE fI f_))) (c_ (k_ (i:=4) nd rfl (Or.inl rfl) (nA DW hr.mo (by rfl) (a_ (pv 3) (a_ (pv 1) (a_ (pv 2) e_))))) O_),?_⟩
  exact⟨_,rfl,kp,C,dx,_,_,rfl,S.ob,cl,nS,iG,_,rfl,eY S.ls e ⟨_,rfl,_,rfl,_,rfl,.inr ⟨_,_,_,b,ps,ws,pl,wt,rfl,G,tp,tw,h⟩⟩⟩
theorem WK{f:Addr}{fd:FuncData}(F:aG K "undo" "Keeper.undo" uh f fd)(cl:ck K C)(DC:dN P w K mg base 1 C "changes" ["self"] (pC C))(O1:lm base c1 dY gF B dZ)(h1:mg "NoNumber"=some (.ref c1)):ax P w K mg base (bB P w) 8 f fd ["self"] (Bx C c1):=by
 refine F.dM A6 (λvs H Q E h=>?_) (λae A outer s H vs Q E hr h=>?_)
 ·obtain⟨kp,dx,sl,as,b,ps,ws,rfl,_⟩:=h;rfl
 ·obtain⟨kp,dx,sl,as,b,ps,ws,rfl,S,k⟩:=h
  refine⟨_,c_ (Z_ (v_ iS (lf cl DC hr.mo (pv 0)) f_ (bO _)) (h_ (pF O1 (by rfl) h1 D_)) w_) O_,?_⟩
  refine⟨_,rfl,kp,dx,_,rfl,S.ob,gD (by decide +kernel),kp,dx,sl,as,b,ps,_,rfl,S,rfl,_,rfl,?_⟩
  rw[decide_eq_true (show V.int (((([ws]:List (List Int)).length:Nat):Int)-1)=V.int 0 from rfl)]
  exact cf (k H (ag.refl _))
end
end Hv
namespace Hv
open PySem L2 PySem.Spec PyProof.Rows
structure wf(P:Program)(w:World)(K:PySem.W.Frag)(mg:Str->Option Value)(base:Heap)(k:Nat)(x:Str)(C:Addr)(ps:List Str)(sp:Sp):Prop where
 ex:∃f fd,ax P w K mg base (bB P w) k f fd ps sp/\Mk K C f/\mg x=some (.ref C)/\Binds K fd ps []
section
variable{X:Cx}{k:Nat}{C:Addr}{m n x:Str}{ps:List Str}{sp:Sp}{e o:Expr}{es:List Expr}{t:TA}{ta:TE}{p pn pos bH ln:Pos}{i:Nat}
def Kf(C:Addr)(m:Str)(sp:Sp)(ta:TE)(t:TA):TX:=λD R σ H=>ta σ H λx H1=>∃a dx fs,x=.ref a/\H1 a=some (.ins C dx fs)/\fs.lookup m=none/\t σ H1 λvs H2=>sp (x::vs) H2 (λ_ H3=>D.nx σ H3) (λC' _ H3=>∃A,C'=.ref A/\R σ A H3)
theorem By{pl:Sem Bool}(c:ck X.K C)(D:iL X.prog X.w X.K X.mg X.base k C m ps sp)(hr:aM k X.A)(ho:PE X.gk o ta)(ha:PA X.gk (e::es) t)
  (eh:starEach (e::es) X.env=(false,eval e X.env)::starEach es X.env:=by rfl) (hpl:(backTo pos (starEach es X.env)).any (·.1)=false:=by rfl)
  (ht:eval (.Call (.Attribute o m bH) (e::es) [] pos) X.env=(do
   let ov <-eval o X.env
   standAt bH.atName
   let (f,first) <-holding [ov] (getMethod ov m pl)
   callWith pos f first (backTo pos (starEach (e::es) X.env)) (backToKw pos (keywordEach [] X.env))):=by rfl)
  (hs:swapsWith (.Call (.Attribute o m bH) (e::es) [] pos) none ln.line X.env=pure false:=by rfl):PX X (.Expr (.Call (.Attribute o m bH) (e::es) [] pos) ln) (Kf C m sp ta t):=by
 obtain⟨f',fd,F,hm,hb⟩:=D.ex
 intro aa s σ H D R I h
 refine wpAny_Expr_any ?_ I.quiet hs
 have hO:wpAny (model X.prog X.w) X.A (eval o X.env) (EP X aa σ λx H1=>∃a dx fs,x=.ref a/\H1 a=some (.ins C dx fs)/\fs.lookup m=none/\t σ H1 λvs H2=>sp (x::vs) H2 (λ_ H3=>D.nx σ H3) (λC' _ H3=>∃A,C'=.ref A/\R σ A H3)) (XP X aa R) s :=
  wpAny_mono (ho aa s σ H _ (I.eR _) h) (λu s1 ⟨x,H1,I1,rx,q⟩=>⟨x,H1,I1.fW,rx,q⟩) λ_ _ z=>False.elim z
 refine a1w (pl:=pl) (au hO λu s1 ⟨x,H1,I1,rx,a,dx,fs,ex,ea,l,q⟩=>?_) ht
 subst ex
 obtain rfl:u=Value.ref a:=rx
 refine p9 I1 ea c hm l ?_
 have hA:wpAny (model X.prog X.w) X.A (spliced (backTo pos (starEach (e::es) X.env))) (AP X aa σ λvs H2=>sp (.ref a::vs) H2 (λ_ H3=>D.nx σ H3) (λC' _ H3=>∃A,C'=.ref A/\R σ A H3)) (XP X aa R) s1 :=
  wpAny_mono (ha pos aa s1 σ H1 _ (I1.eR _) q) (λus s2 ⟨vs,H2,I2,r,q2⟩=>⟨vs,H2,I2.fW,r,q2⟩) λ_ _ z=>False.elim z
 refine a1H (first:=[.ref a]) (h₀:=X.base) I.ok.mod.lC hm.kp (au hA λus s2 ⟨vs,H2,I2,r,q2⟩=>⟨I2.bW,?_⟩) eh hpl
 have r':aB (V.ref a::vs) (Value.ref a::us):=.cons rfl r
 have hl:((Value.ref a::us)++[]).length=ps.length:=by rw[a0F,<-r'.length];exact F.len _ _ _ _ q2
 have iU:=hb s2 (Value.ref a::us) I2.bW hl
 rw[a0F] at iU
 refine wpAny_call (codeAny_mono (F.run X.A X.stack s2 H2 ⟨Value.ref a::us,[]⟩ (Value.ref a::us) (V.ref a::vs) _ _ hr I2.qa iU r' q2) λrs s' hq=>?_)
 cases rs with
 | error er =>
  obtain⟨y,C',a0,H',ey,os,bare,un,am,iJ,A0,eA,hR⟩:=hq
  cases eA
  exact⟨y,C',a0,σ,H2,H',s2,ey,I2,os,bare,un,am,iJ,hR⟩
 | ok fl =>
  cases fl with
  | ret u =>
   obtain⟨v,H',I',rv,q'⟩:=I2.after hq
   exact⟨σ,H',I',q'⟩
  | next=>exact False.elim hq
  | brk=>exact False.elim hq
  | cont=>exact False.elim hq
theorem WL{pl:Sem Bool}(c:ck X.K C)(D:iL X.prog X.w X.K X.mg X.base k C m ps sp)(hr:aM k X.A)(ho:PE X.gk o ta)
  (ht:eval (.Call (.Attribute o m bH) [] [] pos) X.env=(do
   let ov <-eval o X.env
   standAt bH.atName
   let (f,first) <-holding [ov] (getMethod ov m pl)
   callWith pos f first (backTo pos (starEach [] X.env)) (backToKw pos (keywordEach [] X.env))):=by rfl)
  (hs:swapsWith (.Call (.Attribute o m bH) [] [] pos) none ln.line X.env=pure false:=by rfl):PX X (.Expr (.Call (.Attribute o m bH) [] [] pos) ln) (Kf C m sp ta lQ):=by
 obtain⟨f',fd,F,hm,hb⟩:=D.ex
 intro aa s σ H D R I h
 refine wpAny_Expr_any ?_ I.quiet hs
 have hO:wpAny (model X.prog X.w) X.A (eval o X.env) (EP X aa σ λx H1=>∃a dx fs,x=.ref a/\H1 a=some (.ins C dx fs)/\fs.lookup m=none/\lQ σ H1 λvs H2=>sp (x::vs) H2 (λ_ H3=>D.nx σ H3) (λC' _ H3=>∃A,C'=.ref A/\R σ A H3)) (XP X aa R) s :=
  wpAny_mono (ho aa s σ H _ (I.eR _) h) (λu s1 ⟨x,H1,I1,rx,q⟩=>⟨x,H1,I1.fW,rx,q⟩) λ_ _ z=>False.elim z
 refine a1w (pl:=pl) (au hO λu s1 ⟨x,H1,I1,rx,a,dx,fs,ex,ea,l,q⟩=>?_) ht
 subst ex
 obtain rfl:u=Value.ref a:=rx
 refine p9 I1 ea c hm l ?_
 have q2:sp [.ref a] H1 (λ_ H3=>D.nx σ H3) (λC' _ H3=>∃A,C'=.ref A/\R σ A H3):=q
 have r':aB [V.ref a] [Value.ref a]:=.cons rfl .nil
 have hl:([Value.ref a]++[]).length=ps.length:=by rw[a0F,<-r'.length];exact F.len _ _ _ _ q2
 have iU:=hb s1 [Value.ref a] I1.bW hl
 rw[a0F] at iU
 refine PySem.W.callWith_K0 (first:=[.ref a]) I1.bW hm.kp ?_
 refine wpAny_call (codeAny_mono (F.run X.A X.stack s1 H1 ⟨[Value.ref a],[]⟩ [Value.ref a] [V.ref a] _ _ hr I1.qa iU r' q2) λrs s' hq=>?_)
 cases rs with
 | error er =>
  obtain⟨y,C',a0,H',ey,os,bare,un,am,iJ,A0,eA,hR⟩:=hq
  cases eA
  exact⟨y,C',a0,σ,H1,H',s1,ey,I1,os,bare,un,am,iJ,hR⟩
 | ok fl =>
  cases fl with
  | ret u =>
   obtain⟨v,H',I',rv,q'⟩:=I1.after hq
   exact⟨σ,H',I',q'⟩
  | next=>exact False.elim hq
  | brk=>exact False.elim hq
  | cont=>exact False.elim hq
def WM(C:Addr)(sp:Sp)(t:TA):TX:=λD R σ H=>t σ H λvs H1=>∀x dx,H1 x=none->H1 dx=none->dx≠x->sp (.ref x::vs) (upd (upd H1 dx (.own x)) x (.ins C dx [])) (λv H2=>v=.aw/\D.nx σ H2) (λC' _ H2=>∃A,C'=.ref A/\R σ A H2)
theorem WN(D:wf X.prog X.w X.K X.mg X.base k x C ps sp)(hr:aM (k+1) X.A)(hg:Gl X x)(ha:PA X.gk (e::es) t)(dL:(x==("__debug__":Str))=false:=by decide)
  (he:starEach (e::es) X.env=(false,eval e X.env)::starEach es X.env:=by rfl) (hpl:(backTo pos (starEach es X.env)).any (·.1)=false:=by rfl)
  (hs:swapsWith (.Call (.Name x p) (e::es) [] pos) none ln.line X.env=pure false:=by rfl):PX X (.Expr (.Call (.Name x p) (e::es) [] pos) ln) (WM C sp t):=by
 obtain⟨f',fd,F,M,hm,hb⟩:=D.ex
 intro aa s σ H D R I h
 refine wpAny_Expr_any (wpAny_Call_Name_kw (nO I hg hm ?_ dL)) I.quiet hs
 have hA:wpAny (model X.prog X.w) X.A (spliced (backTo pos (starEach (e::es) X.env))) (AP X aa σ λvs H1=>∀x dx,H1 x=none->H1 dx=none->dx≠x->sp (.ref x::vs) (upd (upd H1 dx (.own x)) x (.ins C dx [])) (λv H2=>v=.aw/\D.nx σ H2) (λC' _ H2=>∃A,C'=.ref A/\R σ A H2)) (XP X aa R) s :=
  wpAny_mono (ha pos aa s σ H _ (I.eR _) h) (λus s1 ⟨vs,H1,I1,r,q⟩=>⟨vs,H1,I1.fW,r,q⟩) λ_ _ z=>False.elim z
 refine a1H (h₀:=X.base) I.ok.mod.lC M.kp (au hA λus s1 ⟨vs,H1,I1,r,q⟩=>⟨I1.bW,?_⟩) he hpl
 have hq:=q (s1.heap.objs.size+1) s1.heap.objs.size (I1.am.fresh (a1Y _)) (I1.am.fresh (Z0 _)) (a0c (a0I _))
 have I2:=Inv.made (C:=C) I1
 have r2:aB (V.ref (s1.heap.objs.size+1)::vs) (Value.ref (s1.heap.objs.size+1)::us):=.cons rfl r
 have hl:(Value.ref (s1.heap.objs.size+1)::us++[]).length=ps.length:=by
  have e:=r2.length
  rw[F.len _ _ _ _ hq] at e
  rw[a0F]
  exact e.symm
 have iU:=hb _ (Value.ref (s1.heap.objs.size+1)::us) I2.bW hl
 rw[a0F] at iU
 refine wpAny_call (El (f:=f') I1.bW M.makes M.init (beq_iff_eq.mp M.fn) (codeAny_mono (F.run _ X.stack _ _ ⟨Value.ref (s1.heap.objs.size+1)::us,[]⟩ (Value.ref (s1.heap.objs.size+1)::us) _ _ _ (hr.make C us [])
  (I2.qa.make C us []) iU r2 hq) λr s' il=>?_))
 cases r with
 | error e =>
  obtain⟨y,C',a0,H',ey,os,bare,un,am,iJ,A0,eA,hR⟩:=il
  cases eA
  exact⟨y,C',a0,σ,_,H',_,ey,I2,os,bare,un,am,iJ,hR⟩
 | ok fl =>
  cases fl with
  | ret u =>
   obtain⟨v,H',I3,rv,ev,q3⟩:=I2.after il
   subst ev
   exact⟨rv,σ,H',I3,q3⟩
  | next=>exact False.elim il
  | brk=>exact False.elim il
  | cont=>exact False.elim il
end
end Hv
namespace Hv
open PySem L2
def Bz(C0:Addr):Sp:=λvs H _ E=>∃(kp v:V) (d:PyData),vs=[kp,v]/\Tree H v d/\Sh d/\u_ d=false/\∀H',ag H H'->E (.ref C0) none H'
def pK(C CN:Addr):Sp:=λvs H _ E=>∃(kp dx sl:Addr) (as:List AF) (b:Nat) (ps:List Nat) (ar:List (List Int)) (ws:List Int) (x:V),vs=[.ref kp,x]/\bI C H kp dx sl as b ps (ar++[ws])/\cA H x/\pG x/\∀H',ag H H'->E (.ref CN) none H'
section
variable{P:Program}{w:World}{K:PySem.W.Frag}{mg:Str->Option Value}{base:Heap}{C c0 CM CN:Addr}
theorem WO{f:Addr}{fd:FuncData}(F:aG K "count_near" "count_near" tW f fd)(D5:ak P w K mg base 5 "need_frame" ["thing"] G_)(DM:fx P w K mg base 2 "need_miss" ["thing"] (dc mX (pH CM))):ax P w K mg base (bB P w) 6 f fd ["frame","d"] (pJ CM bP):=by
 refine F.dM Jk (λvs H Q E h=>?_) (λae A outer s H vs Q E hr h=>?_)
 ·obtain⟨g,a,c,b,ps,ws,x,rfl,_⟩:=h;rfl
 ·obtain⟨g,a,c,b,ps,ws,x,rfl,G,tx,hx,k⟩:=h
  refine⟨_,c_ (C_ (o_ D5 hr (by rfl) (a_ (pv 0) e_))) (c_ (C_ (nA DM hr.mo (by rfl) (a_ (pv 1) e_))) O_),?_⟩
  exact⟨_,rfl,g,a,c,b,ps,ws,rfl,G,λH1 s1=>⟨_,rfl,.inr ⟨x,rfl,tx.keep s1,hx,k H1 s1⟩⟩⟩
theorem WP{f:Addr}{fd:FuncData}(F:aG K "even_by" "even_by" ub f fd)(DB:fx P w K mg base 12 "near_by" ["frame","d","k"] (dc pi (Bu CN bP))):ax P w K mg base (bB P w) 13 f fd ["frame","k"] (pJ CN bP):=by
 refine F.dM Jg (λvs H Q E h=>?_) (λae A outer s H vs Q E hr h=>?_)
 ·obtain⟨g,a,c,b,ps,ws,x,rfl,_⟩:=h;rfl
 ·obtain⟨g,a,c,b,ps,ws,x,rfl,G,tx,hx,k⟩:=h
  refine⟨_,h_ (n_ (nA DB hr (by rfl) (a_ (pv 0) (a_ f_ (a_ (pv 1) e_))))),?_⟩
  exact⟨_,rfl,_,rfl,.inr ⟨g,a,c,b,ps,ws,0,x,rfl,G,tx,hx,k⟩⟩
theorem WQ{f:Addr}{fd:FuncData}(F:aG K "__init__" "Keeper.__init__" uf f fd)(D5:fx P w K mg base 5 "need_frame" ["thing"] (dc G_ (Bt c0))):ax P w K mg base (bB P w) 6 f fd ["self","frame"] (Bz c0):=by
 refine F.dM A3 (λvs H Q E h=>?_) (λae A outer s H vs Q E hr h=>?_)
 ·obtain⟨kp,v,d,rfl,_⟩:=h;rfl
 ·obtain⟨kp,v,d,rfl,t,hs,hd,k⟩:=h
  refine⟨_,c_ (C_ (nA D5 hr (by rfl) (a_ (pv 1) e_))) O_,?_⟩
  exact⟨_,rfl,.inr ⟨v,d,rfl,t,hs,hd,k⟩⟩
theorem WR{f:Addr}{fd:FuncData}(F:aG K "near" "Keeper.near" ui f fd)(cl:ck K C)(nS:eT K C "standing")(D:fx P w K mg base 6 "count_near" ["frame","d"] (dc rD (pJ CM bP))):ax P w K mg base (bB P w) 7 f fd ["self","d"] (pK C CM):=by
 refine F.dM A4 (λvs H Q E h=>?_) (λae A outer s H vs Q E hr h=>?_)
 ·obtain⟨kp,dx,sl,as,b,ps,ar,ws,x,rfl,_⟩:=h;rfl
 ·obtain⟨kp,dx,sl,as,b,ps,ar,ws,x,rfl,S,tx,hx,k⟩:=h
  refine⟨_,(h_ (n_ (nA D hr (by rfl) (a_ (cg (ik (pv 0) rfl) (fE fI f_)) (a_ (pv 1) e_))))),?_⟩
  obtain⟨ai,y,rfl,pD,G,e⟩:=S.last
  exact⟨_,rfl,kp,C,dx,_,_,rfl,S.ob,cl,nS,iG,_,rfl,eY S.ls e ⟨_,rfl,.inr ⟨_,_,_,b,ps,ws,x,rfl,G,tx,hx,k⟩⟩⟩
theorem WS{f:Addr}{fd:FuncData}(F:aG K "even" "Keeper.even" uj f fd)(cl:ck K C)(nS:eT K C "standing")(D:fx P w K mg base 13 "even_by" ["frame","k"] (dc rE (pJ CN bP))):ax P w K mg base (bB P w) 14 f fd ["self","k"] (pK C CN):=by
 refine F.dM A5 (λvs H Q E h=>?_) (λae A outer s H vs Q E hr h=>?_)
 ·obtain⟨kp,dx,sl,as,b,ps,ar,ws,x,rfl,_⟩:=h;rfl
 ·obtain⟨kp,dx,sl,as,b,ps,ar,ws,x,rfl,S,tx,hx,k⟩:=h
  refine⟨_,(h_ (n_ (nA D hr (by rfl) (a_ (cg (ik (pv 0) rfl) (fE fI f_)) (a_ (pv 1) e_))))),?_⟩
  obtain⟨ai,y,rfl,pD,G,e⟩:=S.last
  exact⟨_,rfl,kp,C,dx,_,_,rfl,S.ob,cl,nS,iG,_,rfl,eY S.ls e ⟨_,rfl,.inr ⟨_,_,_,b,ps,ws,x,rfl,G,tx,hx,k⟩⟩⟩
end
abbrev BB:List Str:=["keeper","door","one","other","caught","e"]
abbrev XW(P:Program)(w:World)(K:PySem.W.Frag)(mg:Str->Option Value)(base:Heap)(f:Addr)(ae:Value)(A:Around)(outer:List Env)(s:Shared)(H:Hp)(E:XK):Cx:=Cx.gk (bQ aK P w K mg base BB "_law_word" (g_ ou) f ae A outer s H E)
abbrev Kg(i:Nat):Stmt:=(z_ ou).getD i (.Pass ⟨0,0,0,0⟩)
theorem Kh:aQ BB ["keeper","door","one","other"] (g_ ou):=⟨rfl,rfl,rfl,by decide +kernel,rfl,by decide +kernel,by decide +kernel⟩
def gG:List Str:=["part","number","miss"]
theorem WT:(gG.all λx=>PyData.canLay0 (.str x))=true:=by decide +kernel
def kw:List (Nat×Str):=[(2,"part"),(1,"number"),(4,"miss")]
theorem WU:(kw.all λp=>decide ((gG.filter λx=>decide (p.2=x))=[p.2]))=true:=by decide +kernel
theorem WV:(kw.all λp=>decide (gf[p.1]?=some p.2))=true:=by decide +kernel
theorem Ki{p:Str->Bool}{l:List Str}{m:Nat}{x:Str}(h:l[m]?=some x):(l.take (m+1)).filter p=(l.take m).filter p++(if p x=true then [x] else []):=by
 rw[Z8,h,a2B]
 simp only[Option.toList,List.filter_cons,List.filter_nil]
def BC(K:PySem.W.Frag)(c:Nat->Addr):TS:=λD σ H=>(σ[4]?=some (some .aw)/\D.rt (.str "") H)\/∃x C,∃i:Nat,∃wd:Str,σ[4]?=some (some (.ref x))/\H x=some (jp x C)/\Kind K c C i/\(i,wd)∈kw/\∀H',ag H H'->D.rt (.str wd) H'
section
variable{P:Program}{w:World}{K:PySem.W.Frag}{mg:Str->Option Value}{base:Heap}{c:Nat->Addr}
theorem WW{f:Addr}{ae:Value}{A:Around}{outer:List Env}{s:Shared}{H:Hp}{E:XK}(DK:ak P w K mg base 1 "_law_kind" ["e","due"] (rV K c))(hr:aM 1 (XW P w K mg base f ae A outer s H E).A):cN (XW P w K mg base f ae A outer s H E) [Kg 2,Kg 3] (BC K c):=by
 refine AS (c_ (Z_ (v_ MO (pv 4) ic (bO _)) (h_ (n_ D_)) w_)
  (h_ (n_ (cg (p_ io (iW (g_ ou) BB ["caught"] [4] rfl (S_ (A_ (a_ D_ (a_ D_ (a_ D_ e_))))) (λcl C s H fp=>xV (dP (o_ DK hr (by rfl) (a_ (pv 1) (a_ (pv 0) e_))))) (λcl C s H fp=>pv 0) (by decide +kernel)) (A_ (a_ D_ e_))) f_)))) λD σ H h=>?_
 rcases h with⟨e4,k⟩ | ⟨x,C,i,wd,e4,hx,kd,hi,k⟩
 ·exact⟨_,e4,rfl,_,rfl,cf k⟩
 ·refine⟨_,e4,rfl,_,rfl,aX ?_⟩
  refine⟨sz (by simp),λl hl=>?_⟩
  have s1:=b_ (o:=.lst (gG.map V.str)) hl
  have u1:(upd H l (.lst (gG.map V.str))) l=_:=d_
  have eH:upd H l (.lst [.str "part",.str "number",.str "miss"])=upd H l (.lst (gG.map V.str)):=rfl
  rw[eH]
  generalize upd H l (.lst (gG.map V.str))=H1 at s1 u1⊢
  have WX:gf[i]?=some wd:=of_decide_eq_true (a1h.mp WV (i,wd) hi)
  have WY:(gG.filter λx=>decide (wd=x))=[wd]:=of_decide_eq_true (a1h.mp WU (i,wd) hi)
  refine⟨l,rfl,⟨_,af.of u1⟩,iX (K:=K) (a:=l) (xs:=gG.map V.str) (λm ys H'=>ys=((gG.take m).filter λx=>decide (wd=x)).map V.str/\ag H1 H') ⟨rfl,ag.refl _⟩ (λm ys H' _ p=>af.of (p.2 _ _ u1)) ?_ ?_⟩
  ·rintro m y ys H' hy ⟨rfl,s'⟩
   obtain⟨wv,BD,rfl⟩:∃wv,gG[m]?=some wv/\y=V.str wv:=by
    rw[Z2] at hy
    cases h:gG[m]? with
    | none=>rw[h] at hy;cases hy
    | some wv=>rw[h] at hy;exact⟨wv,rfl,(Z6 hy).symm⟩
   have f1:((U_ 1 [4] σ).set 0 (some (V.str wv)))[1]?=some (some (.ref x)):=by simp[U_,e4]
   have f0:((U_ 1 [4] σ).set 0 (some (V.str wv)))[0]?=some (some (V.str wv)):=by simp[U_]
   have eL:=s' _ _ (s1 _ _ hx)
   have EI:PyData.canLay0 (.str wv)=true:=a1h.mp WT wv (Z1 BD)
   refine⟨cq (by
    rw[ZW]
    exact Z9 (List.length_filter_le _ _) (Z9 (List.length_take_le' _ _) (by decide))),?_⟩
   refine⟨_,f1,_,f0,x,C,i,wd,wv,rfl,EI,eL,kd,WX,λH2 s2=>?_⟩
   by_cases hw:wd=wv
   ·rw[decide_eq_true hw]
    refine⟨true,rfl,_,f0,?_,s'.trans s2⟩
    rw[Ki BD,if_pos (decide_eq_true hw),a0p]
    rfl
   ·rw[decide_eq_false hw]
    refine⟨false,rfl,?_,s'.trans s2⟩
    rw[Ki BD,if_neg (by simp[hw]),a0F]
  ·rintro ys H' ⟨rfl,s'⟩ t ht
   have ey:((gG.take (gG.map V.str).length).filter λx=>decide (wd=x)).map V.str=[V.str wd]:=by
    rw[ZW,a0e,WY]
    rfl
   rw[ey]
   have s2:=(s1.trans s').trans (b_ (o:=.lst [.str wd]) ht)
   have u2:(upd H' t (.lst [.str wd])) t=_:=d_
   generalize upd H' t (.lst [.str wd])=H2 at s2 u2⊢
   refine⟨sz (by simp),λp hp=>⟨t,p,_,_,rfl,rfl,(b_ (o:=.lst [.str "other"]) hp) _ _ u2,d_,sz (by simp),λr dj=>?_⟩⟩
   exact⟨_,_,_,_,rfl,rfl,af.of d_,rfl,k _ ((s2.trans (b_ hp)).trans (b_ dj))⟩
end
def MW(c:Nat->Addr)(Q:VK)(sp:Sp)(vs:List V)(H:Hp):Prop:=∀(Q':VK) (E':XK),(∀v H',Q (.str "") H'->Q' v H')->(∀(j:Nat) (wd:Str) (H':Hp),(j,wd)∈kw->(∀H2,ag H' H2->Q (.str wd) H2)->E' (.ref (c j)) none H')->sp vs H Q' E'
abbrev Kj(C:Addr)(c:Nat->Addr):Sp:=dc (rN C) (Bw C (c 2) (c 1))
abbrev Kk(C:Addr)(c:Nat->Addr):Sp:=dc (rO C) (Bx C (c 1))
abbrev Kl(C:Addr)(c:Nat->Addr):Sp:=dc (rP C) (pK C (c 4))
abbrev Km(C:Addr)(c:Nat->Addr):Sp:=dc (rQ C) (pK C (c 1))
def lr(C:Addr)(c:Nat->Addr):Sp:=λvs H Q _=>∃(kp dx sl:Addr) (fy:Nat) (one bL:V),vs=[.ref kp,.int fy,one,bL]/\H kp=some (.ins C dx (nu sl))/\
 ((fy=0/\MW c Q (Kj C c) [.ref kp,one,bL] H)\/(fy=1/\MW c Q (Kk C c) [.ref kp] H)\/(fy=2/\MW c Q (Kl C c) [.ref kp,one] H)\/(fy=3/\MW c Q (Km C c) [.ref kp,one] H))
section
variable{P:Program}{w:World}{K:PySem.W.Frag}{mg:Str->Option Value}{base:Heap}{C:Addr}{c:Nat->Addr}
theorem WZ{f:Addr}{fd:FuncData}{B:Addr}(F:aG K "_law_word" "_law_word" ou f fd)(hB:mg "HalfError"=some (.ref B))(U1:Up K (c 1) B)(U2:Up K (c 2) B)(U4:Up K (c 4) B)(k1:Kind K c (c 1) 1)(k2:Kind K c (c 2) 2)(k4:Kind K c (c 4) 4)(DK:ak P w K mg base 1 "_law_kind" ["e","due"] (rV K c))(cl:ck K C)
  (W0:iL P w K mg base 8 C "weigh" ["self","place","weight"] (Kj C c)) (W1:iL P w K mg base 8 C "undo" ["self"] (Kk C c)) (W2:iL P w K mg base 7 C "near" ["self","d"] (Kl C c)) (W3:iL P w K mg base 14 C "even" ["self","k"] (Km C c)):ax P w K mg base aK 15 f fd ["keeper","door","one","other"] (lr C c):=by
 refine F.ok Kh (λvs H Q E h=>?_) (λae A outer s H vs Q E hr h=>?_)
 ·obtain⟨kp,dx,sl,fy,one,bL,rfl,_⟩:=h;rfl
 ·obtain⟨kp,dx,sl,fy,one,bL,rfl,hk,h⟩:=h
  have nd:=Kh.nd
  have jh:aM 1 (XW P w K mg base f ae A outer s H E).A:=hr.mono (by decide)
  refine⟨_,c_ (k_ (i:=4) nd rfl (Or.inr rfl) ic)
   (c_ (JX (ie:=5) (lq (Bg (v_ iS (pv 1) f_ (bO _)) (lq (By cl W0 hr.mo (pv 0) (a_ (pv 2) (a_ (pv 3) e_))))
      (lq (Bg (v_ iS (pv 1) f_ (bO _)) (lq (WL cl W1 hr.mo (pv 0)))
      (lq (Bg (v_ iS (pv 1) f_ (bO _)) (lq (By cl W2 hr.mo (pv 0) (a_ (pv 2) e_)))
      (lq (By cl W3 hr (pv 0) (a_ (pv 2) e_))))))))) rfl rfl rfl nd rfl (Or.inl rfl) rfl rfl (Or.inl rfl) (by rfl) hB
     (λv=>h_ (k_ (i:=4) nd rfl (Or.inr rfl) (pv 5))))
   (WW DK jh)),?_⟩
  have U:∀(j:Nat) (wd:Str),(j,wd)∈kw->Up K (c j) B/\Kind K c (c j) j:=λj wd h=>by
   rcases ZZ.mp h with e | h
   ·cases e;exact⟨U2,k2⟩
   rcases ZZ.mp h with e | h
   ·cases e;exact⟨U1,k1⟩
   ·cases (a0h.mp h);exact⟨U4,k4⟩
  have hN:∀(v:V) (H':Hp),Q (.str "") H'->BC K c {nx:=λx H'=>Q V.aw H',rt:=Q} [some (.ref kp),some (.int (fy:Int)),some one,some bL,some .aw,none] H':=λv H' q=>.inl ⟨rfl,q⟩
  have hE:∀(j:Nat) (wd:Str) (H':Hp),(j,wd)∈kw->(∀H2,ag H' H2->Q (.str wd) H2)->∃A,Value.ref (c j)=Value.ref A/\Up K A B/\∀x,H' x=none->∃u,(([some (.ref kp),some (.int (fy:Int)),some one,some bL,some .aw,none]:St).set 5 (some (.ref x)))[5]?=some (some u)/\BC K c {nx:=λx H'=>Q V.aw H',rt:=Q} (((([some (.ref kp),some (.int (fy:Int)),some one,some bL,some .aw,none]:St).set 5 (some (.ref x))).set 4 (some u)).set 5 none) (upd H' x (jp x A)) :=
   λj wd H' hj k=>⟨_,rfl,(U j wd hj).1,λx hx=>⟨_,rfl,.inr ⟨x,c j,j,wd,rfl,d_,(U j wd hj).2,hj,λH2 s2=>k H2 ((b_ hx).trans s2)⟩⟩⟩
  have st:∀ {m:Str},¬ m="standing"->(nu sl).lookup m=none:=λh=>gD h
  rcases h with⟨rfl,h⟩ | ⟨rfl,h⟩ | ⟨rfl,h⟩ | ⟨rfl,h⟩
  ·exact⟨_,rfl,rfl,_,rfl,cf ⟨_,rfl,kp,dx,_,rfl,hk,st (by decide +kernel),_,rfl,_,rfl,h _ _ hN hE⟩⟩
  ·exact⟨_,rfl,rfl,_,rfl,aX ⟨_,rfl,rfl,_,rfl,cf ⟨_,rfl,kp,dx,_,rfl,hk,st (by decide +kernel),h _ _ hN hE⟩⟩⟩
  ·exact⟨_,rfl,rfl,_,rfl,aX ⟨_,rfl,rfl,_,rfl,aX ⟨_,rfl,rfl,_,rfl,cf ⟨_,rfl,kp,dx,_,rfl,hk,st (by decide +kernel),_,rfl,h _ _ hN hE⟩⟩⟩⟩
  ·exact⟨_,rfl,rfl,_,rfl,aX ⟨_,rfl,rfl,_,rfl,aX ⟨_,rfl,rfl,_,rfl,aX ⟨_,rfl,kp,dx,_,rfl,hk,st (by decide +kernel),_,rfl,h _ _ hN hE⟩⟩⟩⟩
def BE:Sp:=λvs H Q _=>∃(v:V) (d:PyData),vs=[v]/\Tree H v d/\Sh d/\u_ d=false/\∀H',ag H H'->Q (.bl true) H'
theorem W4:PyData.canLay0 (.str "frame")=true:=by decide +kernel
theorem Kn:aQ ["bad","caught","e"] ["bad"] (g_ yI):=⟨rfl,rfl,rfl,by decide +kernel,rfl,by decide +kernel,by decide +kernel⟩
theorem W5{f:Addr}{fd:FuncData}{B:Addr}(F:aG K "_law_no_keeper" "_law_no_keeper" yI f fd)(hB:mg "HalfError"=some (.ref B))(U0:Up K (c 0) B)(k0:Kind K c (c 0) 0)(DK:ak P w K mg base 1 "_law_kind" ["e","due"] (rV K c))(CK:wf P w K mg base 6 "Keeper" C ["self","frame"] (Bz (c 0))):ax P w K mg base aK 8 f fd ["bad"] BE:=by
 refine F.ok Kn (λvs H Q E h=>?_) (λae A outer s H vs Q E hr h=>?_)
 ·obtain⟨v,d,rfl,_⟩:=h;rfl
 ·obtain⟨v,d,rfl,t,hs,hf,k⟩:=h
  have nd:=Kn.nd
  refine⟨_,c_ (k_ (i:=1) nd rfl (Or.inl rfl) ic)
   (c_ (JX (ie:=2) (lq (WN CK hr (by rfl) (a_ (pv 0) e_))) rfl rfl rfl nd rfl (Or.inl rfl) rfl rfl (Or.inl rfl) (by rfl) hB
     (λv=>h_ (k_ (i:=1) nd rfl (Or.inl rfl) (pv 2))))
   (h_ (n_ (nR (sI MP (pv 1) ic (bO _)) (nQ (o_ DK hr.mo (by rfl) (a_ (pv 1) (a_ D_ e_)))))))),?_⟩
  refine⟨_,rfl,λx dx nx BF aZ=>?_⟩
  have s1:ag H (upd (upd H dx (.own x)) x (.ins C dx [])):=λy o e=>by
   rw[i_ (λz=>by rw[z,nx] at e;cases e),i_ (λz=>by rw[z,BF] at e;cases e)];exact e
  refine⟨_,v,d,rfl,t.keep s1,hs,hf,λH2 s2=>⟨_,rfl,U0,λy hy=>⟨_,rfl,?_⟩⟩⟩
  have s3:=(s1.trans s2).trans (b_ (o:=jp y (c 0)) hy)
  refine⟨_,rfl,rfl,_,rfl,cf ⟨_,rfl,y,c 0,0,"frame","frame",rfl,W4,d_,k0,rfl,λH4 s4=>?_⟩⟩
  exact k H4 (s3.trans s4)
end
def cS(D:List Addr):PP D:=⟨λH v=>Th (Off D H) 1 100 v/\pG v,λ_ _ _ k h=>⟨h.1.keep (jF k),h.2⟩⟩
section
variable{X:Cx}{d:Addr}{ps:List (Option (PP [d]))}{e a b c:Expr}{es:List Expr}{pos:Pos}
theorem Ko{t:Bool}{j:_}:ET X d ps (.Constant (.bool t) j pos) (cS _):=iD fV λ_=>⟨Th.bl t,.inl rfl⟩
theorem W6{j:_}:ET X d ps (.Constant .none j pos) (cS _):=iD ic λ_=>⟨Th.aw,.inl rfl⟩
theorem Kq{x:Str}{j:_}(h:GD 1 100 (.str x)):ET X d ps (.Constant (.str x) j pos) (cS _):=iD D_ λ_=>⟨⟨_,.str x,h⟩,.inl rfl⟩
theorem W7:ET X d ps (.Dict [] [] pos) (cS _):=bS mj fun σ H Q c k q=>λz aR=>q _ _ (k.keep (b_ aR)) (Kp.of (b_ aR)) ⟨Th.emp (V_ d_ (k.cc aR)),.inl rfl⟩
theorem W8{l1 h1:Nat}(hw:h1<=1:=by decide):Le (D:=[d]) (aN l1 h1 (aY _ 0 90)) (cS _):=λH v ⟨a,xs,e,h,na,_,l2,it⟩=>by
 subst e
 exact⟨(Th.lst (V_ h na) it l2).mono (by decide) (by lia),.inl rfl⟩
theorem W9{n:Nat}{x1}(h:PA X es (kY d ps n (aY _ 0 90)))(hm:n<=1:=by decide):ET X d ps (.Tuple es x1 pos) (cS _):=bS (dJ h) fun σ H Q c k q=>by
 refine⟨c,k,λvs H1 D1 k1 hl p1=>⟨sz (by lia),λz aR=>q _ _ (D1.keep (b_ aR)) (k1.same (b_ aR)) ⟨?_,.inl rfl⟩⟩⟩
 exact(Th.tup (L:=n) (V_ d_ (D1.cc aR)) (λu hu=>Th.keep (p1 u hu) (jF (Kp.of (b_ aR)))) (by lia)).mono (by decide) (by lia)
theorem BG{lo hi:Int}(h1 : -10000000000000000000000000<=lo:=by decide)(h2:hi<0:=by decide):Le (D:=[d]) (ao _ lo hi) (cS _):=λH v ⟨i,e,a,b⟩=>by
 subst e
 have k8 : (10 : Nat) ^ 25 = 10000000000000000000000000 := by decide
 exact⟨Th.int (by lia),.inr ⟨i,rfl,by lia⟩⟩
theorem rW{pp:(d:Addr)->List (Option (PP [d]))}{R:(d:Addr)->PP [d]}(h:∀d,ET X d (pp d) e (R d)):PE X e (fun σ H Q=>∃d,tT d (pp d) (R d) σ H Q):=λaa s σ H Q I ⟨d,q⟩=>h d aa s σ H Q I q
end
theorem W'{n1 w1 n2 w2 n w:Nat}{a b:PyData}(g1:GD n1 w1 a)(g2:GD n2 w2 b)(h1:n1<=n)(h2:n2<=n)(hw:w1+w2+2<=w):GD (n+1) w (.list [a,b]):=by
 refine⟨?_,?_,?_,?_⟩
 ·simp only[PyData.showable,PyData.showableAll,g1.sh,g2.sh,a0X]
 ·simp only[PyData.leavesShort,PyData.leavesShortAll,g1.lv,g2.lv,a0X]
 ·simp only[PyData.depth,PyData.depthAll];have:=g1.dp;have:=g2.dp;lia
 ·simp only[PyData.weight,PyData.weightAll];have:=g1.wt;have:=g2.wt;lia
theorem wj:bootBuiltins "repr"=some (.builtin "repr"):=PyProof.Rows.boot_repr
def Kr:Stmt->List Stmt
 | .For _ _ b _ _=>b
 | _=>[]
structure gH(H:Hp)(l f a c:Addr)(b:Nat)(ps:List Nat)(ws:List Int)(n:Nat)(v:V):Prop where
 ls:H l=some (.lst [.ref f,.int n,.int (Mx.bF b 0 ps ws (b ^ ps.sum)),.int (Mx.bF b 3 ps ws (b ^ ps.sum)),v])
 fr:aS H f a c b ps ws
 pL:gA b 0 ps ws 1 v
def BH(C:Addr):Sp:=λvs H Q _=>∃(kp dx sl:Addr) (as:List AF) (b:Nat) (ps:List Nat) (ar:List (List Int)) (ws:List Int),vs=[.ref kp]/\bI C H kp dx sl as b ps (ar++[ws])/\∀(l f a c:Addr) (v:V) (H':Hp),ag H H'->H a=none->H c=none->gH H' l f a c b ps ws ar.length v->Q (.ref l) H'
def BI(C:Addr):Sp:=λvs H Q _=>∃(st kp dx sl f a c:Addr) (as:List AF) (b:Nat) (ps:List Nat) (ar:List (List Int)) (ws w0:List Int),vs=[.ref st,.ref kp,.ref f]/\bE H st/\bI C H kp dx sl as b ps (ar++[ws])/\AY kp sl as st/\aS H f a c b ps w0/\∀H',bE H' st->Kp [st] H H'->Q (.bl true) H'
def rX(C:Addr)(c:Nat->Addr)(kp:Addr)(H:Hp)(fy:Nat)(one bL:V)(nC:Str):Prop:=∀(H1:Hp),ag H H1->∀(Q:VK) (E:XK),(∀H2,ag H1 H2->Q (.str nC) H2)->lr C c [.ref kp,.int (fy:Int),one,bL] H1 Q E
section
variable{C kp dx sl:Addr}{c:Nat->Addr}{H:Hp}{as:List AF}{b:Nat}{ps:List Nat}{ar:List (List Int)}{ws:List Int}{one bL:V}
theorem Ks(S:bI C H kp dx sl as b ps (ar++[ws]))(t1:cA H one)(t2:cA H bL)(h:cC one 0 ((ws.length:Int)-1)=false):rX C c kp H 0 one bL "part":=λH1 s1 Q E k =>
 ⟨kp,dx,sl,0,one,bL,rfl,s1 _ _ S.ob,.inl ⟨rfl,λQ' E' hq he=>.inr ⟨kp,dx,sl,as,b,ps,ar,ws,one,bL,rfl,S.keep s1,t1.keep s1,t2.keep s1,.inl ⟨h,λH2 s2=>he 2 "part" H2 a0t λH3 s3=>k H3 (s2.trans s3)⟩⟩⟩⟩
theorem Xa(S:bI C H kp dx sl as b ps (ar++[ws]))(t1:cA H one)(t2:cA H bL)(h:cC one 0 ((ws.length:Int)-1)=true)(h2:cC bL (-9) 9=false):rX C c kp H 0 one bL "number":=λH1 s1 Q E k =>
 ⟨kp,dx,sl,0,one,bL,rfl,s1 _ _ S.ob,.inl ⟨rfl,λQ' E' hq he=>.inr ⟨kp,dx,sl,as,b,ps,ar,ws,one,bL,rfl,S.keep s1,t1.keep s1,t2.keep s1,.inr ⟨h,h2,λH2 s2=>he 1 "number" H2 (Z5 _ a0t) λH3 s3=>k H3 (s2.trans s3)⟩⟩⟩⟩
theorem Xb(S:bI C H kp dx sl as b ps (ar++[ws]))(t1:cA H one)(h:pG one):rX C c kp H 2 one bL "miss":=λH1 s1 Q E k =>
 ⟨kp,dx,sl,2,one,bL,rfl,s1 _ _ S.ob,.inr (.inr (.inl ⟨rfl,λQ' E' hq he=>.inr ⟨kp,dx,sl,as,b,ps,ar,ws,one,rfl,S.keep s1,t1.keep s1,h,λH2 s2=>he 4 "miss" H2 (Z5 _ (Z5 _ a0t)) λH3 s3=>k H3 (s2.trans s3)⟩⟩))⟩
theorem Xc(S:bI C H kp dx sl as b ps (ar++[ws]))(t1:cA H one)(h:pG one):rX C c kp H 3 one bL "number":=λH1 s1 Q E k =>
 ⟨kp,dx,sl,3,one,bL,rfl,s1 _ _ S.ob,.inr (.inr (.inr ⟨rfl,λQ' E' hq he=>.inr ⟨kp,dx,sl,as,b,ps,ar,ws,one,rfl,S.keep s1,t1.keep s1,h,λH2 s2=>he 1 "number" H2 (Z5 _ a0t) λH3 s3=>k H3 (s2.trans s3)⟩⟩))⟩
end
@[irreducible] def kA:Expr:=(.List [(.Constant (.bool true) 0 ⟨340,15,340,19⟩),(.Constant (.bool false) 0 ⟨340,21,340,26⟩),(.Constant .none 0 ⟨340,28,340,32⟩),(.Constant (.str "1") 0 ⟨340,34,340,37⟩),(.List [(.Constant (.int 1) 0 ⟨340,40,340,41⟩)] ⟨340,39,340,42⟩),(.Tuple [(.Constant (.int 1) 0 ⟨340,45,340,46⟩)] 0 ⟨340,44,340,48⟩),(.Dict [] [] ⟨340,50,340,52⟩),(.Constant (.str "") 0 ⟨340,54,340,56⟩),(.BinOp (.Constant (.int 10) 0 ⟨340,58,340,60⟩) .Pow (.Constant (.int 25) 0 ⟨340,64,340,66⟩) ⟨340,58,340,66⟩),(.BinOp (.Constant (.int 0) 0 ⟨340,68,340,69⟩) .Sub (.BinOp (.Constant (.int 10) 0 ⟨340,72,340,74⟩) .Pow (.Constant (.int 25) 0 ⟨340,78,340,80⟩) ⟨340,72,340,80⟩) ⟨340,68,340,80⟩)] ⟨340,14,340,81⟩)
theorem Kt:kA=(.List [(.Constant (.bool true) 0 ⟨340,15,340,19⟩),(.Constant (.bool false) 0 ⟨340,21,340,26⟩),(.Constant .none 0 ⟨340,28,340,32⟩),(.Constant (.str "1") 0 ⟨340,34,340,37⟩),(.List [(.Constant (.int 1) 0 ⟨340,40,340,41⟩)] ⟨340,39,340,42⟩),(.Tuple [(.Constant (.int 1) 0 ⟨340,45,340,46⟩)] 0 ⟨340,44,340,48⟩),(.Dict [] [] ⟨340,50,340,52⟩),(.Constant (.str "") 0 ⟨340,54,340,56⟩),(.BinOp (.Constant (.int 10) 0 ⟨340,58,340,60⟩) .Pow (.Constant (.int 25) 0 ⟨340,64,340,66⟩) ⟨340,58,340,66⟩),(.BinOp (.Constant (.int 0) 0 ⟨340,68,340,69⟩) .Sub (.BinOp (.Constant (.int 10) 0 ⟨340,72,340,74⟩) .Pow (.Constant (.int 25) 0 ⟨340,78,340,80⟩) ⟨340,72,340,80⟩) ⟨340,68,340,80⟩)] ⟨340,14,340,81⟩):=by unfold kA;rfl
abbrev BJ:Expr:=.Subscript kA (.Call (.Name "_law_take" ⟨340,82,340,91⟩) [(.Name "store" ⟨340,92,340,97⟩),(.Constant (.int 10) 0 ⟨340,99,340,101⟩)] [] ⟨340,82,340,102⟩) ⟨340,14,340,103⟩
abbrev wk(i:Nat):Stmt:=(Kr ((z_ B_).getD 1 (.Pass ⟨0,0,0,0⟩))).getD i (.Pass ⟨0,0,0,0⟩)
theorem Xd:z_ B_=(z_ B_).getD 0 (.Pass ⟨0,0,0,0⟩)::.For (.Name "turn" ⟨339,8,339,12⟩) (.Call (.Name "range" ⟨339,16,339,21⟩) [(.Constant (.int 8) 0 ⟨339,22,339,23⟩)] [] ⟨339,16,339,24⟩) (.Assign [(.Name "odd" ⟨340,8,340,11⟩)] BJ ⟨340,8,340,103⟩::(Kr ((z_ B_).getD 1 (.Pass ⟨0,0,0,0⟩))).drop 1) [] ⟨339,4,351,28⟩::(z_ B_).drop 2:=by unfold BJ;rw[Kt];rfl
abbrev Xe:List Str:=["store","keeper","frame","size","turn","odd","place","weight","low","good","rows","door","one","other","due","kept"]
abbrev XA(P:Program)(w:World)(K:PySem.W.Frag)(mg:Str->Option Value)(base:Heap)(f:Addr)(ae:Value)(A:Around)(outer:List Env)(s:Shared)(H:Hp)(E:XK):Cx:=Cx.gk (bQ aK P w K mg base Xe "_law_all_refused" (g_ B_) f ae A outer s H E)
section
variable{P:Program}{w:World}{K:PySem.W.Frag}{mg:Str->Option Value}{base:Heap}{f:Addr}{ae:Value}{A:Around}{outer:List Env}{s:Shared}{H:Hp}{E:XK}{d:Addr}{n:Int}
theorem Xf(D1:ak P w K mg base 1 "_law_take" ["store","many"] F_)(hr:aM 1 (XA P w K mg base f ae A outer s H E).A):ET (XA P w K mg base f ae A outer s H E) d [some (kX _ d),none,none,none,none,none,none,none,none,none,none,none,none,none,none,none] BJ (aD _):=by
 refine jV (l1:=10) (h1:=10) (j:=9) (It:=aD _) ?_ (fk D1 hr (by rfl) (m_ 0 (pv 0)) J_)
 rw[Kt]
 refine cD (It:=aD _) (m:=10) ?_
 refine j_ (It:=aD _) (m:=9) ?_ ?_
 ·exact vM
 refine j_ (It:=aD _) (m:=8) ?_ ?_
 ·exact vM
 refine j_ (It:=aD _) (m:=7) ?_ ?_
 ·exact JB
 refine j_ (It:=aD _) (m:=6) ?_ ?_
 ·exact vN AR
 refine j_ (It:=aD _) (m:=5) ?_ ?_
 ·refine aF (P:=aN 1 1 (aY _ 0 90)) ?_ JD
  refine cD (It:=aY _ 0 90) (m:=1) ?_
  refine j_ (It:=aY _ 0 90) (m:=0) ?_ ?_
  ·exact aF J_ jj
  exact X_
 refine j_ (It:=aD _) (m:=4) ?_ ?_
 ·refine JE (n:=1) ?_
  refine j_ (It:=aY _ 0 90) (m:=0) ?_ ?_
  ·exact aF J_ jj
  exact X_
 refine j_ (It:=aD _) (m:=3) ?_ ?_
 ·exact JC
 refine j_ (It:=aD _) (m:=2) ?_ ?_
 ·exact vN vL
 refine j_ (It:=aD _) (m:=1) ?_ ?_
 ·exact aF vH vO
 refine j_ (It:=aD _) (m:=0) ?_ ?_
 ·exact aF (m9 J_ vH) vO
 exact X_
theorem Xg(D1:ak P w K mg base 1 "_law_take" ["store","many"] F_)(hr:aM 1 (XA P w K mg base f ae A outer s H E).A)(h1:1<=n)(h2:n<=100):ET (XA P w K mg base f ae A outer s H E) d [some (kX _ d),none,none,some (ao _ n n),none,some (aD _),none,none,none,none,none,none,none,none,none,none] (rK (wk 1)) (aq _ 0 (n-1)):=by
 refine jV (l1:=6) (h1:=6) (j:=5) (It:=aq _ 0 (n-1)) ?_ (fk D1 hr (by rfl) (m_ 0 (pv 0)) J_)
 refine cD (It:=aq _ 0 (n-1)) (m:=6) ?_
 refine j_ (It:=aq _ 0 (n-1)) (m:=5) ?_ ?_
 ·exact aF (m_ 3 (pv 3)) (dH (by lia) (by lia) (by lia))
 refine j_ (It:=aq _ 0 (n-1)) (m:=4) ?_ ?_
 ·exact aF jW (dH (by lia) (by lia) (by lia))
 refine j_ (It:=aq _ 0 (n-1)) (m:=3) ?_ ?_
 ·exact aF (pz (m_ 3 (pv 3)) (fk D1 hr (by rfl) (m_ 0 (pv 0)) J_)) (dH (by lia) (by lia) (by lia))
 refine j_ (It:=aq _ 0 (n-1)) (m:=2) ?_ ?_
 ·exact aF (m9 J_ (m_ 3 (pv 3))) (dH (by lia) (by lia) (by lia))
 refine j_ (It:=aq _ 0 (n-1)) (m:=1) ?_ ?_
 ·exact aF (m_ 5 (pv 5)) (jm (by lia) (by lia))
 refine j_ (It:=aq _ 0 (n-1)) (m:=0) ?_ ?_
 ·exact aF (m_ 5 (pv 5)) (jm (by lia) (by lia))
 exact X_
theorem Xh(D1:ak P w K mg base 1 "_law_take" ["store","many"] F_)(hr:aM 1 (XA P w K mg base f ae A outer s H E).A):ET (XA P w K mg base f ae A outer s H E) d [some (kX _ d),none,none,some (ao _ n n),none,some (aD _),some (aq _ 0 (n-1)),none,none,none,none,none,none,none,none,none] (rK (wk 2)) (aq _ (-9) 9):=by
 refine jV (l1:=6) (h1:=6) (j:=5) (It:=aq _ (-9) 9) ?_ (fk D1 hr (by rfl) (m_ 0 (pv 0)) J_)
 refine cD (It:=aq _ (-9) 9) (m:=6) ?_
 refine j_ (It:=aq _ (-9) 9) (m:=5) ?_ ?_
 ·exact aF J_ (dH (by decide) (by decide) (by decide))
 refine j_ (It:=aq _ (-9) 9) (m:=4) ?_ ?_
 ·exact aF jW (dH (by decide) (by decide) (by decide))
 refine j_ (It:=aq _ (-9) 9) (m:=3) ?_ ?_
 ·exact aF (pz J_ (fk D1 hr (by rfl) (m_ 0 (pv 0)) J_)) (dH (by decide) (by decide) (by decide))
 refine j_ (It:=aq _ (-9) 9) (m:=2) ?_ ?_
 ·exact aF (m9 jW (fk D1 hr (by rfl) (m_ 0 (pv 0)) J_)) (dH (by decide) (by decide) (by decide))
 refine j_ (It:=aq _ (-9) 9) (m:=1) ?_ ?_
 ·exact aF (m_ 5 (pv 5)) jm
 refine j_ (It:=aq _ (-9) 9) (m:=0) ?_ ?_
 ·exact aF (m_ 5 (pv 5)) jm
 exact X_
theorem Xi(D1:ak P w K mg base 1 "_law_take" ["store","many"] F_)(hr:aM 1 (XA P w K mg base f ae A outer s H E).A):ET (XA P w K mg base f ae A outer s H E) d [some (kX _ d),none,none,none,none,none,none,none,none,none,none,none,none,none,none,none] (rK (wk 3)) (aN 11 11 (cS _)):=by
 refine cD (It:=cS _) (m:=11) ?_
 refine j_ (It:=cS _) (m:=10) ?_ ?_
 ·exact aF jW BG
 refine j_ (It:=cS _) (m:=9) ?_ ?_
 ·exact Ko
 refine j_ (It:=cS _) (m:=8) ?_ ?_
 ·exact Ko
 refine j_ (It:=cS _) (m:=7) ?_ ?_
 ·exact W6
 refine j_ (It:=cS _) (m:=6) ?_ ?_
 ·exact Kq AR
 refine j_ (It:=cS _) (m:=5) ?_ ?_
 ·refine aF (P:=aN 1 1 (aY _ 0 90)) ?_ W8
  refine cD (It:=aY _ 0 90) (m:=1) ?_
  refine j_ (It:=aY _ 0 90) (m:=0) ?_ ?_
  ·exact aF J_ jj
  exact X_
 refine j_ (It:=cS _) (m:=4) ?_ ?_
 ·refine W9 (n:=1) ?_
  refine j_ (It:=aY _ 0 90) (m:=0) ?_ ?_
  ·exact aF J_ jj
  exact X_
 refine j_ (It:=cS _) (m:=3) ?_ ?_
 ·exact W7
 refine j_ (It:=cS _) (m:=2) ?_ ?_
 ·exact Kq vL
 refine j_ (It:=cS _) (m:=1) ?_ ?_
 ·exact aF (m9 J_ vH) BG
 refine j_ (It:=cS _) (m:=0) ?_ ?_
 ·exact aF (m9 jW (fk D1 hr (by rfl) (m_ 0 (pv 0)) J_)) BG
 exact X_
theorem Xj(D1:ak P w K mg base 1 "_law_take" ["store","many"] F_)(hr:aM 1 (XA P w K mg base f ae A outer s H E).A):ET (XA P w K mg base f ae A outer s H E) d [some (kX _ d),none,none,none,none,none,none,none,some (aN 11 11 (cS _)),none,none,none,none,none,none,none] (rK (wk 4)) (cS _):=by
 exact jV (l1:=11) (h1:=11) (j:=10) (It:=cS _) (m_ 8 (pv 8)) (fk D1 hr (by rfl) (m_ 0 (pv 0)) J_)
end
section
variable{P:Program}{w:World}{K:PySem.W.Frag}{mg:Str->Option Value}{base:Heap}{C:Addr}{c:Nat->Addr}
theorem Ku:aQ ["keeper"] ["keeper"] (g_ yJ):=⟨rfl,rfl,rfl,by decide +kernel,rfl,by decide +kernel,by decide +kernel⟩
theorem Xk{f:Addr}{fd:FuncData}(F:aG K "_law_stand" "_law_stand" yJ f fd)(cl:ck K C)(nD:dN P w K mg base 2 C "frame" ["self"] (vU C))(iH:dN P w K mg base 1 C "changes" ["self"] (pC C))(wm:dN P w K mg base 7 C "near" ["self","d"] (rP C))(BK:dN P w K mg base 14 C "even" ["self","k"] (rQ C)):ax P w K mg base aK 15 f fd ["keeper"] (BH C):=by
 refine F.ok Ku (λvs H Q E h=>?_) (λae A outer s H vs Q E hr h=>?_)
 ·obtain⟨kp,dx,sl,as,b,ps,ar,ws,rfl,_⟩:=h;rfl
 ·obtain⟨kp,dx,sl,as,b,ps,ar,ws,rfl,S,k⟩:=h
  have nd:=Ku.nd
  refine⟨_,(h_ (n_ (A_ (a_ (lf cl nD hr.mo (pv 0)) (a_ (lf cl iH hr.mo (pv 0)) (a_ (vS cl wm hr.mo (pv 0) (a_ f_ e_)) (a_ (vS cl wm hr.mo (pv 0) (a_ f_ e_)) (a_ (vS cl BK hr (pv 0) (a_ f_ e_)) e_)))))))),?_⟩
  refine⟨_,rfl,kp,dx,_,rfl,S.ob,gD (by decide +kernel),kp,dx,sl,as,b,ps,ar,ws,rfl,S,λf a c H1 s1 G1 _ na nc=>?_⟩
  have S1:=S.keep s1
  refine⟨_,rfl,kp,dx,_,rfl,S1.ob,gD (by decide +kernel),kp,dx,sl,as,b,ps,_,rfl,S1,?_⟩
  refine⟨_,rfl,kp,dx,_,rfl,S1.ob,gD (by decide +kernel),kp,dx,sl,as,b,ps,ar,ws,0,rfl,S1,λH2 s2=>?_⟩
  have S2:=S1.keep s2
  refine⟨_,rfl,kp,dx,_,rfl,S2.ob,gD (by decide +kernel),kp,dx,sl,as,b,ps,ar,ws,3,rfl,S2,λH3 s3=>?_⟩
  have S3:=S2.keep s3
  refine⟨_,rfl,kp,dx,_,rfl,S3.ob,gD (by decide +kernel),kp,dx,sl,as,b,ps,ar,ws,1,rfl,S3,λv H4 s4 hv=>⟨sz (by simp),λl hl=>?_⟩⟩
  have el:(((ar++[ws]).length:Nat):Int)-1=(ar.length:Int):=by rw[a0j,a0W];lia
  rw[el]
  have s5:=b_ (o:=.lst [V.ref f,V.int (ar.length:Int),V.int (Mx.bF b 0 ps ws (b ^ ps.sum)),V.int (Mx.bF b 3 ps ws (b ^ ps.sum)),v]) hl
  exact k l f a c v _ ((((s1.trans s2).trans s3).trans s4).trans s5) na nc ⟨d_,(((G1.keep s2).keep s3).keep s4).keep s5,hv⟩
theorem Kv:aQ ["store","keeper","frame","size","turn","odd","place","weight","low","good","rows","door","one","other","due","kept"] ["store","keeper","frame"] (g_ B_):=⟨rfl,rfl,rfl,by decide +kernel,rfl,by decide +kernel,by decide +kernel⟩
theorem Xl{f:Addr}{fd:FuncData}(F:aG K "_law_all_refused" "_law_all_refused" B_ f fd)(T:Txt mg)(hW:mg "repr"=none)(fS:ak P w K mg base 1 "_law_take" ["store","many"] F_)(lu:ak P w K mg base 15 "_law_word" ["keeper","door","one","other"] (lr C c)):ax P w K mg base aK 16 f fd ["store","keeper","frame"] (BI C):=by
 refine F.ok Kv (λvs H Q E h=>?_) (λae A outer s H vs Q E hr h=>?_)
 ·obtain⟨st,kp,dx,sl,f,a,c0,as,b,ps,ar,ws,w0,rfl,_⟩:=h;rfl
 ·obtain⟨st,kp,dx,sl,f,a,c0,as,b,ps,ar,ws,w0,rfl,E0,S,OF,G,k⟩:=h
  have nd:=Kv.nd
  have ok:=G.ok
  have hs:=ok.sum
  have jh:aM 1 (XA P w K mg base _ ae A outer s H E).A:=hr.mono (by decide)
  rw[Xd]
  refine⟨_,(c_ (k_ (i:=3) nd rfl (Or.inl rfl) (dC T.len (by rfl) (bX (pv 2) f_)))
   (c_ (Y_ PassesOwn.never rfl (M_ (by rfl) T.range (a_ f_ e_)) (q_ (i:=4) nd rfl (Or.inl rfl))
    (c_ (k_ (i:=5) nd rfl (Or.inl rfl) (rW λd=>Xf (d:=d) fS jh))
    (c_ (k_ (i:=6) nd rfl (Or.inl rfl) (rW λd=>Xg (d:=d) (n:=(ps.sum:Int)) fS jh (by lia) (by lia)))
    (c_ (k_ (i:=7) nd rfl (Or.inl rfl) (rW λd=>Xh (d:=d) (n:=(ps.sum:Int)) fS jh))
    (c_ (k_ (i:=8) nd rfl (Or.inl rfl) (rW λd=>Xi (d:=d) fS jh))
    (c_ (k_ (i:=8) nd rfl (Or.inl rfl) (rW λd=>Xj (d:=d) fS jh))
    (c_ (k_ (i:=9) nd rfl (Or.inl rfl) (o_ fS hr.mo (by rfl) (a_ (pv 0) (a_ (pv 3) e_))))
    (c_ (k_ (i:=10) nd rfl (Or.inl rfl) (A_ (a_ (dJ (a_ f_ (a_ (pv 6) (a_ f_ (a_ D_ e_))))) (a_ (dJ (a_ f_ (a_ (pv 6) (a_ (pv 7) (a_ D_ e_))))) (a_ (dJ (a_ f_ (a_ (pv 9) (a_ (pv 7) (a_ D_ e_))))) e_)))))
    (c_ (k_ (i:=10) nd rfl (Or.inl rfl) (p_ io (pv 10) (A_ (a_ (dJ (a_ f_ (a_ (pv 8) (a_ ic (a_ D_ e_))))) (a_ (dJ (a_ f_ (a_ (pv 8) (a_ ic (a_ D_ e_))))) e_)))))
    (h_ (Y_ PassesOwn.never rfl (S_ (pv 10)) (ss rfl (N_ (q_ (i:=11) nd rfl (Or.inl rfl)) (N_ (q_ (i:=12) nd rfl (Or.inl rfl)) (N_ (q_ (i:=13) nd rfl (Or.inl rfl)) (N_ (q_ (i:=14) nd rfl (Or.inl rfl)) nV)))))
     (c_ (k_ (i:=15) nd rfl (Or.inl rfl) (r_ (ut hr.gd hr.units) (by rfl) hW wj (a_ (A_ (a_ (pv 12) (a_ (pv 13) e_))) e_)))
     (h_ (Z_ (PW.pt (gL (v_ lM (o_ lu hr (by rfl) (a_ (pv 1) (a_ (pv 11) (a_ (pv 12) (a_ (pv 13) e_))))) (pv 14) (bO _)) (ig (v_ lM (r_ (ut hr.gd hr.units) (by rfl) hW wj (a_ (A_ (a_ (pv 12) (a_ (pv 13) e_))) e_)) (pv 15) (bO _))))) (h_ (n_ fV)) w_))))))))))))))
   (h_ (n_ fV)))),?_⟩
  have fK:w0.length=ps.sum:=ok.wl
  have rp:ws.length=ps.sum:=by obtain⟨_,_,_,_,g,_⟩:=S.last;exact g.ok.wl
  refine⟨_,rfl,tN G.tp rfl ⟨c0,_,rfl,.inl (af.of G.hw),?_⟩⟩
  rw[ZW,fK]
  refine⟨_,rfl,by decide,by decide,iR (n:=(8:Int).toNat) (λi σ H'=>∃v4 v5 v6 v7 v8 v9 mO lw lx ly lz lA,σ=[some (.ref st),some (.ref kp),some (.ref f),some (.int (ps.sum:Int)),v4,v5,v6,v7,v8,v9,mO,lw,lx,ly,lz,lA]/\bE H' st/\Kp [st] H H') ⟨none,none,none,none,none,none,none,none,none,none,none,none,rfl,E0,Kp.refl⟩ ?_ ?_⟩
  ·rintro i σ H1 hi ⟨v4,v5,v6,v7,v8,v9,mO,lw,lx,ly,lz,lA,rfl,E1,K1⟩
   refine⟨st,.cons (λP e=>by cases e;exact⟨_,rfl,rfl⟩) (.cons (λP e=>by cases e) (.cons (λP e=>by cases e) (.cons (λP e=>by cases e) (.cons (λP e=>by cases e) (.cons (λP e=>by cases e) (.cons (λP e=>by cases e) (.cons (λP e=>by cases e) (.cons (λP e=>by cases e) (.cons (λP e=>by cases e) (.cons (λP e=>by cases e) (.cons (λP e=>by cases e) (.cons (λP e=>by cases e) (.cons (λP e=>by cases e) (.cons (λP e=>by cases e) (.cons (λP e=>by cases e) .nil))))))))))))))),E1,λXm H2 E2 k2 p2=>?_⟩
   refine⟨st,.cons (λP e=>by cases e;exact⟨_,rfl,rfl⟩) (.cons (λP e=>by cases e) (.cons (λP e=>by cases e) (.cons (λP e=>by cases e;exact⟨_,rfl,_,rfl,a0L _,a0L _⟩) (.cons (λP e=>by cases e) (.cons (λP e=>by cases e;exact⟨_,rfl,p2⟩) (.cons (λP e=>by cases e) (.cons (λP e=>by cases e) (.cons (λP e=>by cases e) (.cons (λP e=>by cases e) (.cons (λP e=>by cases e) (.cons (λP e=>by cases e) (.cons (λP e=>by cases e) (.cons (λP e=>by cases e) (.cons (λP e=>by cases e) (.cons (λP e=>by cases e) .nil))))))))))))))),E2,λgh H3 E3 k3 p3=>?_⟩
   refine⟨st,.cons (λP e=>by cases e;exact⟨_,rfl,rfl⟩) (.cons (λP e=>by cases e) (.cons (λP e=>by cases e) (.cons (λP e=>by cases e;exact⟨_,rfl,_,rfl,a0L _,a0L _⟩) (.cons (λP e=>by cases e) (.cons (λP e=>by cases e;exact⟨_,rfl,(aD [st]).bA _ _ _ k3 p2⟩) (.cons (λP e=>by cases e;exact⟨_,rfl,p3⟩) (.cons (λP e=>by cases e) (.cons (λP e=>by cases e) (.cons (λP e=>by cases e) (.cons (λP e=>by cases e) (.cons (λP e=>by cases e) (.cons (λP e=>by cases e) (.cons (λP e=>by cases e) (.cons (λP e=>by cases e) (.cons (λP e=>by cases e) .nil))))))))))))))),E3,λweight H4 E4 k4 p4=>?_⟩
   refine⟨st,.cons (λP e=>by cases e;exact⟨_,rfl,rfl⟩) (.cons (λP e=>by cases e) (.cons (λP e=>by cases e) (.cons (λP e=>by cases e) (.cons (λP e=>by cases e) (.cons (λP e=>by cases e) (.cons (λP e=>by cases e) (.cons (λP e=>by cases e) (.cons (λP e=>by cases e) (.cons (λP e=>by cases e) (.cons (λP e=>by cases e) (.cons (λP e=>by cases e) (.cons (λP e=>by cases e) (.cons (λP e=>by cases e) (.cons (λP e=>by cases e) (.cons (λP e=>by cases e) .nil))))))))))))))),E4,λZM H5 E5 k5 p5=>?_⟩
   refine⟨st,.cons (λP e=>by cases e;exact⟨_,rfl,rfl⟩) (.cons (λP e=>by cases e) (.cons (λP e=>by cases e) (.cons (λP e=>by cases e) (.cons (λP e=>by cases e) (.cons (λP e=>by cases e) (.cons (λP e=>by cases e) (.cons (λP e=>by cases e) (.cons (λP e=>by cases e;exact⟨_,rfl,p5⟩) (.cons (λP e=>by cases e) (.cons (λP e=>by cases e) (.cons (λP e=>by cases e) (.cons (λP e=>by cases e) (.cons (λP e=>by cases e) (.cons (λP e=>by cases e) (.cons (λP e=>by cases e) .nil))))))))))))))),E5,λbV H6 E6 k6 p6=>?_⟩
   refine⟨_,rfl,_,rfl,st,(ps.sum:Int),rfl,E6,by lia,by lia,λr H7 r0 r1 E7 k7=>?_⟩
   have K7:Kp [st] H H7:=(((((K1.trans k2).trans k3).trans k4).trans k5).trans k6).trans k7
   have S7:=S.JG K7 (λy hy=>by rw[a0h.mp hy];exact OF)
   obtain⟨⟨dp,tp,gp⟩,bp⟩:=(aq [st] 0 ((ps.sum:Int)-1)).bA _ _ _ (((k4.trans k5).trans k6).trans k7) p3
   have tp:=tp.keep uu
   obtain⟨⟨dw,tw,gw⟩,bw⟩:=(aq [st] (-9) 9).bA _ _ _ ((k5.trans k6).trans k7) p4
   have tw:=tw.keep uu
   obtain⟨⟨dl,tl,gl⟩,bl⟩:=(cS [st]).bA _ _ _ k7 p6
   have tl:=tl.keep uu
   have n7:(ps.sum:Int)=(ws.length:Int):=by rw[rp]
   have tr:cA H7 (.int r):=.int r
   refine⟨_,rfl,sz (by simp),λt1 At=>⟨_,rfl,_,rfl,sz (by simp),λt2 Au=>⟨_,rfl,_,rfl,sz (by simp),λt3 Av=>⟨sz (by simp),λl1 cX=>?_⟩⟩⟩⟩
   have q1:=b_ (o:=.tup [.int 0,gh,.int 1,.str "part"]) At
   have q2:=b_ (o:=.tup [.int 0,gh,weight,.str "part"]) Au
   have q3:=b_ (o:=.tup [.int 0,.int r,weight,.str "number"]) Av
   have q4:=b_ (o:=.lst [.ref t1,.ref t2,.ref t3]) cX
   have w1:=q4 _ _ (q3 _ _ (q2 _ _ (d_ (H:=H7) (a:=t1) (o:=.tup [.int 0,gh,.int 1,.str "part"]))))
   have w2:=q4 _ _ (q3 _ _ (d_ (H:=upd H7 t1 (.tup [.int 0,gh,.int 1,.str "part"])) (a:=t2) (o:=.tup [.int 0,gh,weight,.str "part"])))
   have w3:=q4 _ _ (d_ (H:=upd (upd H7 t1 (.tup [.int 0,gh,.int 1,.str "part"])) t2 (.tup [.int 0,gh,weight,.str "part"])) (a:=t3) (o:=.tup [.int 0,.int r,weight,.str "number"]))
   have w4:(upd (upd (upd (upd H7 t1 (.tup [.int 0,gh,.int 1,.str "part"])) t2 (.tup [.int 0,gh,weight,.str "part"])) t3 (.tup [.int 0,.int r,weight,.str "number"])) l1 (.lst [.ref t1,.ref t2,.ref t3])) l1=_:=d_
   have s4:=((q1.trans q2).trans q3).trans q4
   generalize upd (upd (upd (upd H7 t1 (.tup [.int 0,gh,.int 1,.str "part"])) t2 (.tup [.int 0,gh,weight,.str "part"])) t3 (.tup [.int 0,.int r,weight,.str "number"])) l1 (.lst [.ref t1,.ref t2,.ref t3])=M4 at w1 w2 w3 w4 s4⊢
   refine⟨_,rfl,_,rfl,sz (by simp),λt4 Xn=>⟨_,rfl,sz (by simp),λt5 Xo=>⟨sz (by simp),λl2 bM=>?_⟩⟩⟩
   have q5:=b_ (o:=.tup [.int 2,bV,.aw,.str "miss"]) Xn
   have q6:=b_ (o:=.tup [.int 3,bV,.aw,.str "number"]) Xo
   have q7:=b_ (o:=.lst [.ref t4,.ref t5]) bM
   have w5:=q7 _ _ (q6 _ _ (d_ (H:=M4) (a:=t4) (o:=.tup [.int 2,bV,.aw,.str "miss"])))
   have w6:=q7 _ _ (d_ (H:=upd M4 t4 (.tup [.int 2,bV,.aw,.str "miss"])) (a:=t5) (o:=.tup [.int 3,bV,.aw,.str "number"]))
   have w7:(upd (upd (upd M4 t4 (.tup [.int 2,bV,.aw,.str "miss"])) t5 (.tup [.int 3,bV,.aw,.str "number"])) l2 (.lst [.ref t4,.ref t5])) l2=_:=d_
   have BL:=(q5.trans q6).trans q7
   generalize upd (upd (upd M4 t4 (.tup [.int 2,bV,.aw,.str "miss"])) t5 (.tup [.int 3,bV,.aw,.str "number"])) l2 (.lst [.ref t4,.ref t5])=M7 at w5 w6 w7 BL⊢
   refine⟨l1,l2,_,_,rfl,rfl,BL _ _ w4,w7,sz (by simp),λl3 cQ=>?_⟩
   have q8:=b_ (o:=.lst ([V.ref t1,.ref t2,.ref t3]++[.ref t4,.ref t5])) cQ
   have w8:(upd M7 l3 (.lst ([V.ref t1,.ref t2,.ref t3]++[.ref t4,.ref t5]))) l3=some (.lst [V.ref t1,.ref t2,.ref t3,.ref t4,.ref t5]):=d_
   generalize upd M7 l3 (.lst ([V.ref t1,.ref t2,.ref t3]++[.ref t4,.ref t5]))=M8 at w8 q8⊢
   have wn:=BL.trans q8
   have s8:=s4.trans wn
   have S8:=S7.keep s8
   have wo:=tp.keep s8
   have tw8:=tw.keep s8
   have wu:=tl.keep s8
   rw[n7] at bp
   have br:cC (.int r) 0 ((ws.length:Int)-1)=true:=by simp only[cC,a0J,decide_eq_true_eq];lia
   have aP:∀(j:Nat) (x:V),[V.ref t1,.ref t2,.ref t3,.ref t4,.ref t5][j]?=some x->∃(t:Addr) (fy:Nat) (one bL:V) (nC:Str),x=.ref t/\M8 t=some (.tup [.int (fy:Int),one,bL,.str nC])/\rX C c kp M8 fy one bL nC/\Th M8 1 100 one/\Th M8 1 100 bL:=λj x hx=>by
    rcases j with _ | _ | _ | _ | _ | j
    ·cases hx
     exact⟨t1,0,gh,.int 1,"part",rfl,wn _ _ w1,Ks S8 (kJ wo) (.int 1) bp,⟨dp,wo,gp⟩,Th.int (by decide)⟩
    ·cases hx
     exact⟨t2,0,gh,weight,"part",rfl,wn _ _ w2,Ks S8 (kJ wo) (kJ tw8) bp,⟨dp,wo,gp⟩,⟨dw,tw8,gw⟩⟩
    ·cases hx
     exact⟨t3,0,.int r,weight,"number",rfl,wn _ _ w3,Xa S8 (.int r) (kJ tw8) br bw,Th.int (by lia),⟨dw,tw8,gw⟩⟩
    ·cases hx
     exact⟨t4,2,bV,.aw,"miss",rfl,q8 _ _ w5,Xb S8 (kJ wu) bl,⟨dl,wu,gl⟩,Th.aw⟩
    ·cases hx
     exact⟨t5,3,bV,.aw,"number",rfl,q8 _ _ w6,Xc S8 (kJ wu) bl,⟨dl,wu,gl⟩,Th.aw⟩
    ·simp at hx
   refine⟨_,rfl,l3,rfl,⟨_,af.of w8⟩,kf (K:=K) (a:=l3) (xs:=[V.ref t1,.ref t2,.ref t3,.ref t4,.ref t5]) (λj σ H'=>∃lw lx ly lz lA,σ=[some (.ref st),some (.ref kp),some (.ref f),some (.int (ps.sum:Int)),some (.int (0+(i:Int))),some Xm,some gh,some weight,some bV,some (.int r),some (.ref l3),lw,lx,ly,lz,lA]/\ag M8 H') ⟨lw,lx,ly,lz,lA,rfl,ag.refl _⟩ (λj σ H' _ p=>by obtain⟨_,_,_,_,_,_,s'⟩:=p;exact af.of (s' _ _ w8)) ?_ ?_⟩
   ·rintro j x σ H9 hx ⟨lw,lx,ly,lz,lA,rfl,s9⟩
    obtain⟨t,fy,one,bL,nC,rfl,ht,hw,⟨d1,e1,g1⟩,⟨d2,e2,g2⟩⟩:=aP j x hx
    refine⟨t,_,rfl,bo.of (s9 _ _ ht),rfl,_,_,rfl,_,_,rfl,_,_,rfl,_,_,rfl,rfl,?_⟩
    have gg:=W' (n:=1) (w:=300) g1 g2 (by decide) (by decide) (by decide)
    have rY:(PyData.list [d1,d2]).depth<=50:=Z9 gg.dp (by decide)
    have c3:=gg.shown (by decide)
    refine⟨_,rfl,_,rfl,sz (by simp),λm1 gS=>?_⟩
    have j4:=s9.trans (b_ (o:=.lst [one,bL]) gS)
    have Kw:(upd H9 m1 (.lst [one,bL])) m1=_:=d_
    generalize upd H9 m1 (.lst [one,bL])=qU at j4 Kw⊢
    refine⟨_,.list [d1,d2],rfl,.lst Kw (.cons (e1.keep j4) (.cons (e2.keep j4) .nil)),gg.sh,rY,c3,?_⟩
    refine⟨_,rfl,_,rfl,_,rfl,_,rfl,hw qU j4 _ L2.E0 λwx Xp=>⟨_,rfl,rfl,_,rfl,?_⟩⟩
    rw[show(!decide (V.str nC=V.str nC))=false by simp]
    refine aX ⟨_,rfl,_,rfl,sz (by simp),λm2 dB=>?_⟩
    have gy:=(j4.trans Xp).trans (b_ (o:=.lst [one,bL]) dB)
    have Kx:(upd wx m2 (.lst [one,bL])) m2=_:=d_
    generalize upd wx m2 (.lst [one,bL])=BM at gy Kx⊢
    refine⟨_,.list [d1,d2],rfl,.lst Kx (.cons (e1.keep gy) (.cons (e2.keep gy) .nil)),gg.sh,rY,c3,_,rfl,rfl,_,rfl,?_⟩
    rw[show(!decide (V.str (PyData.list [d1,d2]).shown=V.str (PyData.list [d1,d2]).shown))=false by simp]
    exact aX ⟨_,_,_,_,_,rfl,gy⟩
   ·rintro σ H9 ⟨lw,lx,ly,lz,lA,rfl,s9⟩
    exact⟨_,_,_,_,_,_,_,_,_,_,_,_,rfl,E7.keep (s8.trans s9),K7.same (s8.trans s9)⟩
  ·rintro σ H1 ⟨v4,v5,v6,v7,v8,v9,mO,lw,lx,ly,lz,lA,rfl,E1,K1⟩
   exact k H1 E1 K1
end
def BN(xs:List V):Prop:=∀v∈xs,∃a,v=V.ref a
def NR(o:HO):Prop:=∀ys,o=.lst ys->¬ BN ys
def wA(H H':Hp):Prop:=∀z o,H z=some o->NR o->H' z=some o
theorem BO{α:Type}(g:α->Addr)(l:List α):BN (l.map λx=>V.ref (g x)):=λv hv=>by
 obtain⟨x,_,rfl⟩:=a0a.mp hv
 exact⟨_,rfl⟩
theorem Kp.cE{H H':Hp}{y:Addr}{xs:List V}(k:Kp [y] H H')(hy:H y=some (.lst xs))(hr:BN xs):wA H H':=λz o e n=>k z o e (λhz=>by
 rw[a0h.mp hz,hy] at e
 exact n xs (Z6 e).symm hr)
theorem Xq{xs:List V}:NR (.tup xs):=λ_ z=>by cases z
theorem wB{xs:List V}{i:Int}(h:V.int i∈xs):NR (.lst xs):=λys z r=>by
 cases z
 obtain⟨a,e⟩:=r _ h
 cases e
theorem Xr{ps:List Nat}(h:1<=ps.length):NR (.lst (ay ps)):=by
 cases ps with
 | nil=>simp at h
 | cons p q=>exact wB (i:=(p:Int)) (by simp[ay])
theorem Xs{ws:List Int}(h:1<=ws.length):NR (.lst (ws.map V.int)):=by
 cases ws with
 | nil=>simp at h
 | cons p q=>exact wB (i:=p) (by simp)
theorem aS.cE{H H':Hp}{f a c:Addr}{b:Nat}{ps:List Nat}{ws:List Int}(G:aS H f a c b ps ws)(s:wA H H'):aS H' f a c b ps ws :=
 ⟨s _ _ G.tp Xq,s _ _ G.hp (Xr (by have:=G.ok.l2;lia)),s _ _ G.hw (Xs (by have:=G.ok.wl;have:=G.ok.sum;lia)),G.ok⟩
theorem bE.cE{H H':Hp}{st:Addr}(S:bE H st)(s:wA H H'):bE H' st:=let ⟨g,c,k,e⟩:=S;⟨g,c,k,s _ _ e (wB (i:=g) (by simp))⟩
theorem bE.ne{H:Hp}{st y:Addr}{o:HO}(S:bE H st)(h:H y=some o)(n:∀g c k:Int,o≠.lst [.int g,.int c,.int k]):y≠st:=λz=>by
 obtain⟨g,c,k,e⟩:=S
 rw[z,e] at h
 exact n g c k (Z6 h).symm
theorem Xt{H1 H2:Hp}{kp dx:Addr}{o1 o2:HO}(nk:H1 kp=none)(nd:H1 dx=none)(k2:Kp [kp] (upd (upd H1 dx o1) kp o2) H2):ag H1 H2:=λy o e=>by
 have n1:y≠kp:=λz=>by rw[z,nk] at e;cases e
 have n2:y≠dx:=λz=>by rw[z,nd] at e;cases e
 exact k2 y o (by rw[i_ n1,i_ n2];exact e) (by simpa using n1)
theorem BP{H1:Hp}{kp dx y:Addr}{o1 o2:HO}(nk:H1 kp=none)(nd:H1 dx=none)(h:(upd (upd H1 dx o1) kp o2) y=none):H1 y=none:=by
 by_cases n1:y=kp
 ·rw[n1];exact nk
 ·by_cases n2:y=dx
  ·rw[n2];exact nd
  ·rw[i_ n1,i_ n2] at h;exact h
theorem Xu{C f' a' c' kp dx:Addr}{b:Nat}{ps:List Nat}{ws:List Int}{H1:Hp}{R:Hp->Prop}{E:XK}(G1:aS H1 f' a' c' b ps ws)(nk:H1 kp=none)(nd:H1 dx=none)
  (k:∀(sl:Addr) (x:AF) (H2:Hp),ag H1 H2->bI C H2 kp dx sl [x] b ps [ws]->H1 sl=none->H1 x.2.1=none->H1 x.2.2=none->R H2) :
  vT C [.ref kp,.ref f'] (upd (upd H1 dx (.own kp)) kp (.ins C dx [])) (λv H2=>v=.aw/\R H2) E:=by
 have s1:ag H1 (upd (upd H1 dx (.own kp)) kp (.ins C dx [])):=λy o e=>by
  rw[i_ (λz=>by rw[z,nk] at e;cases e),i_ (λz=>by rw[z,nd] at e;cases e)];exact e
 refine⟨kp,dx,f',a',c',b,ps,ws,rfl,d_,G1.keep s1,λsl x H2 n1 n2 n3 n4 K2 k2=>⟨rfl,k sl x H2 (Xt nk nd k2) K2 (BP nk nd n1) (BP nk nd n3) (BP nk nd n4)⟩⟩
theorem wC{α:Type}{l:List α}(h:1<=l.length):∃ar x,l=ar++[x]:=by
 have h1:l≠[]:=λz=>by rw[z] at h;simp at h
 exact⟨l.dropLast,l.getLast h1,(a1o h1).symm⟩
structure fz(C:Addr)(H:Hp)(st kp dx sl f a c:Addr)(as:List AF)(b:Nat)(ps:List Nat)(cj:List (List Int))(w0:List Int):Prop where
 K:bI C H kp dx sl as b ps cj
 O:AY kp sl as st
 S:bE H st
 G:aS H f a c b ps w0
 na:a≠st
 nc:c≠st
 h0:cj[0]?=some w0
section
variable{C:Addr}{H H':Hp}{st kp dx sl f a c:Addr}{as:List AF}{b:Nat}{ps:List Nat}{cj:List (List Int)}{w0:List Int}
theorem fz.keep(W:fz C H st kp dx sl f a c as b ps cj w0)(s:ag H H'):fz C H' st kp dx sl f a c as b ps cj w0:=⟨W.K.keep s,W.O,W.S.keep s,W.G.keep s,W.na,W.nc,W.h0⟩
theorem fz.pM(W:fz C H st kp dx sl f a c as b ps cj w0)(S':bE H' st)(k:Kp [st] H H'):fz C H' st kp dx sl f a c as b ps cj w0:=⟨W.K.JG k (λy hy=>by rw[a0h.mp hy];exact W.O),W.O,S',W.G.AC W.S W.na W.nc k,W.na,W.nc,W.h0⟩
theorem fz.weigh{x:AF}{wz:List Int}(W:fz C H st kp dx sl f a c as b ps cj w0)(k:Kp [sl] H H')(n1:H x.1=none)(n2:H x.2.1=none)(n3:H x.2.2=none)(K':bI C H' kp dx sl (as++[x]) b ps (cj++[wz])):fz C H' st kp dx sl f a c (as++[x]) b ps (cj++[wz]) w0:=by
 have s:=k.cE W.K.ls (BO _ _)
 refine⟨K',⟨W.O.k,W.O.s,λy hy=>?_⟩,W.S.cE s,W.G.cE s,W.na,W.nc,?_⟩
 ·rcases a0s.mp hy with h | h
  ·exact W.O.f y h
  ·rw[a0h.mp h]
   exact⟨(W.S.off n1).symm,(W.S.off n2).symm,(W.S.off n3).symm⟩
 ·rw[a0i (ZX.mp W.h0).1];exact W.h0
theorem fz.BQ{x:AF}{ar:List (List Int)}{ws wz:List Int}(W:fz C H st kp dx sl f a c (as++[x]) b ps (ar++[ws]++[wz]) w0)(k:Kp [sl] H H')(K':bI C H' kp dx sl as b ps (ar++[ws])):fz C H' st kp dx sl f a c as b ps (ar++[ws]) w0:=by
 have s:=k.cE W.K.ls (BO _ _)
 refine⟨K',⟨W.O.k,W.O.s,λy hy=>W.O.f y (a0N _ hy)⟩,W.S.cE s,W.G.cE s,W.na,W.nc,?_⟩
 have h:=W.h0
 rwa [a0i (by simp)] at h
theorem gH.pM{l f1 a1 c1:Addr}{ws:List Int}{n:Nat}{v:V}(D:gH H l f1 a1 c1 b ps ws n v)(S:bE H st)(k:Kp [st] H H')(ha:a1≠st)(hc:c1≠st):gH H' l f1 a1 c1 b ps ws n v :=
 ⟨k _ _ D.ls (λz=>S.ne D.ls (λ_ _ _ e=>by cases e) (a0h.mp z)),D.fr.AC S ha hc k,D.pL⟩
theorem gH.cE{l f1 a1 c1:Addr}{ws:List Int}{n:Nat}{v:V}(D:gH H l f1 a1 c1 b ps ws n v)(s:wA H H'):gH H' l f1 a1 c1 b ps ws n v:=⟨s _ _ D.ls (wB (i:=(n:Int)) (by simp)),D.fr.cE s,D.pL⟩
theorem gH.keep{l f1 a1 c1:Addr}{ws:List Int}{n:Nat}{v:V}(D:gH H l f1 a1 c1 b ps ws n v)(s:ag H H'):gH H' l f1 a1 c1 b ps ws n v:=⟨s _ _ D.ls,D.fr.keep s,D.pL⟩
end
theorem Xv{P:Program}{w:World}{H:Hp}{l f a c l' f' a' c':Addr}{v v':V}{b:Nat}{ps:List Nat}{ws:List Int}{n:Nat}{neg:Bool}{Q:VK}(E:gH H l f a c b ps ws n v)(E':gH H l' f' a' c' b ps ws n v')(q:Q (.bl (!neg)) H):qq P w neg (.ref l) (.ref l') H Q:=by
 cases E.pL.same E'.pL
 have hv:∃dv,eV P w H v dv/\dv.canLay0=true/\dv.depth=0:=by
  rcases E.pL with⟨rfl,_⟩ | ⟨m,rfl,_⟩
  ·exact⟨_,Ov,rfl,rfl⟩
  ·exact⟨_,jC _,rfl,rfl⟩
 obtain⟨dv,hd,hc,hp⟩:=hv
 refine L2.tF (kB E.ls (.cons E.fr.dat (.cons (jC _) (.cons (jC _) (.cons (jC _) (.cons hd .nil)))))) (kB E'.ls (.cons E'.fr.dat (.cons (jC _) (.cons (jC _) (.cons (jC _) (.cons hd .nil)))))) ?_ ?_ q
 ·simp[PyData.canLay0,PyData.canLayAll0,hc,Az]
 ·have h1:(mY b ps ws).depth<=59:=by
   have:=AA b ps ws
   simp only[mY,PyData.depth,PyData.depthAll] at this⊢
   have e1:∀l:List Int,PyData.depthAll (l.map PyData.int)=0:=λl=>by
    induction l with
    | nil=>rfl
    | cons x r ih=>simp[PyData.depthAll,PyData.depth,ih]
   rw[e1,e1]
   decide
  simp only[PyData.depth,PyData.depthAll,hp]
  lia
def fA(n j:Nat):List Str:=List.replicate (min j n) ("":Str)++List.replicate (j-n) ("number":Str)
theorem Xw{n j:Nat}(h:j<n):fA n (j+1)=fA n j++[("":Str)]:=by
 unfold fA
 rw[show min (j+1) n=j+1 by lia,show min j n=j by lia,show j+1-n=0 by lia,show j-n=0 by lia,List.replicate_succ']
 simp
theorem Xx{n j:Nat}(h:n<=j):fA n (j+1)=fA n j++[("number":Str)]:=by
 unfold fA
 rw[show min (j+1) n=n by lia,show min j n=n by lia,show j+1-n=(j-n)+1 by lia,List.replicate_succ' (n:=j-n)]
 simp
theorem Xy(n:Nat):(fA n (n+2)).map V.str=(List.replicate (n:Int).toNat [V.str ""]).flatten++[V.str "number",V.str "number"]:=by
 unfold fA
 rw[show min (n+2) n=n by lia,show n+2-n=2 by lia,show((n:Int)).toNat=n by lia]
 have h:∀k:Nat,(List.replicate k [V.str ""]).flatten=List.replicate k (V.str ""):=λk=>by
  induction k with
  | zero=>rfl
  | succ k ih=>rw[a0E,a1l,ih,a0E];rfl
 rw[h,a0p,List.map_replicate]
 rfl
theorem BR{P:Program}{w:World}{H:Hp}:∀ns:List Str,Paired (eV P w H) (ns.map V.str) (ns.map PyData.str)
 | []=>.nil
 | x::r=>.cons (x8 x) (BR r)
theorem Xz{l:List Str}(h:∀x∈l,PyData.canLay0 (.str x)=true):PyData.canLay0 (.list (l.map PyData.str))=true:=by
 simp only[PyData.canLay0]
 induction l with
 | nil=>rfl
 | cons x r ih =>
  have h1:=h x a0t
  simp only[PyData.canLay0] at h1
  simp only[a0f,PyData.canLayAll0,PyData.canLay0,h1,ih λy hy=>h y (Z5 _ hy),a0X]
theorem XB(l:List Str):PyData.depth (.list (l.map PyData.str))<=60:=by
 have h:PyData.depthAll (l.map PyData.str)=0:=by
  induction l with
  | nil=>rfl
  | cons x r ih=>simp[PyData.depthAll,PyData.depth,ih]
 simp only[PyData.depth,h]
 lia
theorem XC{n j:Nat}{x:Str}(h:x∈fA n j):PyData.canLay0 (.str x)=true:=by
 rcases a0s.mp h with h | h
 ·rw[(List.mem_replicate.mp h).2];decide +kernel
 ·rw[(List.mem_replicate.mp h).2];decide +kernel
section
variable{C kp dx sl:Addr}{c:Nat->Addr}{H:Hp}{b:Nat}{ps:List Nat}{Q:VK}{E:XK}
theorem Ky{as:List AF}{x:AF}{ar:List (List Int)}{ws wz:List Int}(K:bI C H kp dx sl (as++[x]) b ps (ar++[ws]++[wz]))(hl:ar.length<=1000)(k:∀H',bI C H' kp dx sl as b ps (ar++[ws])->Kp [sl] H H'->Q (.str "") H'):lr C c [.ref kp,.int 1,.int 0,.int 0] H Q E :=
 ⟨kp,dx,sl,1,.int 0,.int 0,rfl,K.ob,.inr (.inl ⟨rfl,λQ' E' hq he=>.inl ⟨kp,dx,sl,as,x,b,ps,ar,ws,wz,rfl,K,hl,λt H' _ _ K' k'=>hq _ H' (k H' K' k')⟩⟩)⟩
theorem XD{as:List AF}{ws:List Int}(K:bI C H kp dx sl as b ps [ws])(k:∀H',ag H H'->Q (.str "number") H'):lr C c [.ref kp,.int 1,.int 0,.int 0] H Q E :=
 ⟨kp,dx,sl,1,.int 0,.int 0,rfl,K.ob,.inr (.inl ⟨rfl,λQ' E' hq he=>.inr ⟨kp,dx,sl,as,b,ps,ws,rfl,K,λH' s'=>he 1 "number" H' (Z5 _ a0t) λH2 s2=>k H2 (s'.trans s2)⟩⟩)⟩
theorem XE{as:List AF}{ar:List (List Int)}{ws:List Int}(K:bI C H kp dx sl as b ps (ar++[ws]))(hl:ar.length<=1000)(h0:0<ws.length)(k:∀x H',H x.1=none->H x.2.1=none->H x.2.2=none->bI C H' kp dx sl (as++[x]) b ps (ar++[ws]++[ws.set 0 9])->Kp [sl] H H'->Q (.str "") H'):lr C c [.ref kp,.int 0,.int 0,.int 9] H Q E :=
 ⟨kp,dx,sl,0,.int 0,.int 9,rfl,K.ob,.inl ⟨rfl,λQ' E' hq he=>.inl ⟨kp,dx,sl,as,b,ps,ar,ws,0,9,rfl,K,h0,by decide,by decide,hl,λt x H' _ _ n1 n2 n3 K' k'=>hq _ H' (k x H' n1 n2 n3 K' k')⟩⟩⟩
end
section
variable{P:Program}{w:World}{K:PySem.W.Frag}{mg:Str->Option Value}{base:Heap}{C:Addr}{c:Nat->Addr}
theorem Kz:aQ ["frame"] ["frame"] (g_ yH):=⟨rfl,rfl,rfl,by decide +kernel,rfl,by decide +kernel,by decide +kernel⟩
theorem XF{f:Addr}{fd:FuncData}(F:aG K "_law_copy" "_law_copy" yH f fd)(T:Txt mg):ax P w K mg base aK 1 f fd ["frame"] lg:=by
 refine F.ok Kz (λvs H Q E h=>?_) (λae A outer s H vs Q E hr h=>?_)
 ·obtain⟨f,a,c,b,ps,ws,rfl,_⟩:=h;rfl
 ·obtain⟨f,a,c,b,ps,ws,rfl,G,k⟩:=h
  have nd:=Kz.nd
  refine⟨_,(h_ (n_ (dJ (a_ (bX (pv 0) f_) (a_ (lS sS (by rfl) T.list boot_list (a_ (bX (pv 0) f_) e_)) (a_ (lS sS (by rfl) T.list boot_list (a_ (bX (pv 0) f_) e_)) e_)))))),?_⟩
  refine⟨_,rfl,_,_,_,_,rfl,rfl,bo.of G.tp,rfl,⟨_,rfl,_,_,_,_,rfl,rfl,bo.of G.tp,rfl,⟨a,_,rfl,.inl (af.of G.hp),λa' nv=>?_⟩⟩⟩
  have s1:=b_ (o:=.lst (ay ps)) nv
  have u1:(upd H a' (.lst (ay ps))) a'=_:=d_
  generalize upd H a' (.lst (ay ps))=H1 at s1 u1⊢
  refine⟨_,rfl,_,_,_,_,rfl,rfl,bo.of (s1 _ _ G.tp),rfl,⟨c,_,rfl,.inl (af.of (s1 _ _ G.hw)),λc' fU=>⟨sz (by simp),λf' jK=>?_⟩⟩⟩
  have s2:=b_ (o:=.lst (ws.map V.int)) fU
  have s3:=b_ (o:=.tup [.int b,.ref a',.ref c']) jK
  exact k f' a' c' _ (s1.trans (s2.trans s3)) ⟨d_,s3 _ _ (s2 _ _ u1),s3 _ _ d_,G.ok⟩ (s1.free (s2.free jK)) nv (s1.free fU) (λz=>by rw[<-z,u1] at fU;cases fU)
theorem KA:aQ ["script","at","store","frame","bad","kept","keeper","turn","early"] ["script"] (g_ kH):=⟨rfl,rfl,rfl,by decide +kernel,rfl,by decide +kernel,by decide +kernel⟩
theorem XG{f:Addr}{fd:FuncData}(F:aG K "law" "law" kH f fd)(T:Txt mg)(hW:mg "repr"=none)(BS:ak P w K mg base 1 "_law_cell" ["script","k"] (zh K))(BT:ak P w K mg base 1 "_law_store" ["cell"] zi)(fS:ak P w K mg base 1 "_law_take" ["store","many"] F_)(BU:ak P w K mg base 2 "_law_frame" ["store","longest"] zj)(BV:ak P w K mg base 1 "_law_copy" ["frame"] lg)(BW:ak P w K mg base 2 "_law_no_frame" ["store","frame"] AW)(BY:ak P w K mg base 8 "_law_no_keeper" ["bad"] BE)(wD:ak P w K mg base 15 "_law_stand" ["keeper"] (BH C))(BZ:ak P w K mg base 16 "_law_all_refused" ["store","keeper","frame"] (BI C))(lu:ak P w K mg base 15 "_law_word" ["keeper","door","one","other"] (lr C c))(cl:ck K C)(nD:dN P w K mg base 2 C "frame" ["self"] (vU C))(iH:dN P w K mg base 1 C "changes" ["self"] (pC C))(B0:dN P w K mg base 8 C "weigh" ["self","place","weight"] (rN C))(B7:dN P w K mg base 8 C "undo" ["self"] (rO C))(B8:vR P w K mg base 6 "Keeper" C ["self","frame"] (vT C)):ax P w K mg base aK 17 f fd ["script"] (vC K):=by
 refine F.ok KA (λvs H Q E h=>?_) (λae A outer s H vs Q E hr h=>?_)
 ·obtain⟨a0,ns,rfl,_⟩:=h;rfl
 ·obtain⟨a0,ns,rfl,hS,b9,k⟩:=h
  have nd:=KA.nd
  refine⟨_,(c_ (Y_ PassesOwn.never rfl (M_ (by rfl) T.range (a_ (r_ (Ek rfl) (by rfl) T.min boot_min (a_ (r_ (xx rfl) (by rfl) T.max boot_max (a_ (dC T.len (by rfl) (pv 0)) (a_ f_ e_))) (a_ f_ e_))) e_)) (q_ (i:=1) nd rfl (Or.inl rfl))
    (c_ (k_ (i:=2) nd rfl (Or.inl rfl) (o_ BT hr.mo (by rfl) (a_ (o_ BS hr.mo (by rfl) (a_ (pv 0) (a_ (pv 1) e_))) e_)))
    (c_ (k_ (i:=3) nd rfl (Or.inl rfl) (o_ BU hr.mo (by rfl) (a_ (pv 2) (a_ f_ e_))))
    (c_ (k_ (i:=4) nd rfl (Or.inl rfl) (o_ BW hr.mo (by rfl) (a_ (pv 2) (a_ (pv 3) e_))))
    (c_ (k_ (i:=5) nd rfl (Or.inl rfl) (r_ (ut hr.gd hr.units) (by rfl) hW wj (a_ (pv 4) e_)))
    (c_ (Z_ (PW.pt (gL (d9 (dP (o_ BY hr.mo (by rfl) (a_ (pv 4) e_)))) (ig (v_ lM (r_ (ut hr.gd hr.units) (by rfl) hW wj (a_ (pv 4) e_)) (pv 5) (bO _))))) (h_ (n_ fV)) w_)
    (c_ (k_ (i:=6) nd rfl (Or.inr rfl) (VJ B8 hr.mo (by rfl) (a_ (o_ BV hr.mo (by rfl) (a_ (pv 3) e_)) e_)))
    (c_ (U5 (Y_ PassesOwn.never rfl (M_ (by rfl) T.range (a_ (o_ fS hr.mo (by rfl) (a_ (pv 2) (a_ f_ e_))) e_)) (q_ (i:=7) nd rfl (Or.inl rfl))
     (c_ (C_ (vS cl B0 hr.mo (pv 6) (a_ (o_ fS hr.mo (by rfl) (a_ (pv 2) (a_ (dC T.len (by rfl) (bX (pv 3) f_)) e_))) (a_ (p_ fF (o_ fS hr.mo (by rfl) (a_ (pv 2) (a_ f_ e_))) f_) e_))))
     (h_ (Z_ (v_ iS (pv 7) f_ (bO _)) (h_ (C_ (lf cl B7 hr.mo (pv 6)))) w_)))))
    (c_ (k_ (i:=8) nd rfl (Or.inl rfl) (o_ wD hr.mo (by rfl) (a_ (pv 6) e_)))
    (c_ (Z_ (PW.pt (gL (d9 (dP (o_ BZ hr (by rfl) (a_ (pv 2) (a_ (pv 6) (a_ (pv 3) e_)))))) (ig (v_ (tM P w rfl rfl hr.units) (o_ wD hr.mo (by rfl) (a_ (pv 6) e_)) (pv 8) (bO _))))) (h_ (n_ fV)) w_)
    (c_ (Z_ (v_ (tM P w rfl rfl hr.units) (iW (g_ kH) ["script","at","store","frame","bad","kept","keeper","turn","early"] ["keeper"] [6] rfl (M_ (by rfl) T.range (a_ (p_ K_ (cg (pv 8) f_) f_) e_)) (λcl C s H fp=>fZ) (λcl C s H fp=>(o_ lu hr.mo (by rfl) (a_ (pv 1) (a_ f_ (a_ f_ (a_ f_ e_)))))) (by decide +kernel)) (p_ io (p_ sV (A_ (a_ D_ e_)) (cg (pv 8) f_)) (A_ (a_ D_ (a_ D_ e_)))) (bO _)) (h_ (n_ fV)) w_)
    (c_ (Z_ (PW.pt (gL (v_ (tM P w rfl rfl hr.units) (lf cl nD hr.mo (pv 6)) (pv 3) (bO _)) (ig (v_ lM (lf cl iH hr.mo (pv 6)) f_ (bO _))))) (h_ (n_ fV)) w_)
    (h_ (Z_ (PW.pt (gL (v_ lM (o_ lu hr.mo (by rfl) (a_ (pv 6) (a_ f_ (a_ f_ (a_ f_ e_))))) D_ (bO _)) (gL (v_ lM (o_ lu hr.mo (by rfl) (a_ (pv 6) (a_ f_ (a_ f_ (a_ f_ e_))))) D_ (bO _)) (ig (v_ (tM P w rfl rfl hr.units) (lf cl nD hr.mo (pv 6)) (pv 3) (bO _)))))) (h_ (n_ fV)) w_))))))))))))))
   (h_ (n_ fV))),?_⟩
  refine⟨_,rfl,a0,_,rfl,.inl hS,_,_,rfl,_,_,rfl,?_⟩
  generalize hM:(if (8:Int)<(if (3:Int)>(((ns.map V.int).length:Nat):Int) then 3 else (((ns.map V.int).length:Nat):Int)) then (8:Int) else (if (3:Int)>(((ns.map V.int).length:Nat):Int) then 3 else (((ns.map V.int).length:Nat):Int)))=M
  have m1:3<=M/\M<=8:=by
   rw[<-hM]
   split <;> (split <;> lia)
  refine⟨_,rfl,by lia,by lia,iR (n:=M.toNat) (λi σ H2=>∃v1 v2 v3 v4 v5 v6 v7 v8,σ=[some (.ref a0),v1,v2,v3,v4,v5,v6,v7,v8]/\ag H H2) ⟨none,none,none,none,none,none,none,none,rfl,ag.refl _⟩ ?_ ?_⟩
  ·rintro i σ H2 hi ⟨v1,v2,v3,v4,v5,v6,v7,v8,rfl,s2⟩
   have ez:(0:Int)+(i:Int)=(i:Int):=a1t _
   rw[ez]
   refine⟨_,rfl,_,rfl,a0,ns,i,rfl,s2.seq hS,by lia,λXH=>⟨XH,rfl,λst H3 nq s3 E3=>?_⟩⟩
   have hq:H st=none:=s2.free nq
   have S3:=s2.trans s3
   refine⟨_,rfl,st,3,rfl,E3,by decide,by decide,λf a c0 b ps w0 H6 E6 k6 G6 nf na nc=>?_⟩
   have XI:f≠st:=E3.off nf
   have B9:a≠st:=E3.off na
   have B':c0≠st:=E3.off nc
   have S6:=iC S3 hq k6
   have ok:=G6.ok
   refine⟨_,rfl,_,rfl,st,f,a,c0,b,ps,w0,rfl,E6,G6,by simpa using XI,by simpa using B9,by simpa using B',λnB H7 E7 k7 p7=>?_⟩
   have G7:=G6.AC E6 B9 B' k7
   have S7:=iC S6 hq k7
   obtain⟨db,tb,gb,hb⟩:=p7
   have tb:=tb.keep uu
   have XJ:Sh db:=Z9 gb.wt (by decide)
   have rY:db.depth<=50:=Z9 gb.dp (by decide)
   have c3:=gb.shown (by decide)
   refine⟨_,rfl,_,db,rfl,tb,gb.sh,rY,c3,?_⟩
   refine⟨_,rfl,nB,db,rfl,tb,XJ,hb,λH8 s8=>⟨_,rfl,aX ⟨_,rfl,_,db,rfl,tb.keep s8,gb.sh,rY,c3,_,rfl,rfl,_,rfl,?_⟩⟩⟩
   rw[show(!decide (V.str db.shown=V.str db.shown))=false by simp]
   refine aX ⟨_,rfl,f,a,c0,b,ps,w0,rfl,G7.keep s8,λfh ah ch H9 s9 G9 ZN ZO nN A2=>?_⟩
   have E9:=(E7.keep s8).keep s9
   have F9:=(G7.keep s8).keep s9
   have S9:=(S7.trans s8).trans s9
   refine λkp dx nk BF aZ=>Xu G9 nk BF λsl x1 qU j4 mD KB XL XM=>?_
   have XO:=S9.trans j4
   have kN:=E9.keep j4
   have dG:H sl=none:=S9.free KB
   have XQ:fz C qU st kp dx sl f a c0 [x1] b ps ([]++[w0]) w0:=by
    have gx:=mD.each 0 x1 w0 rfl rfl
    exact⟨mD,⟨(E9.off nk).symm,(E9.off KB).symm,λy hy=>by
     rw[a0h.mp hy]
     exact⟨(kN.ne gx.tp (λ_ _ _ e=>by cases e)).symm,(E9.off XL).symm,(E9.off XM).symm⟩⟩,kN,F9.keep j4,B9,B',rfl⟩
   refine⟨fun σ H'=>∃v7 as ar ws,σ=[some (.ref a0),some (.int (i:Int)),some (.ref st),some (.ref f),some nB,some (.str db.shown),some (.ref kp),v7,v8]/\fz C H' st kp dx sl f a c0 as b ps (ar++[ws]) w0/\ar.length<=8/\ag H H',?_,?_⟩
   ·refine⟨_,rfl,st,5,rfl,kN,by decide,by decide,λr wx r0 r1 XR KC=>?_⟩
    have pN:=XQ.pM XR KC
    have Ca:=iC XO hq KC
    refine⟨_,rfl,by lia,by lia,iR (n:=r.toNat) (λj σ H'=>∃v7 as ar ws,σ=[some (.ref a0),some (.int (i:Int)),some (.ref st),some (.ref f),some nB,some (.str db.shown),some (.ref kp),v7,v8]/\fz C H' st kp dx sl f a c0 as b ps (ar++[ws]) w0/\ar.length<=j/\ag H H') ⟨v7,[x1],[],w0,rfl,pN,Z0 _,Ca⟩ ?_ ?_⟩
    ·rintro j σ BM hj ⟨v7,as,ar,ws,rfl,W,hn,Cb⟩
     have hw:ws.length=ps.sum:=by obtain⟨_,_,_,_,g,_⟩:=W.K.last;exact g.ok.wl
     have hs:=ok.sum
     refine⟨_,rfl,kp,dx,_,rfl,W.K.ob,gD (by decide +kernel),_,rfl,_,rfl,tN W.G.tp rfl ⟨c0,_,rfl,.inl (af.of W.G.hw),?_⟩⟩
     rw[ZW,W.G.ok.wl]
     refine⟨st,(ps.sum:Int),rfl,W.S,by lia,by lia,λp XS p0 p1 wF pO=>?_⟩
     have wG:=W.pM wF pO
     refine⟨_,rfl,st,19,rfl,wF,by decide,by decide,λq XT q0 q1 XU KD=>⟨_,_,rfl,rfl,?_⟩⟩
     have wH:=wG.pM XU KD
     obtain⟨p',rfl⟩:=Int.eq_ofNat_of_zero_le p0
     refine⟨kp,dx,sl,as,b,ps,ar,ws,p',q-9,rfl,wH.K,by lia,by lia,by lia,by lia,λt x rZ _ _ n1 n2 n3 XV KF=>?_⟩
     have gi:=wH.weigh KF n1 n2 n3 XV
     have nE:ag H rZ:=iC (iC (iC Cb hq pO) hq KD) dG KF
     refine⟨_,rfl,rfl,_,rfl,jB (λh2=>?_) (λh2=>?_)⟩
     ·refine⟨_,rfl,kp,dx,_,rfl,gi.K.ob,gD (by decide +kernel),kp,dx,sl,as,x,b,ps,ar,ws,_,rfl,gi.K,by lia,λt2 r9 _ _ Cc pP=>?_⟩
      exact⟨_,as,ar,ws,rfl,gi.BQ pP Cc,by lia,iC nE dG pP⟩
     ·exact⟨_,as++[x],ar++[ws],_,rfl,gi,by simp;lia,nE⟩
    ·rintro σ BM ⟨v7,as,ar,ws,rfl,W,hn,Cb⟩
     exact⟨_,as,ar,ws,rfl,W,by lia,Cb⟩
   ·rintro σ wx ⟨v7,as,ar,ws,rfl,pN,hn,Ca⟩
    refine⟨_,rfl,kp,dx,sl,as,b,ps,ar,ws,rfl,pN.K,λl1 f1 a1 c1 v1 BM gy XX XY XZ=>?_⟩
    have pQ:=pN.keep gy
    have X0:a1≠st:=pN.S.off XX
    have X1:c1≠st:=pN.S.off XY
    refine⟨_,rfl,_,rfl,_,rfl,st,kp,dx,sl,f,a,c0,as,b,ps,ar,ws,w0,rfl,pQ.S,pQ.K,pQ.O,pQ.G,λXS wF pO=>⟨_,rfl,aX ?_⟩⟩
    have wG:=pQ.pM wF pO
    have KG:=XZ.pM pQ.S pO X0 X1
    have pf:=iC (Ca.trans gy) hq pO
    refine⟨_,rfl,kp,dx,sl,as,b,ps,ar,ws,rfl,wG.K,λl2 f2 a2 c2 v2 XT wJ _ _ X2=>⟨_,rfl,Xv X2 (KG.keep wJ) ⟨_,rfl,aX ?_⟩⟩⟩
    have wH:=wG.keep wJ
    have D:=KG.keep wJ
    have X3:=pf.trans wJ
    refine⟨_,rfl,_,_,_,_,rfl,rfl,af.of D.ls,rfl,_,_,rfl,rfl,_,rfl,by lia,by lia,qo (lo:=0) (n:=((ar.length:Int)+2).toNat) (λj ys H'=>∃nF nG,fz C H' st kp dx sl f a c0 nF b ps nG w0/\nG.length=ar.length+1-min j ar.length/\gH H' l1 f1 a1 c1 b ps ws ar.length v1/\ag H H'/\ys=(fA ar.length j).map V.str) ⟨as,ar++[ws],wH,by simp,D,X3,by simp[fA]⟩ ?_ ?_⟩
    ·rintro j ys rZ hj ⟨nF,nG,gi,cT,wK,nE,rfl⟩
     have HU:j<ar.length+2:=by lia
     refine⟨cq (by simp[fA];lia),?_⟩
     by_cases hc:j<ar.length
     ·obtain⟨i1,wz,rfl⟩:=wC (l:=nG) (by lia)
      obtain⟨i0,wy,rfl⟩:=wC (l:=i1) (by simp at cT;lia)
      obtain⟨ai,x,rfl,_,_,_⟩:=gi.K.last
      refine⟨_,rfl,Ky (E:=L2.E0) gi.K (by simp at cT;lia) λr9 Cc pP=>?_⟩
      have X4:=pP.cE gi.K.ls (BO _ _)
      refine⟨ai,i0++[wy],gi.BQ pP Cc,by simp at cT⊢;lia,wK.cE X4,iC nE dG pP,?_⟩
      rw[Xw hc,a0p]
      rfl
     ·obtain⟨i1,wz,rfl⟩:=wC (l:=nG) (by lia)
      have e1:i1=[]:=a1k (by simp at cT;lia)
      subst e1
      refine⟨_,rfl,XD (E:=L2.E0) gi.K λr9 Cd=>?_⟩
      refine⟨nF,[wz],gi.keep Cd,by simp at cT⊢;lia,wK.keep Cd,nE.trans Cd,?_⟩
      rw[Xx (by lia),a0p]
      rfl
    ·rintro ys rZ ⟨nF,nG,gi,cT,wK,nE,rfl⟩ t ht
     have hN:((ar.length:Int)+2).toNat=ar.length+2:=by lia
     rw[hN] at cT⊢
     have wL:=b_ (o:=.lst ((fA ar.length (ar.length+2)).map V.str)) ht
     have KH:(upd rZ t (.lst ((fA ar.length (ar.length+2)).map V.str))) t=_:=d_
     generalize upd rZ t (.lst ((fA ar.length (ar.length+2)).map V.str))=r9 at wL KH⊢
     obtain⟨i1,wz,rfl⟩:=wC (l:=nG) (by lia)
     have e1:i1=[]:=a1k (by rw[a0j,a0W] at cT;lia)
     subst e1
     have ew:wz=w0:=by have:=gi.h0;simpa using this
     subst ew
     refine⟨sz (by simp),λm1 gS=>?_⟩
     have Ce:=b_ (o:=.lst [V.str ""]) gS
     have KI:(upd r9 m1 (.lst [V.str ""])) m1=_:=d_
     generalize upd r9 m1 (.lst [V.str ""])=KJ at Ce KI⊢
     have X5:=wL.trans Ce
     refine⟨_,rfl,_,_,_,_,rfl,rfl,af.of (wK.keep X5).ls,rfl,m1,_,_,rfl,rfl,KI,by lia,by lia,cq (by simp;lia) |> a1O,λm2 dB=>?_⟩
     have KK:=b_ (o:=.lst (List.replicate (ar.length:Int).toNat [V.str ""]).flatten) dB
     have KL:(upd KJ m2 (.lst (List.replicate (ar.length:Int).toNat [V.str ""]).flatten)) m2=_:=d_
     generalize upd KJ m2 (.lst (List.replicate (ar.length:Int).toNat [V.str ""]).flatten)=KM at KK KL⊢
     refine⟨sz (by simp),λm3 Br=>?_⟩
     have Cf:=b_ (o:=.lst [V.str "number",V.str "number"]) Br
     have KN:(upd KM m3 (.lst [V.str "number",V.str "number"])) m3=_:=d_
     generalize upd KM m3 (.lst [V.str "number",V.str "number"])=KO at Cf KN⊢
     refine⟨m2,m3,_,_,rfl,rfl,Cf _ _ KL,KN,cq (by simp;lia) |> a1O,λm4 X6=>?_⟩
     have KP:=b_ (o:=.lst ((List.replicate (ar.length:Int).toNat [V.str ""]).flatten++[V.str "number",V.str "number"])) X6
     have KQ:(upd KO m4 (.lst ((List.replicate (ar.length:Int).toNat [V.str ""]).flatten++[V.str "number",V.str "number"]))) m4=some (.lst ((fA ar.length (ar.length+2)).map V.str)):=by rw[Xy];exact d_
     generalize upd KO m4 (.lst ((List.replicate (ar.length:Int).toNat [V.str ""]).flatten++[V.str "number",V.str "number"]))=ZP at KP KQ⊢
     have Cg:=((Ce.trans KK).trans Cf).trans KP
     have wM:=gi.keep (wL.trans Cg)
     have X7:=nE.trans (wL.trans Cg)
     refine L2.tF (kB (Cg _ _ KH) (BR _)) (kB KQ (BR _)) (Xz λx hx=>XC hx) (XB _) ⟨_,rfl,aX ?_⟩
     refine⟨_,rfl,kp,dx,_,rfl,wM.K.ob,gD (by decide +kernel),kp,dx,sl,nF,b,ps,[],wz,rfl,wM.K,λf3 a3 c3 ZQ Ch X8 _ _ _=>⟨_,rfl,L2.tF X8.dat (wM.G.keep Ch).dat (Az _ _ _) (AA _ _ _) ⟨_,rfl,aX ?_⟩⟩⟩
     have wN:=wM.keep Ch
     have X9:=X7.trans Ch
     refine⟨_,rfl,kp,dx,_,rfl,wN.K.ob,gD (by decide +kernel),kp,dx,sl,nF,b,ps,_,rfl,wN.K,rfl,_,rfl,?_⟩
     rw[show(!decide (V.int ((((([]:List (List Int))++[wz]).length:Nat):Int)-1)=V.int 0))=false from rfl]
     have h0:0<wz.length:=by have:=ok.wl;have:=ok.sum;lia
     refine aX ⟨_,rfl,XE (E:=L2.E0) wN.K (by simp) h0 λx ZR n1 n2 n3 Ya KR=>⟨rfl,_,rfl,aX ?_⟩⟩
     have KU:=wN.weigh KR n1 n2 n3 Ya
     have Yb:=iC X9 dG KR
     refine⟨_,rfl,Ky (E:=L2.E0) KU.K (by simp) λZS Yc KW=>⟨rfl,_,rfl,aX ?_⟩⟩
     have Ci:=KU.BQ KW Yc
     have Yd:=iC Yb dG KW
     refine⟨_,rfl,kp,dx,_,rfl,Ci.K.ob,gD (by decide +kernel),kp,dx,sl,nF,b,ps,[],wz,rfl,Ci.K,λf4 a4 c4 ZT KY Ye _ _ _=>⟨_,rfl,L2.tF Ye.dat (Ci.G.keep KY).dat (Az _ _ _) (AA _ _ _) ⟨_,rfl,aX ?_⟩⟩⟩
     exact⟨_,_,_,_,_,_,_,_,rfl,Yd.trans KY⟩
  ·rintro σ H2 ⟨v1,v2,v3,v4,v5,v6,v7,v8,rfl,s2⟩
   exact k _
end
structure bn(K:PySem.W.Frag)(x:Str)(st:Stmt):Prop where
 ex:∃(f:Addr) (oc:Value) (od an:Option Addr) (cH:Array (Option Value)) (kV bq pm ae ct:Value),PySem.W.nsIn K mainGlobals x=some (some (.ref f))/\
  K.lookup f=some ⟨oc,od,.func (PySem.W.fnOf x x (fL st) (z_ st) (g_ st) .none kV bq pm an ae ct),cH⟩/\PySem.W.codeIn K ae x=true/\PySem.W.keepIn K (.ref f)=true
theorem Yf{K:PySem.W.Frag}{x:Str}{st:Stmt}{f:Addr}{oc:Value}{od an:Option Addr}{cH:Array (Option Value)}{kV bq pm ae ct:Value}(a:PySem.W.nsIn K mainGlobals x=some (some (.ref f)))
  (l:K.lookup f=some ⟨oc,od,.func (PySem.W.fnOf x x (fL st) (z_ st) (g_ st) .none kV bq pm an ae ct),cH⟩) (c:PySem.W.codeIn K ae x=true) (k:PySem.W.keepIn K (.ref f)=true):bn K x st:=⟨f,oc,od,an,cH,kV,bq,pm,ae,ct,a,l,c,k⟩
structure Cj(K:PySem.W.Frag):Prop where
 eI:PySem.W.nsIn K mainGlobals "isinstance"=some none
 int:PySem.W.nsIn K mainGlobals "int"=some none
 bool:PySem.W.nsIn K mainGlobals "bool"=some none
 list:PySem.W.nsIn K mainGlobals "list"=some none
 tuple:PySem.W.nsIn K mainGlobals "tuple"=some none
 all:PySem.W.nsIn K mainGlobals "all"=some none
 len:PySem.W.nsIn K mainGlobals "len"=some none
 sum:PySem.W.nsIn K mainGlobals "sum"=some none
 range:PySem.W.nsIn K mainGlobals "range"=some none
 max:PySem.W.nsIn K mainGlobals "max"=some none
 min:PySem.W.nsIn K mainGlobals "min"=some none
 rev:PySem.W.nsIn K mainGlobals "reversed"=some none
 zip:PySem.W.nsIn K mainGlobals "zip"=some none
 enum:PySem.W.nsIn K mainGlobals "enumerate"=some none
theorem Yg{p:List Value->Prop}(h:p [])(us:List Value)(hl:us.length=0):p us:=by rw[a1k hl];exact h
theorem sd{n:Nat}{p:List Value->Prop}(h:∀a r,r.length=n->p (a::r))(us:List Value)(hl:us.length=n+1):p us:=by
 cases us with
 | nil=>cases hl
 | cons a r=>exact h a r (Nat.succ.inj hl)
theorem de{p:List Value->Prop}(h:∀a,p [a]):∀us:List Value,us.length=1->p us:=sd λa=>Yg (p:=λr=>p (a::r)) (h a)
theorem cI{p:List Value->Prop}(h:∀a b,p [a,b]):∀us:List Value,us.length=2->p us:=sd λa=>de (p:=λr=>p (a::r)) (h a)
theorem fB{p:List Value->Prop}(h:∀a b c,p [a,b,c]):∀us:List Value,us.length=3->p us:=sd λa=>cI (p:=λr=>p (a::r)) (h a)
theorem wO{p:List Value->Prop}(h:∀a b c d,p [a,b,c,d]):∀us:List Value,us.length=4->p us:=sd λa=>fB (p:=λr=>p (a::r)) (h a)
theorem KZ{p:List Value->Prop}(h:∀a b c d e,p [a,b,c,d,e]):∀us:List Value,us.length=5->p us:=sd λa=>wO (p:=λr=>p (a::r)) (h a)
section
variable{P:Program}{w:World}{K:PySem.W.Frag}{mg:Str->Option Value}{base h:Heap}
theorem Cj.txt(T:Cj K)(X:K.In h)(G:h.Ns mainGlobals mg):Txt mg :=
 have e:∀x,PySem.W.nsIn K mainGlobals x=some none->mg x=none:=λx z=>a1K X G z
 ⟨e _ T.eI,e _ T.int,e _ T.bool,e _ T.list,e _ T.tuple,e _ T.all,e _ T.len,e _ T.sum,e _ T.range,e _ T.max,e _ T.min,e _ T.rev,e _ T.zip,e _ T.enum⟩
theorem s_{x:Str}{st:Stmt}{k:Nat}{ps:List Str}{sp:Sp}(D:bn K x st)(X:K.In h)(G:h.Ns mainGlobals mg)(ok:∀f fd,aG K x x st f fd->ax P w K mg base aK k f fd ps sp)
  (hb:∀(kV bq pm:Value) (an:Option Addr) (ae ct:Value) (us:List Value),us.length=ps.length->bindArgs (PySem.W.fnOf x x (fL st) (z_ st) (g_ st) .none kV bq pm an ae ct) ⟨us,[]⟩=pure (ps.zip us)):ak P w K mg base k x ps sp:=by
 obtain⟨f,oc,od,an,cH,kV,bq,pm,ae,ct,a,l,c,kp⟩:=D.ex
 have F:=lX (st:=st) l c kp
 exact⟨f,_,ok _ _ F,a0D X G a,kp,F.binds hb⟩
end
theorem nH{P:Program}{w:World}{K:PySem.W.Frag}{mg:Str->Option Value}{base h:Heap}{x:Str}{st:Stmt}{k:Nat}{ps:List Str}{sp:Sp}(D:bn K x st)(X:K.In h)(G:h.Ns mainGlobals mg)(ok:∀f fd,aG K x x st f fd->ax P w K mg base (bB P w) k f fd ps sp)
  (hb:∀(kV bq pm:Value) (an:Option Addr) (ae ct:Value) (us:List Value),us.length=ps.length->bindArgs (PySem.W.fnOf x x (fL st) (z_ st) (g_ st) .none kV bq pm an ae ct) ⟨us,[]⟩=pure (ps.zip us)):fx P w K mg base k x ps sp:=by
 obtain⟨f,oc,od,an,cH,kV,bq,pm,ae,ct,a,l,c,kp⟩:=D.ex
 have F:=lX (st:=st) l c kp
 exact⟨f,_,ok _ _ F,a0D X G a,kp,F.binds hb⟩
structure hZ(K:PySem.W.Frag)(C:Addr)(m qual:Str)(st:Stmt):Prop where
 ex:∃(f:Addr) (oc:Value) (od an:Option Addr) (cH:Array (Option Value)) (kV bq pm ae ct:Value),PySem.W.findIn K (.ref C) m=some (some (.ref f))/\PySem.W.isFn K (.ref f)=true/\
  K.lookup f=some ⟨oc,od,.func (PySem.W.fnOf m qual (fL st) (z_ st) (g_ st) .none kV bq pm an ae ct),cH⟩/\PySem.W.codeIn K ae qual=true/\PySem.W.keepIn K (.ref f)=true
theorem nI{K:PySem.W.Frag}{C:Addr}{m qual:Str}{st:Stmt}{f:Addr}{oc:Value}{od an:Option Addr}{cH:Array (Option Value)}{kV bq pm ae ct:Value}(a:PySem.W.findIn K (.ref C) m=some (some (.ref f)))(i:PySem.W.isFn K (.ref f)=true)
  (l:K.lookup f=some ⟨oc,od,.func (PySem.W.fnOf m qual (fL st) (z_ st) (g_ st) .none kV bq pm an ae ct),cH⟩) (c:PySem.W.codeIn K ae qual=true) (k:PySem.W.keepIn K (.ref f)=true):hZ K C m qual st:=⟨f,oc,od,an,cH,kV,bq,pm,ae,ct,a,i,l,c,k⟩
section
variable{P:Program}{w:World}{K:PySem.W.Frag}{mg:Str->Option Value}{base:Heap}
theorem pR{C:Addr}{m qual:Str}{st:Stmt}{k:Nat}{ps:List Str}{sp:Sp}(D:hZ K C m qual st)(ok:∀f fd,aG K m qual st f fd->ax P w K mg base aK k f fd ps sp)
  (hb:∀(kV bq pm:Value) (an:Option Addr) (ae ct:Value) (us:List Value),us.length=ps.length->bindArgs (PySem.W.fnOf m qual (fL st) (z_ st) (g_ st) .none kV bq pm an ae ct) ⟨us,[]⟩=pure (ps.zip us)):dN P w K mg base k C m ps sp:=by
 obtain⟨f,oc,od,an,cH,kV,bq,pm,ae,ct,a,i,l,c,kp⟩:=D.ex
 have F:=lX (st:=st) l c kp
 exact⟨f,_,ok _ _ F,⟨a,i,kp⟩,F.binds hb⟩
theorem Yh{C:Addr}{x qual:Str}{st:Stmt}{k:Nat}{ps:List Str}{sp:Sp}(D:hZ K C "__init__" qual st)(mk:PySem.W.makesIn K C=true)(kc:PySem.W.keepIn K (.ref C)=true)(hx:mg x=some (.ref C))(ok:∀f fd,aG K "__init__" qual st f fd->ax P w K mg base aK k f fd ps sp)
  (hb:∀(kV bq pm:Value) (an:Option Addr) (ae ct:Value) (us:List Value),us.length=ps.length->bindArgs (PySem.W.fnOf "__init__" qual (fL st) (z_ st) (g_ st) .none kV bq pm an ae ct) ⟨us,[]⟩=pure (ps.zip us)):vR P w K mg base k x C ps sp:=by
 obtain⟨f,oc,od,an,cH,kV,bq,pm,ae,ct,a,i,l,c,kp⟩:=D.ex
 have F:=lX (st:=st) l c kp
 exact⟨f,_,ok _ _ F,⟨mk,a,i,kc⟩,hx,F.binds hb⟩
theorem wP{C:Addr}{m qual:Str}{st:Stmt}{k:Nat}{ps:List Str}{sp:Sp}(D:hZ K C m qual st)(ok:∀f fd,aG K m qual st f fd->ax P w K mg base (bB P w) k f fd ps sp)
  (hb:∀(kV bq pm:Value) (an:Option Addr) (ae ct:Value) (us:List Value),us.length=ps.length->bindArgs (PySem.W.fnOf m qual (fL st) (z_ st) (g_ st) .none kV bq pm an ae ct) ⟨us,[]⟩=pure (ps.zip us)):iL P w K mg base k C m ps sp:=by
 obtain⟨f,oc,od,an,cH,kV,bq,pm,ae,ct,a,i,l,c,kp⟩:=D.ex
 have F:=lX (st:=st) l c kp
 exact⟨f,_,ok _ _ F,⟨a,i,kp⟩,F.binds hb⟩
theorem Yi{C:Addr}{x qual:Str}{st:Stmt}{k:Nat}{ps:List Str}{sp:Sp}(D:hZ K C "__init__" qual st)(mk:PySem.W.makesIn K C=true)(kc:PySem.W.keepIn K (.ref C)=true)(hx:mg x=some (.ref C))(ok:∀f fd,aG K "__init__" qual st f fd->ax P w K mg base (bB P w) k f fd ps sp)
  (hb:∀(kV bq pm:Value) (an:Option Addr) (ae ct:Value) (us:List Value),us.length=ps.length->bindArgs (PySem.W.fnOf "__init__" qual (fL st) (z_ st) (g_ st) .none kV bq pm an ae ct) ⟨us,[]⟩=pure (ps.zip us)):wf P w K mg base k x C ps sp:=by
 obtain⟨f,oc,od,an,cH,kV,bq,pm,ae,ct,a,i,l,c,kp⟩:=D.ex
 have F:=lX (st:=st) l c kp
 exact⟨f,_,ok _ _ F,⟨mk,a,i,kc⟩,hx,F.binds hb⟩
end
theorem Yj{l:PySem.W.OpenLaw}{w:World}{K:PySem.W.Frag}{h:Heap}{mg:Str->Option Value}{fa:Addr}(X:K.In h)(G:h.Ns mainGlobals mg)(Yk:mg "law"=some (.ref fa))(TI:Cj K)
  (i0:bn K "is_whole" yk)
  (i1:bn K "is_between" yl)
  (i2:bn K "is_list_between" tQ)
  (i3:bn K "is_frame" ym)
  (i4:bn K "need_frame" tR)
  (i5:bn K "how_many" yn)
  (i6:bn K "need_number" yo)
  (i7:bn K "cut_by_parts" yp)
  (i8:bn K "figures_of" yq)
  (i9:bn K "with_one_more_figure" yr)
  (K0:bn K "ways_of_weights" tS)
  (La:bn K "ways_of_parts" tU)
  (mQ:bn K "ways_with" yt)
  (mR:bn K "even_by_sums" yu)
  (Lb:bn K "count_even" yv)
  (Lc:bn K "weighted_sum" qB)
  (Ld:bn K "number_of" yy)
  (Lf:bn K "part_beginnings" tY)
  (Lg:bn K "stretches_below" tX)
  (Ck:bn K "need_miss" tV)
  (Lh:bn K "running_counts" yw)
  (Li:bn K "ways_within" yx)
  (Lj:bn K "count_spread_within" ot)
  (mS:bn K "tails_of_part" t8)
  (Lk:bn K "tails_of_parts" ua)
  (Ll:bn K "ways_from_beginnings" yz)
  (Lm:bn K "count_begun" yA)
  (Ln:bn K "count_below" qC)
  (Cl:bn K "count_near" tW)
  (Lo:bn K "figure_and_rest" yB)
  (Lp:bn K "number_at" yC)
  (Cm:bn K "need_place" tZ)
  (wQ:bn K "near_by" uc)
  (Cn:bn K "even_by" ub)
  (Lq:bn K "copy_of" yD)
  (Co:bn K "with_weight" ud)
  (Lr:bn K "_law_cell" yE)
  (Ls:bn K "_law_store" yF)
  (Lu:bn K "_law_take" yG)
  (Lv:bn K "_law_frame" ue)
  (Lw:bn K "_law_kind" kF)
  (Lx:bn K "_law_no_frame" kG)
  (Ly:bn K "_law_word" ou)
  (Lz:bn K "_law_no_keeper" yI)
  (LA:bn K "_law_stand" yJ)
  (LB:bn K "_law_all_refused" B_)
  (LC:bn K "_law_copy" yH)
  {C:Addr} (aC:PySem.W.nsIn K mainGlobals "Keeper"=some (some (.ref C))) (Cq:PySem.W.plainGet K C Str.empty=true) (Cr:PySem.W.hasDictIn K C=true) (Cs:PySem.W.plainOver K C=true) (Ct:PySem.W.findIn K (.ref C) "__setattr__"=some (some (.builtin "object.__setattr__"))) (wR:PySem.W.makesIn K C=true) (kC:PySem.W.keepIn K (.ref C)=true) (nS:PySem.W.findIn K (.ref C) "standing"=some none)
  (wS:hZ K C "__init__" "Keeper.__init__" uf)
  (Cu:hZ K C "changes" "Keeper.changes" yL)
  (Cv:hZ K C "frame" "Keeper.frame" yK)
  (wT:hZ K C "near" "Keeper.near" ui)
  (wU:hZ K C "even" "Keeper.even" uj)
  (wV:hZ K C "weigh" "Keeper.weigh" ug)
  (wW:hZ K C "undo" "Keeper.undo" uh)
  {cB c0 c1 c2 c3 c4 c5 c6 c7 c8 c9:Addr} (eB:PySem.W.nsIn K mainGlobals "HalfError"=some (some (.ref cB)))
  (e0:PySem.W.nsIn K mainGlobals "NoFrame"=some (some (.ref c0)))
  (e1:PySem.W.nsIn K mainGlobals "NoNumber"=some (some (.ref c1)))
  (e2:PySem.W.nsIn K mainGlobals "NoPart"=some (some (.ref c2)))
  (e3:PySem.W.nsIn K mainGlobals "NoSum"=some (some (.ref c3)))
  (e4:PySem.W.nsIn K mainGlobals "NoMiss"=some (some (.ref c4)))
  (e5:PySem.W.nsIn K mainGlobals "NoEven"=some (some (.ref c5)))
  (e6:PySem.W.nsIn K mainGlobals "NoFrames"=some (some (.ref c6)))
  (e7:PySem.W.nsIn K mainGlobals "NoText"=some (some (.ref c7)))
  (e8:PySem.W.nsIn K mainGlobals "NoName"=some (some (.ref c8)))
  (e9:PySem.W.nsIn K mainGlobals "NoRow"=some (some (.ref c9)))
  (tB:PySem.W.typeIn K (.ref cB)=some (.type "type")) (mB:PySem.W.mroIn K cB (.type "BaseException")=some true)
  (q0:PySem.W.excIn K c0 [.type "ValueError",.type "Exception",.type "BaseException",.type "object"] "ValueError.__new__"=true) (m0:PySem.W.mroIn K c0 (.ref cB)=some true) (l0:iK K c0) (v0:PySem.W.kitOne K (.ref c0) (.type "ValueError")=some true)
  (Cw:PySem.W.kitOne K (.ref c0) (.ref c0)=some true)
  (Cy:PySem.W.kitOne K (.ref c0) (.ref c1)=some false)
  (Cz:PySem.W.kitOne K (.ref c0) (.ref c2)=some false)
  (CA:PySem.W.kitOne K (.ref c0) (.ref c3)=some false)
  (CB:PySem.W.kitOne K (.ref c0) (.ref c4)=some false)
  (CC:PySem.W.kitOne K (.ref c0) (.ref c5)=some false)
  (CD:PySem.W.kitOne K (.ref c0) (.ref c6)=some false)
  (CF:PySem.W.kitOne K (.ref c0) (.ref c7)=some false)
  (CG:PySem.W.kitOne K (.ref c0) (.ref c8)=some false)
  (CH:PySem.W.kitOne K (.ref c0) (.ref c9)=some false)
  (q1:PySem.W.excIn K c1 [.type "ValueError",.type "Exception",.type "BaseException",.type "object"] "ValueError.__new__"=true) (m1:PySem.W.mroIn K c1 (.ref cB)=some true) (l1:iK K c1) (v1:PySem.W.kitOne K (.ref c1) (.type "ValueError")=some true)
  (CI:PySem.W.kitOne K (.ref c1) (.ref c0)=some false)
  (CJ:PySem.W.kitOne K (.ref c1) (.ref c1)=some true)
  (CL:PySem.W.kitOne K (.ref c1) (.ref c2)=some false)
  (CO:PySem.W.kitOne K (.ref c1) (.ref c3)=some false)
  (CP:PySem.W.kitOne K (.ref c1) (.ref c4)=some false)
  (CQ:PySem.W.kitOne K (.ref c1) (.ref c5)=some false)
  (CS:PySem.W.kitOne K (.ref c1) (.ref c6)=some false)
  (CT:PySem.W.kitOne K (.ref c1) (.ref c7)=some false)
  (CU:PySem.W.kitOne K (.ref c1) (.ref c8)=some false)
  (CV:PySem.W.kitOne K (.ref c1) (.ref c9)=some false)
  (q2:PySem.W.excIn K c2 [.type "ValueError",.type "Exception",.type "BaseException",.type "object"] "ValueError.__new__"=true) (m2:PySem.W.mroIn K c2 (.ref cB)=some true) (l2:iK K c2) (v2:PySem.W.kitOne K (.ref c2) (.type "ValueError")=some true)
  (CW:PySem.W.kitOne K (.ref c2) (.ref c0)=some false)
  (CY:PySem.W.kitOne K (.ref c2) (.ref c1)=some false)
  (CZ:PySem.W.kitOne K (.ref c2) (.ref c2)=some true)
  (C1:PySem.W.kitOne K (.ref c2) (.ref c3)=some false)
  (C2:PySem.W.kitOne K (.ref c2) (.ref c4)=some false)
  (C3:PySem.W.kitOne K (.ref c2) (.ref c5)=some false)
  (C4:PySem.W.kitOne K (.ref c2) (.ref c6)=some false)
  (C5:PySem.W.kitOne K (.ref c2) (.ref c7)=some false)
  (C6:PySem.W.kitOne K (.ref c2) (.ref c8)=some false)
  (C7:PySem.W.kitOne K (.ref c2) (.ref c9)=some false)
  (q4:PySem.W.excIn K c4 [.type "ValueError",.type "Exception",.type "BaseException",.type "object"] "ValueError.__new__"=true) (m4:PySem.W.mroIn K c4 (.ref cB)=some true) (l4:iK K c4) (v4:PySem.W.kitOne K (.ref c4) (.type "ValueError")=some true)
  (C8:PySem.W.kitOne K (.ref c4) (.ref c0)=some false)
  (C9:PySem.W.kitOne K (.ref c4) (.ref c1)=some false)
  (Da:PySem.W.kitOne K (.ref c4) (.ref c2)=some false)
  (Db:PySem.W.kitOne K (.ref c4) (.ref c3)=some false)
  (Dc:PySem.W.kitOne K (.ref c4) (.ref c4)=some true)
  (Dd:PySem.W.kitOne K (.ref c4) (.ref c5)=some false)
  (De:PySem.W.kitOne K (.ref c4) (.ref c6)=some false)
  (Df:PySem.W.kitOne K (.ref c4) (.ref c7)=some false)
  (Dg:PySem.W.kitOne K (.ref c4) (.ref c8)=some false)
  (Dh:PySem.W.kitOne K (.ref c4) (.ref c9)=some false)
  (mF:PySem.W.nsIn K mainGlobals "dict"=some none)
  (mG:PySem.W.nsIn K mainGlobals "sorted"=some none)
  (hW:PySem.W.nsIn K mainGlobals "repr"=some none)
  (se:PySem.W.nsIn K mainGlobals "ValueError"=some none)
  (jl:bn K "law" kH) :
  ∃fd:FuncData,(∀(s:Shared) (v:Value),BindsTo s fd ⟨[v],[]⟩ [("script",v)])/\∀base:Heap,K.In base->base.Ns mainGlobals mg->ax l.prog w K mg base aK 17 fa fd ["script"] (vC K):=by
 have T:=TI.txt X G
 obtain⟨f,oc,od,an,cH,kV,bq,pm,ae,ct,a,lk,c,kp⟩:=jl.ex
 have e:=Yk.symm.trans (a0D X G a)
 cases e
 have F:=lX (st:=kH) lk c kp
 refine⟨PySem.W.fnOf "law" "law" (fL kH) (z_ kH) (g_ kH) .none kV bq pm an ae ct,λs v=>.of_eq rfl,λbase BX _=>?_⟩
 have mF:mg "dict"=none:=a1K X G mF
 have mG:mg "sorted"=none:=a1K X G mG
 have hW:mg "repr"=none:=a1K X G hW
 have se:mg "ValueError"=none:=a1K X G se
 have en:J9 mg (cs [c0,c1,c2,c3,c4,c5,c6,c7,c8,c9]):=⟨a0D X G e0,a0D X G e1,a0D X G e2,a0D X G e3,a0D X G e4,a0D X G e5,a0D X G e6,a0D X G e7,a0D X G e8,a0D X G e9,se⟩
 have o0:=wc PySem.F.excBase_ValueError BX q0
 have u0:Up K c0 cB:=⟨m0,mB,tB⟩
 have y0:Kind K (cs [c0,c1,c2,c3,c4,c5,c6,c7,c8,c9]) c0 0:=⟨l0,by decide,λj hj=>match j,hj with | 0,_=>Cw | 1,_=>Cy | 2,_=>Cz | 3,_=>CA | 4,_=>CB | 5,_=>CC | 6,_=>CD | 7,_=>CF | 8,_=>CG | 9,_=>CH,v0⟩
 have o1:=wc PySem.F.excBase_ValueError BX q1
 have u1:Up K c1 cB:=⟨m1,mB,tB⟩
 have y1:Kind K (cs [c0,c1,c2,c3,c4,c5,c6,c7,c8,c9]) c1 1:=⟨l1,by decide,λj hj=>match j,hj with | 0,_=>CI | 1,_=>CJ | 2,_=>CL | 3,_=>CO | 4,_=>CP | 5,_=>CQ | 6,_=>CS | 7,_=>CT | 8,_=>CU | 9,_=>CV,v1⟩
 have o2:=wc PySem.F.excBase_ValueError BX q2
 have u2:Up K c2 cB:=⟨m2,mB,tB⟩
 have y2:Kind K (cs [c0,c1,c2,c3,c4,c5,c6,c7,c8,c9]) c2 2:=⟨l2,by decide,λj hj=>match j,hj with | 0,_=>CW | 1,_=>CY | 2,_=>CZ | 3,_=>C1 | 4,_=>C2 | 5,_=>C3 | 6,_=>C4 | 7,_=>C5 | 8,_=>C6 | 9,_=>C7,v2⟩
 have o4:=wc PySem.F.excBase_ValueError BX q4
 have u4:Up K c4 cB:=⟨m4,mB,tB⟩
 have y4:Kind K (cs [c0,c1,c2,c3,c4,c5,c6,c7,c8,c9]) c4 4:=⟨l4,by decide,λj hj=>match j,hj with | 0,_=>C8 | 1,_=>C9 | 2,_=>Da | 3,_=>Db | 4,_=>Dc | 5,_=>Dd | 6,_=>De | 7,_=>Df | 8,_=>Dg | 9,_=>Dh,v4⟩
 have cl:ck K C:=⟨Cq,Cr,Cs,Ct⟩
 have nJ:ak l.prog w K mg base 1 "is_whole" ["thing"] ma:=s_ i0 X G (λ_ _ F=>PQ F T) λ_ _ _ _ _ _=>de λ_=>rfl
 have jX:ak l.prog w K mg base 2 "is_between" ["thing","least","greatest"] me:=s_ i1 X G (λ_ _ F=>PV F nJ) λ_ _ _ _ _ _=>fB λ_ _ _=>rfl
 have Yl:ak l.prog w K mg base 3 "is_list_between" ["thing","least","greatest"] y7:=s_ i2 X G (λ_ _ F=>PZ F T jX) λ_ _ _ _ _ _=>fB λ_ _ _=>rfl
 have d_is_frame:ak l.prog w K mg base 4 "is_frame" ["thing"] uv:=s_ i3 X G (λ_ _ F=>P6 F T jX Yl) λ_ _ _ _ _ _=>de λ_=>rfl
 have gE:ak l.prog w K mg base 5 "need_frame" ["thing"] G_:=s_ i4 X G (λ_ _ F=>FZ F (d_is_frame.less Kd)) λ_ _ _ _ _ _=>de λ_=>rfl
 have Ym:fx l.prog w K mg base 5 "need_frame" ["thing"] (dc G_ (Bt c0)):=nH i4 X G (λ_ _ F=>(FZ F (d_is_frame.less Kd)).up.or (WB F d_is_frame o0 en.n0)) λ_ _ _ _ _ _=>de λ_=>rfl
 have Di:ak l.prog w K mg base 6 "how_many" ["frame"] qA:=s_ i5 X G (λ_ _ F=>Qf F T gE) λ_ _ _ _ _ _=>de λ_=>rfl
 have Yn:ak l.prog w K mg base 7 "need_number" ["frame","thing"] yi:=s_ i6 X G (λ_ _ F=>Qh F jX Di) λ_ _ _ _ _ _=>cI λ_ _=>rfl
 have Dj:ak l.prog w K mg base 1 "cut_by_parts" ["frame","row"] qK:=s_ i7 X G (λ_ _ F=>Qk F) λ_ _ _ _ _ _=>cI λ_ _=>rfl
 have Yo:ak l.prog w K mg base 8 "figures_of" ["frame","n"] yj:=s_ i8 X G (λ_ _ F=>Qi F T gE Yn) λ_ _ _ _ _ _=>cI λ_ _=>rfl
 have Yp:ak l.prog w K mg base 1 "with_one_more_figure" ["ways","base","weight"] zu:=s_ i9 X G (λ_ _ F=>Rn F T) λ_ _ _ _ _ _=>fB λ_ _ _=>rfl
 have LD:ak l.prog w K mg base 2 "ways_of_weights" ["base","weights"] uV:=s_ K0 X G (λ_ _ F=>Rp F T mF mG Yp) λ_ _ _ _ _ _=>cI λ_ _=>rfl
 have Dk:ak l.prog w K mg base 3 "ways_of_parts" ["frame"] uZ:=s_ La X G (λ_ _ F=>RF F T Dj LD) λ_ _ _ _ _ _=>de λ_=>rfl
 have Yq:ak l.prog w K mg base 1 "ways_with" ["ways_by_part","total"] zy:=s_ mQ X G (λ_ _ F=>RG F) λ_ _ _ _ _ _=>cI λ_ _=>rfl
 have Yr:ak l.prog w K mg base 6 "even_by_sums" ["frame"] zA:=s_ mR X G (λ_ _ F=>RH F gE Dk Yq) λ_ _ _ _ _ _=>de λ_=>rfl
 have jo:ak l.prog w K mg base 7 "count_even" ["frame"] vD:=s_ Lb X G (λ_ _ F=>UU F T Yr) λ_ _ _ _ _ _=>de λ_=>rfl
 have Ys:ak l.prog w K mg base 1 "weighted_sum" ["figures","weights"] zT:=s_ Lc X G (λ_ _ F=>S4 F T) λ_ _ _ _ _ _=>cI λ_ _=>rfl
 have Yt:ak l.prog w K mg base 1 "number_of" ["base","figures"] zM:=s_ Ld X G (λ_ _ F=>Si F) λ_ _ _ _ _ _=>cI λ_ _=>rfl
 have Yu:ak l.prog w K mg base 1 "part_beginnings" ["frame","head","end"] Ad:=s_ Lf X G (λ_ _ F=>Ts F T) λ_ _ _ _ _ _=>fB λ_ _ _=>rfl
 have Yv:ak l.prog w K mg base 9 "stretches_below" ["frame","n"] Ah:=s_ Lg X G (λ_ _ F=>TK F T Di Yo) λ_ _ _ _ _ _=>cI λ_ _=>rfl
 have pS:ak l.prog w K mg base 2 "need_miss" ["thing"] mX:=s_ Ck X G (λ_ _ F=>IT F nJ) λ_ _ _ _ _ _=>de λ_=>rfl
 have Yw:ak l.prog w K mg base 1 "running_counts" ["ways","low","high"] zH:=s_ Lh X G (λ_ _ F=>R8 F T) λ_ _ _ _ _ _=>fB λ_ _ _=>rfl
 have Yx:ak l.prog w K mg base 1 "ways_within" ["running_by_part","start","end"] zI:=s_ Li X G (λ_ _ F=>Sa F) λ_ _ _ _ _ _=>fB λ_ _ _=>rfl
 have Dl:ak l.prog w K mg base 2 "count_spread_within" ["ways_by_part","width"] vc:=s_ Lj X G (λ_ _ F=>Sc F T Yw Yx) λ_ _ _ _ _ _=>cI λ_ _=>rfl
 have Yy:ak l.prog w K mg base 3 "tails_of_part" ["base","weights"] Ak:=s_ mS X G (λ_ _ F=>T6 F T LD) λ_ _ _ _ _ _=>cI λ_ _=>rfl
 have Dm:ak l.prog w K mg base 4 "tails_of_parts" ["frame"] Al:=s_ Lk X G (λ_ _ F=>T9 F Dj Yy) λ_ _ _ _ _ _=>de λ_=>rfl
 have Yz:ak l.prog w K mg base 2 "ways_from_beginnings" ["rows","weights","tails"] Am:=s_ Ll X G (λ_ _ F=>Ud F T Ys) λ_ _ _ _ _ _=>fB λ_ _ _=>rfl
 have LE:ak l.prog w K mg base 3 "count_begun" ["frame","tails_by_part","d","head","end"] vz:=s_ Lm X G (λ_ _ F=>Uu F T Yu Dj Yz Dl) λ_ _ _ _ _ _=>KZ λ_ _ _ _ _=>rfl
 have YA:ak l.prog w K mg base 10 "count_below" ["frame","tails_by_part","d","n"] Aw:=s_ Ln X G (λ_ _ F=>UD F T Yv LE) λ_ _ _ _ _ _=>wO λ_ _ _ _=>rfl
 have vV:ak l.prog w K mg base 6 "count_near" ["frame","d"] rD:=s_ Cl X G (λ_ _ F=>Jl F gE pS Dk Dl) λ_ _ _ _ _ _=>cI λ_ _=>rfl
 have YB:ak l.prog w K mg base 4 "figure_and_rest" ["frame","tails_by_part","d","head","k"] Ax:=s_ Lo X G (λ_ _ F=>UH F LE) λ_ _ _ _ _ _=>KZ λ_ _ _ _ _=>rfl
 have Dn:ak l.prog w K mg base 11 "number_at" ["frame","tails_by_part","d","k"] Ay:=s_ Lp X G (λ_ _ F=>UM F T Di YA YB Yt) λ_ _ _ _ _ _=>wO λ_ _ _ _=>rfl
 have Do:ak l.prog w K mg base 2 "need_place" ["thing"] rC:=s_ Cm X G (λ_ _ F=>Je F nJ) λ_ _ _ _ _ _=>de λ_=>rfl
 have LF:ak l.prog w K mg base 12 "near_by" ["frame","d","k"] pi:=s_ wQ X G (λ_ _ F=>AB F gE pS Do Dm Dn) λ_ _ _ _ _ _=>fB λ_ _ _=>rfl
 have ZU:ak l.prog w K mg base 12 "near_by" ["frame","d","k"] Jm:=s_ wQ X G (λ_ _ F=>(AB F gE pS Do Dm Dn).imp UW) λ_ _ _ _ _ _=>fB λ_ _ _=>rfl
 have vW:ak l.prog w K mg base 13 "even_by" ["frame","k"] rE:=s_ Cn X G (λ_ _ F=>(Jh F LF).imp Jn) λ_ _ _ _ _ _=>cI λ_ _=>rfl
 have YC:fx l.prog w K mg base 2 "need_miss" ["thing"] (dc mX (pH c4)):=nH Ck X G (λ_ _ F=>(IT F nJ).up.or (WC F nJ o4 en.n4)) λ_ _ _ _ _ _=>de λ_=>rfl
 have YD:fx l.prog w K mg base 2 "need_place" ["thing"] (dc rC (pH c1)):=nH Cm X G (λ_ _ F=>(Je F nJ).up.or (WD F nJ o1 en.n1)) λ_ _ _ _ _ _=>de λ_=>rfl
 have YE:fx l.prog w K mg base 6 "count_near" ["frame","d"] (dc rD (pJ c4 bP)):=nH Cl X G (λ_ _ F=>(Jl F gE pS Dk Dl).up.or (WO F gE YC)) λ_ _ _ _ _ _=>cI λ_ _=>rfl
 have YF:fx l.prog w K mg base 12 "near_by" ["frame","d","k"] (dc pi (Bu c1 bP)):=nH wQ X G (λ_ _ F=>(AB F gE pS Do Dm Dn).up.or (WE F gE pS YD)) λ_ _ _ _ _ _=>fB λ_ _ _=>rfl
 have YG:fx l.prog w K mg base 13 "even_by" ["frame","k"] (dc rE (pJ c1 bP)):=nH Cn X G (λ_ _ F=>((Jh F LF).imp Jn).up.or (WP F YF)) λ_ _ _ _ _ _=>cI λ_ _=>rfl
 have jn:ak l.prog w K mg base 1 "copy_of" ["frame"] lg:=s_ Lq X G (λ_ _ F=>VN F T) λ_ _ _ _ _ _=>de λ_=>rfl
 have vY:ak l.prog w K mg base 3 "with_weight" ["frame","place","weight"] rM:=s_ Co X G (λ_ _ F=>JI F T jX jn) λ_ _ _ _ _ _=>fB λ_ _ _=>rfl
 have B8:vR l.prog w K mg base 6 "Keeper" C ["self","frame"] (vT C):=Yh wS wR kC (a0D X G aC) (λ_ _ F=>VP F nS gE jn cl) λ_ _ _ _ _ _=>cI λ_ _=>rfl
 have iH:dN l.prog w K mg base 1 C "changes" ["self"] (pC C):=pR Cu (λ_ _ F=>VR F T nS cl) λ_ _ _ _ _ _=>de λ_=>rfl
 have nD:dN l.prog w K mg base 2 C "frame" ["self"] (vU C):=pR Cv (λ_ _ F=>VS F nS jn cl) λ_ _ _ _ _ _=>de λ_=>rfl
 have wm:dN l.prog w K mg base 7 C "near" ["self","d"] (rP C):=pR wT (λ_ _ F=>JL F nS vV cl) λ_ _ _ _ _ _=>cI λ_ _=>rfl
 have BK:dN l.prog w K mg base 14 C "even" ["self","k"] (rQ C):=pR wU (λ_ _ F=>JM F nS vW cl) λ_ _ _ _ _ _=>cI λ_ _=>rfl
 have B0:dN l.prog w K mg base 8 C "weigh" ["self","place","weight"] (rN C):=pR wV (λ_ _ F=>JN F nS vY jo cl) λ_ _ _ _ _ _=>fB λ_ _ _=>rfl
 have B7:dN l.prog w K mg base 8 C "undo" ["self"] (rO C):=pR wW (λ_ _ F=>JO F nS jo cl iH) λ_ _ _ _ _ _=>de λ_=>rfl
 have YH:fx l.prog w K mg base 3 "with_weight" ["frame","place","weight"] (dc rM (Bv c2 c1)):=nH Co X G (λ_ _ F=>(JI F T jX jn).up.or (WI F T jX o2 en.n2 o1 en.n1)) λ_ _ _ _ _ _=>fB λ_ _ _=>rfl
 have YI:iL l.prog w K mg base 8 C "undo" ["self"] (dc (rO C) (Bx C c1)):=wP wW (λ_ _ F=>(JO F nS jo cl iH).up.or (WK F cl iH o1 en.n1)) λ_ _ _ _ _ _=>de λ_=>rfl
 have YJ:iL l.prog w K mg base 8 C "weigh" ["self","place","weight"] (dc (rN C) (Bw C c2 c1)):=wP wV (λ_ _ F=>(JN F nS vY jo cl).up.or (WJ F cl nS YH)) λ_ _ _ _ _ _=>fB λ_ _ _=>rfl
 have YK:iL l.prog w K mg base 7 C "near" ["self","d"] (dc (rP C) (pK C c4)):=wP wT (λ_ _ F=>(JL F nS vV cl).up.or (WR F cl nS YE)) λ_ _ _ _ _ _=>cI λ_ _=>rfl
 have YL:iL l.prog w K mg base 14 C "even" ["self","k"] (dc (rQ C) (pK C c1)):=wP wU (λ_ _ F=>(JM F nS vW cl).up.or (WS F cl nS YG)) λ_ _ _ _ _ _=>cI λ_ _=>rfl
 have YM:wf l.prog w K mg base 6 "Keeper" C ["self","frame"] (Bz c0):=Yi wS wR kC (a0D X G aC) (λ_ _ F=>WQ F Ym) λ_ _ _ _ _ _=>cI λ_ _=>rfl
 have BS:ak l.prog w K mg base 1 "_law_cell" ["script","k"] (zh K):=s_ Lr X G (λ_ _ F=>Re F T) λ_ _ _ _ _ _=>cI λ_ _=>rfl
 have BT:ak l.prog w K mg base 1 "_law_store" ["cell"] zi:=s_ Ls X G (λ_ _ F=>Rf F) λ_ _ _ _ _ _=>de λ_=>rfl
 have fS:ak l.prog w K mg base 1 "_law_take" ["store","many"] F_:=s_ Lu X G (λ_ _ F=>Rg F) λ_ _ _ _ _ _=>cI λ_ _=>rfl
 have BU:ak l.prog w K mg base 2 "_law_frame" ["store","longest"] zj:=s_ Lv X G (λ_ _ F=>Rh F T fS) λ_ _ _ _ _ _=>cI λ_ _=>rfl
 have LG:ak l.prog w K mg base 1 "_law_kind" ["e","due"] (rV K (cs [c0,c1,c2,c3,c4,c5,c6,c7,c8,c9])):=s_ Lw X G (λ_ _ F=>Wx F T en) λ_ _ _ _ _ _=>cI λ_ _=>rfl
 have BW:ak l.prog w K mg base 2 "_law_no_frame" ["store","frame"] AW:=s_ Lx X G (λ_ _ F=>VI F T fS) λ_ _ _ _ _ _=>cI λ_ _=>rfl
 have lu:ak l.prog w K mg base 15 "_law_word" ["keeper","door","one","other"] (lr C (cs [c0,c1,c2,c3,c4,c5,c6,c7,c8,c9])):=s_ Ly X G (λ_ _ F=>WZ (c:=(cs [c0,c1,c2,c3,c4,c5,c6,c7,c8,c9])) F (a0D X G eB) u1 u2 u4 y1 y2 y4 LG cl YJ YI YK YL) λ_ _ _ _ _ _=>wO λ_ _ _ _=>rfl
 have BY:ak l.prog w K mg base 8 "_law_no_keeper" ["bad"] BE:=s_ Lz X G (λ_ _ F=>W5 (c:=(cs [c0,c1,c2,c3,c4,c5,c6,c7,c8,c9])) F (a0D X G eB) u0 y0 LG YM) λ_ _ _ _ _ _=>de λ_=>rfl
 have wD:ak l.prog w K mg base 15 "_law_stand" ["keeper"] (BH C):=s_ LA X G (λ_ _ F=>Xk F cl nD iH wm BK) λ_ _ _ _ _ _=>de λ_=>rfl
 have BZ:ak l.prog w K mg base 16 "_law_all_refused" ["store","keeper","frame"] (BI C):=s_ LB X G (λ_ _ F=>Xl F T hW fS lu) λ_ _ _ _ _ _=>fB λ_ _ _=>rfl
 have BV:ak l.prog w K mg base 1 "_law_copy" ["frame"] lg:=s_ LC X G (λ_ _ F=>XF F T) λ_ _ _ _ _ _=>de λ_=>rfl
 exact XG F T hW BS BT fS BU BV BW BY wD BZ lu cl nD iH B0 B7 B8
theorem walk{l:PySem.W.OpenLaw}{q:Program}{og:List Str}{XP:(Str->Option Value)->Heap->Prop}{YP:World->Heap->Prop}{d:DefRec}{K:Params->PySem.W.Frag}(hn:l.most=some 63)(qh:d.params.defaults=[])
  (hY:∀(w:World) (h:Heap),YP w h->(K w.params).In h)
  (F:∀(w:World) (mg:Str->Option Value) (fa:Addr) (h:Heap),(K w.params).In h->h.Ns mainGlobals mg->mg d.name=some (.ref fa)->
   ∃fd:FuncData,(∀(s:Shared) (u:Value),BindsTo s fd ⟨[u],[]⟩ [("script",u)])/\∀base:Heap,(K w.params).In base->base.Ns mainGlobals mg->ax l.prog w (K w.params) mg base aK 17 fa fd ["script"] (vC (K w.params))) :
  PySem.W.WalkO q og XP YP l.row.toRowW d [] (λf vs=>PySem.call f vs) :=
 L2.N7 (n:=63) (k:=17) (x:="script") (CX:=λ_=>aK) (sp:=λw=>vC (K w.params)) hn (by decide) qh ⟨rfl,by decide,by decide,rfl⟩ hY F (λ_ _ a ns hl _ hS=>⟨a,ns,rfl,hS,hl,λ_=>rfl⟩) λ_ _ _ _ _ z=>z
end Hv
open PySem PySem.W PyProof.Rows
namespace PySem.W.Fast
def tw7710766805191751176:=0
def tw17996655392231619087:=0
def tw12233503516448571114:=0
def tw14635247421334547297:=0
def tw4916553846316600871:=0
def tw13943476299648447651:=0
def tw17113980120947835124:=0
def tw11743406612955503142:=0
def tw4370513767535291924:=0
def tw1812420195934304755:=0
def tw8494428402705362500:=0
def tw13300905227881034685:=0
def tw6329907168669594009:=0
def tw11946639073778921523:=0
def tw8341899408296326813:=0
def tw12727890462917879381:=0
def tw7644845459205846062:=0
def tw8989135038988755527:=0
def tw16713425260757943817:=0
def tw17280684727164799145:=0
def tw6084183922562478200:=0
def tw15019160141715183275:=0
def tw9676209569254146777:=0
def tw11140405365527710461:=0
def tw4558719724725417440:=0
def tw6013373510197712857:=0
def tw7166452964769127736:=0
def tw6160714028948966386:=0
def tw3260766181526537292:=0
def tw5674469723951525493:=0
def tw10405796368209493839:=0
def tw14040866005304590449:=0
def tw7923691083849440212:=0
def tw5552715896528597408:=0
def tw10382420078054808592:=0
def tw17599706696341473488:=0
def tw17397047728157841745:=0
def tw343311269858340369:=0
def tw15154994940993603169:=0
def tw1908539570857951929:=0
def tw7631555354169374416:=0
def tw2616401967286221509:=0
def tw5176273951453692174:=0
def tw8561741143600747684:=0
def tw12843333901705286571:=0
def tw17717923234179088296:=0
def tw12925486451355603022:=0
def tw8041845021136433995:=0
def tw9957476026111901217:=0
def tw2229023856775040142:=0
def tw4205054347513690190:=0
def tw8372455961822540881:=0
def tw8037617263297515652:=0
def tw11972700299847835127:=0
def tw13422595084340451678:=0
def tw13124298463237273910:=0
def tw13134298525539227326:=0
def tw9715950291509834014:=0
def tw16733808168056558355:=0
def tw9189207846288484678:=0
def tw2954064076334961636:=0
def tw282137386624842436:=0
def tw10659093711444758783:=0
def tw1469393757359859346:=0
def tw4443188871687823603:=0
def tw18279226018132987388:=0
def tw9770052727405669733:=0
def tw17451126871350436372:=0
def tw4672586894351011603:=0
def tw4411521948233779556:=0
def tw15382230414394810326:=0
def tw15748994455070482267:=0
def tw11475687171942372362:=0
def tw5032202301940385984:=0
def tw15692492056206914274:=0
def tw1528926101758967027:=0
def tw12720451383756999910:=0
def tw16608751908997191184:=0
def tw17640111169267486111:=0
def tw4232003364103512022:=0
def tw1635403418600287545:=0
def tw14329240478752270323:=0
def tw6943478230184118320:=0
def tw11599934651390311351:=0
def tw14667706447543821583:=0
def tw2373073918726806090:=0
def tw16925798691116318440:=0
def tw14703282152293166059:=0
def tw15756941860528269527:=0
def tw3533409866310293627:=0
def tw12059185832722450137:=0
def tw10117422316354507090:=0
def tw10243261337087032216:=0
def tw17299821905845782121:=0
def tw9634197648408436728:=0
def tw17355874118864464128:=0
def tw5493573911995848641:=0
def tw127655014431174728:=0
def tw2239758537867539097:=0
def tw12478857640475626811:=0
def tw11541498922923523076:=0
def tw6435628710601535365:=0
def tw2858327086736642651:=0
def tw4844178451404843637:=0
def tw7325235554881753586:=0
def tw7788097638913700733:=0
def tw7831156869334763615:=0
def tw7158668603355466616:=0
def tw3817509060205718255:=0
def tw18412548840339474005:=0
def tw4200269562714724840:=0
def tw853924102382511470:=0
def tw10004608779039418922:=0
def tw4752205001112864265:=0
def tw17093155694628111737:=0
def tw9576790018829298711:=0
def tw6316460050124068483:=0
def tw57536870013900336:=0
def tw2138707233066186856:=0
def tw17345627289340793319:=0
def tw4946897591577906144:=0
def tw11567678757591243319:=0
def tw13479681340976615231:=0
def tw15333217282972665241:=0
def tw7696403798360131721:=0
def tw14035249220004773330:=0
def tw14093691211748884525:=0
def tw321865826008826125:=0
def tw2441936689475914709:=0
def tw17553246691007139939:=0
def tw14940390004936370576:=0
def tw12030948452160650505:=0
def tw8864250860581865325:=0
def tw18143152430230030570:=0
def tw9409225190669961151:=0
def tw8921116429855883012:=0
def tw12793405643699960092:=0
def tw1973382399194505800:=0
def tw15298935688357487748:=0
def tw17753013502112175982:=0
def tw9406460070999988841:=0
def tw7744640392176784875:=0
def tw14064814240804607239:=0
def tw1193397434411157347:=0
def tw17461123130723424411:=0
def tw13743533870618000254:=0
def tw13592804445924142456:=0
def tw3187450653194351920:=0
def tw4049984747436554228:=0
def tw10309840806579466660:=0
def tw17659865110338838815:=0
def tw5004368825981262372:=0
def tw13607688996641077633:=0
def tw8295538108014903207:=0
def tw7605336156546288137:=0
def tw3480247545911009491:=0
def tw17733023511478109783:=0
def tw9285206063328010322:=0
def tw6841365058186894774:=0
def tw3973949472708293924:=0
def tw17294737093849358789:=0
def tw14402105794373788083:=0
def tw9403361171328665369:=0
def tw8645620712205894079:=0
def tw543515022696415619:=0
def tw3464326031901639942:=0
def tw16849943636312025950:=0
def tw10998815483236552049:=0
def tw1878917291153543064:=0
def tw3439660007442595299:=0
def tw1738591273587515747:=0
def tw5870296237642522594:=0
def tw5944519984752097903:=0
def tw457639751370846850:=0
def tw6948597830765105099:=0
def tw971842350867158879:=0
def tw15284467351154872254:=0
def tw14360485826777236877:=0
def tw11927012215654488691:=0
def tw8736104529667185476:=0
def tw5837842853466408765:=0
def tw2239161478849037669:=0
def tw14623450635781374344:=0
def tw18362964745717928321:=0
def tw16789939540648611732:=0
def tw10859826034143027749:=0
def tw15804503680224460933:=0
def tw18091215352600548771:=0
def tw3770447533056499879:=0
def tw7657997190363749048:=0
def tw424827025312897464:=0
def tw6052986932838883384:=0
def tw5710391797234042949:=0
def tw14853048902116080989:=0
def tw4997087520238651362:=0
def tw981290081552006965:=0
def tw16048170445302761369:=0
def tw13488651043196659899:=0
def tw1969457262463236410:=0
def tw11613989949212662017:=0
def tw5641505454070770697:=0
def tw13814766327075258192:=0
def tw14247085952620966046:=0
def tw17600334129641705024:=0
def tw16938214907414768857:=0
def tw5718146229914829983:=0
def tw3549772514482826762:=0
def tw18114575103898319818:=0
def tw17117966317813335158:=0
def tw15438690419976384983:=0
def tw14766959100019828780:=0
def tw10025458204966027277:=0
def tw7791778525852320534:=0
def tw14856522093971151974:=0
def tw8963232999429044353:=0
def tw2999688359730974080:=0
def tw4184287863083159805:=0
def tw5638325480965854140:=0
def tw9466013390003633746:=0
def tw11727883099574550286:=0
def tw2056873724502819338:=0
def tw1905558638948548629:=0
def tw5014110246277152835:=0
def tw5351956635411119461:=0
def tw3362239745622925217:=0
def tw1626483036162800603:=0
def tw6462787009460302379:=0
def tw14658736467758587715:=0
def tw7665687027591271632:=0
def tw869267284190157334:=0
def tw4458855942993400133:=0
def tw17445044762402463595:=0
def tw10055207531705968693:=0
def tw5052691268320521396:=0
def tw682553142887827447:=0
def tw17022056680772304879:=0
def tw3767314590370131608:=0
def tw15232986308978226719:=0
def tw2256786417883780178:=0
def tw9859674163985620494:=0
def tw16422847807518457836:=0
def tw10000277618079975934:=0
def tw15362260732585931093:=0
def tw17831095392098667131:=0
def tw12135597227671488348:=0
def tw11130664006625272312:=0
def tw16993280225974967613:=0
def tw13717185634597979297:=0
def tw1639346002321799108:=0
def tw13318370302599955736:=0
def tw9694548470187775026:=0
def tw7798432714539764026:=0
def tw2165739409818951600:=0
def tw6750867388198587004:=0
def tw17516177536815939744:=0
def tw14317065162815591401:=0
def tw7028497506139108030:=0
def tw12401835624073629359:=0
def tw3994188940248878078:=0
def tw12753552433377394170:=0
def tw3672384342556622300:=0
def tw17429480363645554342:=0
def tw5915924819034602864:=0
def tw16880875546217374345:=0
def tw14750304234078995184:=0
def tw17388352287916676772:=0
def tw8607200804011666428:=0
def tw889070677352721237:=0
def tw13457526534160079830:=0
def tw14268428635241962381:=0
def tw4415525102376915880:=0
def tw16613340403410295330:=0
def tw10305312863888602732:=0
def tw4843483281791040626:=0
def tw12766918299278108262:=0
def tw6367599426373522944:=0
def tw11214084775764022590:=0
def tw10247067063983475992:=0
def tw10869909038276251471:=0
def tw2489442976305612489:=0
def tw12947691413563587653:=0
def tw1135392736832868843:=0
def tw2340702543472196590:=0
def tw5842636826587617395:=0
def tw10080396082631097435:=0
def tw7339262614753239047:=0
def tw14240070890521756017:=0
def tw16709757877055837073:=0
def tw3825177402318147147:=0
def tw10690965575623390983:=0
def tw3590569761739623798:=0
def tw9774098720363847791:=0
def tw10710428583637652598:=0
def tw8247938593012807609:=0
def tw241931492335582072:=0
def tw2177246984724351968:=0
def tw5790603048449487603:=0
def tw13860270131762979489:=0
def tw14020332278400983642:=0
def tw17113199883680450448:=0
def tw14349052986616895588:=0
def tw5123644324058364441:=0
def tw8280306039081400077:=0
def tw2503417922132462470:=0
def tw13560068201666463983:=0
def tw8821626099285393883:=0
def tw15704673902346200698:=0
def tw3807396192484784342:=0
def tw5016290366477405054:=0
def tw2429283209387029125:=0
def tw10328169933358664285:=0
def tw13876381238165708363:=0
def tw3300517552679131666:=0
def tw7572252418936975219:=0
def tw10549661406873427718:=0
def tw10707918859244192225:=0
def tw6154804829334906387:=0
def tw13577593614056282413:=0
def tw8492996054650907562:=0
def tw10581745995676391646:=0
def tw412897953706736732:=0
def tw11546347462252641293:=0
def tw17272582068481739996:=0
def tw2978711915200838303:=0
def tw15185929434560804398:=0
def tw9330598353349522502:=0
def tw17851370756119035578:=0
def tw8359202485205422344:=0
def tw11004570424587744507:=0
def tw8173728036128869958:=0
def tw7869177120828120425:=0
def tw18301942870888291327:=0
def tw11947880449448945131:=0
def tw9213265669203048571:=0
def tw11734225636606511973:=0
def tw12042275223026331783:=0
def tw3559133881535394713:=0
def tw15343525351917207791:=0
def tw1754105950127721949:=0
def tw2553174227925975864:=0
def tw17261304925430285958:=0
def tw7740151098242349638:=0
def tw9237997337506491096:=0
def tw11763977765740935669:=0
def tw4864670468381324899:=0
def tw2919702390970737441:=0
def tw16928976227262603526:=0
def tw16739349962572273521:=0
def tw15878110105638298533:=0
def tw10538573815098225403:=0
def tw12642123473026887753:=0
def tw14272124624481256004:=0
def tw13799838049856651730:=0
def tw445120475303949575:=0
def tw10997685049373135728:=0
def tw2893738410562620782:=0
def tw5622306324753853522:=0
def tw10566502253766066961:=0
def tw15265646596353461899:=0
def tw8716234282780362952:=0
def tw5006247770122601722:=0
def tw12032897786675573584:=0
def tw17756508825870761793:=0
def tw7131986873123799058:=0
def tw4872971931870286775:=0
def tw1589354100369661418:=0
def tw11688816453470994697:=0
def tw2337003304484439875:=0
def tw10411170608353042995:=0
def tw15726329457056301250:=0
def tw9073399199313206987:=0
def tw229066899308687419:=0
def tw13081782773922948072:=0
def tw6598032776582058375:=0
def tw15829818838295718092:=0
def tw11878874075526224000:=0
def tw8736838753646386621:=0
def tw1315462323149085431:=0
def tw5486912742329698732:=0
def tw12218938696104656155:=0
def tw717340546529338898:=0
def tw3355230213013889950:=0
def tw14972796526467069447:=0
def tw5126411306636357653:=0
def tw1014170407780759713:=0
def tw11633880120888140358:=0
def tw12788262384435754466:=0
def tw16263746080820391148:=0
def tw9891785859696521846:=0
def tw7416024280850368539:=0
def tw10223830397018607629:=0
def tw1782060134915683963:=0
def tw5596334876590782579:=0
def tw14253805687941108300:=0
def tw13774351829086830970:=0
def tw3082387121389179176:=0
def tw10681919274533185037:=0
def tw16447625710178307640:=0
def tw17080234599877249728:=0
def tw9942901932437740488:=0
def tw1477190113393352488:=0
def tw2992590508842467382:=0
def tw4559014898886169637:=0
def tw8967774963091113960:=0
def tw10261061399274807383:=0
def tw3993477419112939469:=0
def tw11278380270308212302:=0
def tw3342098586868892498:=0
def tw3029003749358492340:=0
def tw14970620220507685600:=0
def tw4923143996274963681:=0
def tw1568305659718445604:=0
def tw2254739179541838967:=0
def tw9882665404816879175:=0
def tw6127704297044779153:=0
def tw5375856714654067363:=0
def tw17585300295123664279:=0
def tw16495144537573209137:=0
def tw5222311130097511070:=0
def tw12307809401190573815:=0
def tw10340576182307837245:=0
def tw8840123801736732423:=0
def tw7150616195890540321:=0
def tw4688311796779441850:=0
def tw9100148368611649036:=0
def tw14703171694877426022:=0
def tw5838034466549586742:=0
def tw12770565184999127094:=0
def tw10798458707180173862:=0
def tw9607121341924040181:=0
def tw7008356561902448082:=0
def tw12557733173860860977:=0
def tw15200740881627536878:=0
def tw6116125244727190828:=0
def tw12459758647922269716:=0
def tw14392595597333802077:=0
def tw9442098579683029876:=0
def tw3237821528767456361:=0
def tw12601599763925375615:=0
def tw10884490177420099474:=0
def tw6616395765666609536:=0
def tw7020161133415100455:=0
def tw3964654772905440332:=0
def tw14728283150238764398:=0
def tw13834386530270922959:=0
def tw13625943706576339839:=0
def tw14130776669792302008:=0
def tw14769211078934936391:=0
def tw5616041052270326750:=0
def tw17986929843344476097:=0
def tw4671504606571098735:=0
def tw362346853797056994:=0
def tw15033649081199307037:=0
def tw6954756712315508764:=0
def tw625056430967105531:=0
def tw12819553735657816238:=0
def tw260371268724240941:=0
def tw14770966595374654509:=0
def tw5947285699456511374:=0
def tw1432219746860026951:=0
def tw9557090545868198103:=0
def tw8691642260715661083:=0
def tw2762475486159725518:=0
def tw15811903614291635163:=0
def tw16907943819961886150:=0
def tw6947117550712047277:=0
def tw8644207529547900266:=0
def tw349667340111894418:=0
def tw8534105781026425423:=0
def tw2346804546597914255:=0
def tw13088046011517148754:=0
def tw9210347812717950813:=0
def tw3169534752062248237:=0
def tw7053232913337570442:=0
def tw10415780134225513010:=0
def tw10230816363503268210:=0
def tw11217496255924301755:=0
def tw13082584197080306556:=0
def tw419658754327052174:=0
def tw14893013527653201160:=0
def tw645449453448088467:=0
def tw9720303321954902495:=0
def tw9652284583953285350:=0
def tw16625653681215620326:=0
def tw11009470781775234836:=0
def tw7235210467561317883:=0
def tw3672462939692059883:=0
def tw8442823562189211750:=0
def tw13606076981995057693:=0
def tw4201806590867304455:=0
def tw4579546447729818504:=0
def tw6521243258129085423:=0
def tw4864314461026735556:=0
def tw11381646791659689693:=0
def tw9356674841911529989:=0
def tw10110751157445691282:=0
def tw5586156177389278519:=0
def tw9899352486063522509:=0
def tw15317761047757526158:=0
def tw11142546578276951568:=0
def tw11656749055799989725:=0
def tw6459356294733626225:=0
def tw14688856369142125789:=0
def tw7604364676877133777:=0
def tw17572155661794745990:=0
def tw1305175449137790631:=0
def tw14841176630648757623:=0
def tw9373237345256526309:=0
def tw10808450850630382580:=0
def tw2656891757107012519:=0
end PySem.W.Fast
set_option maxRecDepth 100000 in
set_option maxHeartbeats 0 in
theorem PySem.Challenge.cw_likehalves_k34_what_a_keeper_refuses_holds : PySem.Challenge.rw_likehalves_k34_what_a_keeper_refuses.Holds := by
 w_on;o_law;k_head;(case hw=>w_witness2)
 k_fill
 refine Hv.walk (l := PySem.Challenge.rw_likehalves_k34_what_a_keeper_refuses) rfl rfl (λw h Y => PySem.W.kIn_of Y) ?F
 case F =>
  intro w mg fa h KX G qi
  refine' Hv.Yj KX G qi ?t ?i0 ?i1 ?i2 ?i3 ?i4 ?i5 ?i6 ?i7 ?i8 ?i9 ?K0 ?La ?mQ ?mR ?Lb ?Lc ?Ld ?Lf ?Lg ?Ck ?Lh ?Li ?Lj ?mS ?Lk ?Ll ?Lm ?Ln ?Cl ?Lo ?Lp ?Cm ?wQ ?Cn ?Lq ?Co ?Lr ?Ls ?Lu ?Lv ?Lw ?Lx ?Ly ?Lz ?LA ?LB ?LC ?aC ?Cq ?Cr ?Cs ?Ct ?wR ?kC ?nS ?wS ?Cu ?Cv ?wT ?wU ?wV ?wW ?eB ?e0 ?e1 ?e2 ?e3 ?e4 ?e5 ?e6 ?e7 ?e8 ?e9 ?tB ?mB ?q0 ?m0 ?l0 ?v0 ?Cw ?Cy ?Cz ?CA ?CB ?CC ?CD ?CF ?CG ?CH ?q1 ?m1 ?l1 ?v1 ?CI ?CJ ?CL ?CO ?CP ?CQ ?CS ?CT ?CU ?CV ?q2 ?m2 ?l2 ?v2 ?CW ?CY ?CZ ?C1 ?C2 ?C3 ?C4 ?C5 ?C6 ?C7 ?q4 ?m4 ?l4 ?v4 ?C8 ?C9 ?Da ?Db ?Dc ?Dd ?De ?Df ?Dg ?Dh ?mF ?mG ?hW ?se ?jl
  case aC=>k_is
  case Cq=>k_is
  case Cr=>k_is
  case Cs=>k_is
  case Ct=>k_is
  case wR=>k_is
  case kC=>k_is
  case nS=>k_is
  case wS =>
   refine' Hv.nI ?a ?i ?l ?c ?k
   (case a=>k_is);(case i=>k_is);(case l=>k_is);(case c=>k_is);(case k=>k_is)
  case Cu =>
   refine' Hv.nI ?a ?i ?l ?c ?k
   (case a=>k_is);(case i=>k_is);(case l=>k_is);(case c=>k_is);(case k=>k_is)
  case Cv =>
   refine' Hv.nI ?a ?i ?l ?c ?k
   (case a=>k_is);(case i=>k_is);(case l=>k_is);(case c=>k_is);(case k=>k_is)
  case wT =>
   refine' Hv.nI ?a ?i ?l ?c ?k
   (case a=>k_is);(case i=>k_is);(case l=>k_is);(case c=>k_is);(case k=>k_is)
  case wU =>
   refine' Hv.nI ?a ?i ?l ?c ?k
   (case a=>k_is);(case i=>k_is);(case l=>k_is);(case c=>k_is);(case k=>k_is)
  case wV =>
   refine' Hv.nI ?a ?i ?l ?c ?k
   (case a=>k_is);(case i=>k_is);(case l=>k_is);(case c=>k_is);(case k=>k_is)
  case wW =>
   refine' Hv.nI ?a ?i ?l ?c ?k
   (case a=>k_is);(case i=>k_is);(case l=>k_is);(case c=>k_is);(case k=>k_is)
  case eB=>k_is
  case e0=>k_is
  case e1=>k_is
  case e2=>k_is
  case e3=>k_is
  case e4=>k_is
  case e5=>k_is
  case e6=>k_is
  case e7=>k_is
  case e8=>k_is
  case e9=>k_is
  case tB=>k_is
  case mB=>k_is
  case q0=>kernel_rfl
  case m0=>k_is
  case l0=>exact⟨by k_is,by k_is,by kernel_rfl,by k_is,by k_is⟩
  case v0=>kernel_rfl
  case Cw=>kernel_rfl
  case Cy=>kernel_rfl
  case Cz=>kernel_rfl
  case CA=>kernel_rfl
  case CB=>kernel_rfl
  case CC=>kernel_rfl
  case CD=>kernel_rfl
  case CF=>kernel_rfl
  case CG=>kernel_rfl
  case CH=>kernel_rfl
  case q1=>kernel_rfl
  case m1=>k_is
  case l1=>exact⟨by k_is,by k_is,by kernel_rfl,by k_is,by k_is⟩
  case v1=>kernel_rfl
  case CI=>kernel_rfl
  case CJ=>kernel_rfl
  case CL=>kernel_rfl
  case CO=>kernel_rfl
  case CP=>kernel_rfl
  case CQ=>kernel_rfl
  case CS=>kernel_rfl
  case CT=>kernel_rfl
  case CU=>kernel_rfl
  case CV=>kernel_rfl
  case q2=>kernel_rfl
  case m2=>k_is
  case l2=>exact⟨by k_is,by k_is,by kernel_rfl,by k_is,by k_is⟩
  case v2=>kernel_rfl
  case CW=>kernel_rfl
  case CY=>kernel_rfl
  case CZ=>kernel_rfl
  case C1=>kernel_rfl
  case C2=>kernel_rfl
  case C3=>kernel_rfl
  case C4=>kernel_rfl
  case C5=>kernel_rfl
  case C6=>kernel_rfl
  case C7=>kernel_rfl
  case q4=>kernel_rfl
  case m4=>k_is
  case l4=>exact⟨by k_is,by k_is,by kernel_rfl,by k_is,by k_is⟩
  case v4=>kernel_rfl
  case C8=>kernel_rfl
  case C9=>kernel_rfl
  case Da=>kernel_rfl
  case Db=>kernel_rfl
  case Dc=>kernel_rfl
  case Dd=>kernel_rfl
  case De=>kernel_rfl
  case Df=>kernel_rfl
  case Dg=>kernel_rfl
  case Dh=>kernel_rfl
  case mF=>k_is
  case mG=>k_is
  case hW=>k_is
  case se=>k_is
  case t=>refine⟨?_,?_,?_,?_,?_,?_,?_,?_,?_,?_,?_,?_,?_,?_⟩ <;> k_is
  all_goals
   refine' Hv.Yf ?a ?l ?c ?k
   (case a=>k_is);(case l=>k_is);(case c=>k_is);(case k=>k_is)
#print axioms PySem.Challenge.cw_likehalves_k34_what_a_keeper_refuses_holds
